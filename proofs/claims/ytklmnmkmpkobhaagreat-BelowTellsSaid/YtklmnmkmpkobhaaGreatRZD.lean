/-
  Contracts of the reference's integers, over what values are worth.
-/
import Derived.Test.YtklmnmkmpkobhaaGreatRZC
namespace Go.Proofs.YtklmnmkmpkobhaaGreat
open Go.RowKit
set_option linter.unusedSimpArgs false
set_option linter.unusedVariables false

namespace M
theorem ref_rest (Z Y : Int) : Z - Z.fdiv Y * Y = Z.fmod Y := by
 have := Int.mul_fdiv_add_fmod Z Y
 rw [Int.mul_comm] at this; omega
theorem sign_nn {Z : Int} (h : 0 ≤ Z) : 0 ≤ Z.sign := by rcases sign_cases Z with ⟨_, e⟩ | ⟨_, e⟩ | ⟨_, e⟩ <;> omega
theorem ref_step {Z Y : Int} (hY : Y ≠ 0) (hd : (decide (Z < 0) != decide (Y < 0)) = true) (hr : Z.natAbs % Y.natAbs ≠ 0) : Z.natAbs / Y.natAbs + 1 = (Z.fdiv Y).natAbs ∧ Z.fdiv Y < 0 := by
 have hz : Z ≠ 0 := by rintro rfl; simp at hr
 have h : Z.sign * Y.sign = -1 ∧ (Z.sign * ((Z.natAbs % Y.natAbs : Nat) : Int)).sign * Y.sign < 0 := by
  by_cases ha : Z < 0 <;> by_cases hb : Y < 0 <;> simp [ha, hb] at hd
  ·have e := Int.sign_eq_neg_one_of_neg ha
   have f := Int.sign_eq_one_of_pos (show 0 < Y by omega)
   rw [e, f, Int.sign_eq_neg_one_of_neg (show -1 * ((Z.natAbs % Y.natAbs : Nat) : Int) < 0 by omega)]
   decide
  ·have e := Int.sign_eq_one_of_pos (show 0 < Z by omega)
   have f := Int.sign_eq_neg_one_of_neg hb
   rw [e, f, Int.sign_eq_one_of_pos (show 0 < 1 * ((Z.natAbs % Y.natAbs : Nat) : Int) by omega)]
   decide
 have := (floor_step h.2).1
 rw [h.1] at this
 generalize Z.natAbs / Y.natAbs = q at *
 omega
theorem ref_keep {Z Y : Int} (hY : Y ≠ 0) {d : Bool} (hd : (decide (Z < 0) != decide (Y < 0)) = d) (h : d = false ∨ Z.natAbs % Y.natAbs = 0) : Z.natAbs / Y.natAbs = (Z.fdiv Y).natAbs ∧ (Z.natAbs / Y.natAbs ≠ 0 → d = decide (Z.fdiv Y < 0)) := by
 have hk : ¬ (Z.sign * ((Z.natAbs % Y.natAbs : Nat) : Int)).sign * Y.sign < 0 := by
  rcases h with h | h
  ·subst h
   by_cases ha : Z < 0 <;> by_cases hb : Y < 0 <;> simp [ha, hb] at hd
   ·have e := Int.sign_eq_neg_one_of_neg ha
    have f := Int.sign_eq_neg_one_of_neg hb
    rw [e, f]
    rcases Nat.eq_zero_or_pos (Z.natAbs % Y.natAbs) with h0 | h0
    ·rw [h0]; decide
    ·rw [Int.sign_eq_neg_one_of_neg (show -1 * ((Z.natAbs % Y.natAbs : Nat) : Int) < 0 by omega)]; decide
   ·have f := Int.sign_eq_one_of_pos (show 0 < Y by omega)
    rw [f]
    have : 0 ≤ Z.sign * ((Z.natAbs % Y.natAbs : Nat) : Int) := Int.mul_nonneg (sign_nn (by omega)) (by omega)
    have := sign_nn this
    omega
  ·rw [h]; simp
 have e := (floor_keep hk).1
 have q := quo_parts Z Y
 rw [← e] at q
 refine ⟨q.1, fun hn => ?_⟩
 rw [q.1] at hn
 have hs := q.2 hn
 have hz : Z ≠ 0 := by rintro rfl; simp at hn
 have hx := M.sign_neg (Z.fdiv Y)
 rw [← hs] at hx
 subst hd
 by_cases ha : Z < 0 <;> by_cases hb : Y < 0
 ·rw [Int.sign_eq_neg_one_of_neg ha, Int.sign_eq_neg_one_of_neg hb] at hx
  rw [decide_eq_true ha, decide_eq_true hb, decide_eq_false (fun h => absurd (hx.2 h) (by decide))]; rfl
 ·rw [Int.sign_eq_neg_one_of_neg ha, Int.sign_eq_one_of_pos (show 0 < Y by omega)] at hx
  rw [decide_eq_true ha, decide_eq_false hb, decide_eq_true (hx.1 (by decide))]; rfl
 ·rw [Int.sign_eq_one_of_pos (show 0 < Z by omega), Int.sign_eq_neg_one_of_neg hb] at hx
  rw [decide_eq_false ha, decide_eq_true hb, decide_eq_true (hx.1 (by decide))]; rfl
 ·rw [Int.sign_eq_one_of_pos (show 0 < Z by omega), Int.sign_eq_one_of_pos (show 0 < Y by omega)] at hx
  rw [decide_eq_false ha, decide_eq_false hb, decide_eq_false (fun h => absurd (hx.2 h) (by decide))]; rfl
end M
theorem Box.row1 {w : World} {g : Nat} {t : TypeId} (h : Box w g #[.int .u32 1] t) : IsN w (.slice (some ⟨g, 0, none⟩) 1 1) 1 1 := by
 have e : M.limbs 1 = [1] := by rw [M.limbs_pos (by decide), show 1 / 1000000000 = 0 from rfl, M.limbs_zero]
 refine ⟨?_, by rw [e]; decide⟩
 rw [e]
 refine ⟨_, 1, 1, rfl, rfl, Nat.le_refl _, by unfold maxLen; omega, by simp, fun _ => ⟨_, rfl, h.lt, fun i x hx => ?_⟩⟩
 rcases i with _ | i
 ·simp at hx; subst hx; rw [Addr.add_lit]; exact h.cell (o := 0) rfl
 ·simp at hx

set_option maxHeartbeats 2000000 in
theorem rFloor_zero {w : World} {u v : Value} {Z Y : Int} {j k : Nat} (hu : Worth w u Z j) (hv : Worth w v Y k) (hj : j ≤ 100000) (hk : k ≤ 100000) (hy : Y = 0) :
 Calls Tryz.prog 80 #[u, v] w (GivesZ2 w (Z.fdiv Y) (max j 1 + 1) (Z.fmod Y) (max j (max j 1 + 1 + k) + 1)) := by
 obtain ⟨g, A, n, c, rfl⟩ := hu.shape
 obtain ⟨g', A', n', c', rfl⟩ := hv.shape
 have R := hid hu
 have R' := hid hv
 clear hu hv
 have HY := hid hy
 clear hj hk hy
 obtain ⟨s, hs⟩ : ∃ s : Int, Y.sign = s := ⟨_, rfl⟩
 have hsz : (s == 0) = true := by have hy := HY.out; rw [← hs, Bool.eq_iff_iff]; simp [Int.sign_eq_zero_iff_zero, hy]
 have HS := hid hs
 clear hs
 go_enter Tryz.func80, Tryz.ntmps80
 go_upto_region 1 with (fail)
 obtain ⟨E, B1, B2, B3, B4⟩ := open4 w #[.bool g, .slice A n c] 25 #[.bool g', .slice A' n' c'] 25 #[.bool false, .slice none 0 0] 25 #[.bool false, .slice none 0 0] 25
 replace R := hid (R.out.up E.out)
 replace R' := hid (R'.out.up E.out)
 refine wp_region_L [(0, 0), (2, 0), (1, 2), (3, 2), (4, 3), (5, 3), (6, 4), (7, 4)] 25 #[.bool false, .slice none 0 0] fun wd hb => ?_
 replace E := hid (E.out.trans hb)
 replace B1 := hid (B1.out.up hb)
 replace B2 := hid (B2.out.up hb)
 replace B3 := hid (B3.out.up hb)
 replace B4 := hid (B4.out.up hb)
 replace R := hid (R.out.up hb)
 replace R' := hid (R'.out.up hb)
 clear hb
 have HL1B1 := hid B1.out.lt
 have HL1B2 := hid B2.out.lt
 have HL1B3 := hid B3.out.lt
 have HL1B4 := hid B4.out.lt
 have HW1 := hid (show w.heap.size ≤ wd.heap.size from E.out.size)
 refine WE.q 12 (.agg #[.bool g, .slice A n c]) rfl (fun w' hk => by have c0 := (B1.out.up hk).k 0; have c1 := (B1.out.up hk).k 1; go_simp) ?_
 refine WE.q 14 (.agg #[.bool g', .slice A' n' c']) rfl (fun w' hk => by have c0 := (B2.out.up hk).k 0; have c1 := (B2.out.up hk).k 1; go_simp) ?_
 refine WE.callR (d := some 13) rfl rfl (by rfl) (f := 60) (args := #[(.agg #[.bool g, .slice A n c])]) (fun w => by go_simp) (fun wx hx0 => ?_)
 replace E := hid (E.out.trans hx0)
 replace B3 := hid (B3.out.up hx0)
 replace B4 := hid (B4.out.up hx0)
 replace R := hid (R.out.up hx0)
 replace R' := hid (R'.out.up hx0)
 clear hx0
 refine (rMay_w R.out).mono ?_
 rintro e wn ⟨vx, rfl, hx, hb⟩
 obtain ⟨g1, A1, n1, c1, rfl, hs1, hr1⟩ := hx.form
 clear hx
 refine ⟨_, rfl, hb, ?_⟩
 replace E := hid (E.out.trans hb)
 replace B3 := hid (B3.out.up hb)
 replace B4 := hid (B4.out.up hb)
 replace R' := hid (R'.out.up hb)
 have HS1 := hid hs1
 have R1 := hid hr1
 clear hb hs1 hr1
 refine WE.callR (d := some 15) rfl rfl (by rfl) (f := 60) (args := #[(.agg #[.bool g', .slice A' n' c'])]) (fun w => by go_simp) (fun wx hx0 => ?_)
 replace E := hid (E.out.trans hx0)
 replace B3 := hid (B3.out.up hx0)
 replace B4 := hid (B4.out.up hx0)
 replace R' := hid (R'.out.up hx0)
 replace R1 := hid (R1.out.up hx0)
 clear hx0
 refine (rMay_w R'.out).mono ?_
 rintro e wn ⟨vx, rfl, hx, hb⟩
 obtain ⟨g2, A2, n2, c2, rfl, hs2, hr2⟩ := hx.form
 clear hx
 refine ⟨_, rfl, hb, ?_⟩
 replace E := hid (E.out.trans hb)
 replace B3 := hid (B3.out.up hb)
 replace B4 := hid (B4.out.up hb)
 replace R1 := hid (R1.out.up hb)
 have HS2 := hid hs2
 have R2 := hid hr2
 clear hb hs2 hr2
 simp only [Act.put, pA, pB, pC]
 refine WE.var (d := some 6) rfl fun gC1 wv hx0 hbox hge hng => ?_
 have HNC1B3 := hid (show gC1 ≠ (w.heap.size + 2) by have := HL1B3.out; omega)
 have HNC1B4 := hid (show gC1 ≠ (w.heap.size + 3) by have := HL1B4.out; omega)
 have HGC1 := hid (show w.heap.size ≤ gC1 by have := HW1.out; omega)
 replace E := hid (E.out.trans hx0)
 replace B3 := hid (B3.out.up hx0)
 replace B4 := hid (B4.out.up hx0)
 replace R1 := hid (R1.out.up hx0)
 replace R2 := hid (R2.out.up hx0)
 have C1 : Hid (Box wv gC1 #[.bool false, .slice none 0 0] 25) := hid hbox
 clear hx0 hbox hge hng
 simp only [Act.put, pA, pB, pC]
 refine WE.var (d := some 7) rfl fun gC2 wv hx0 hbox hge hng => ?_
 have HNC2B3 := hid (show gC2 ≠ (w.heap.size + 2) by have := HL1B3.out; omega)
 have HNC2B4 := hid (show gC2 ≠ (w.heap.size + 3) by have := HL1B4.out; omega)
 have HNC2C1 := hid (show gC2 ≠ gC1 by intro e; exact hng (by simp [e]))
 have HGC2 := hid (show w.heap.size ≤ gC2 by have := HW1.out; omega)
 replace E := hid (E.out.trans hx0)
 replace B3 := hid (B3.out.up hx0)
 replace B4 := hid (B4.out.up hx0)
 replace C1 := hid (C1.out.up hx0)
 replace R1 := hid (R1.out.up hx0)
 replace R2 := hid (R2.out.up hx0)
 have C2 : Hid (Box wv gC2 #[.bool false, .slice none 0 0] 25) := hid hbox
 clear hx0 hbox hge hng
 simp only [Act.put, pA, pB, pC]
 refine WE.store2 (g := gC1) (x := .bool g1) (y := .slice A1 n1 c1) (t := 25) rfl rfl (by rfl) (fun w hb => ?_) C1.out (by rfl) fun ws hk hs => ?_
 ·have c0 := hb.k 0; have f0 := hb.free 0; have c1 := hb.k 1; have f1 := hb.free 1; go_simp
 intro hbx
 replace E := hid (E.out.keptG hk HGC1.out)
 replace B3 := hid (B3.out.kept hk (by simpa using HNC1B3.out.symm))
 replace B4 := hid (B4.out.kept hk (by simpa using HNC1B4.out.symm))
 replace C1 := hid hbx
 replace C2 := hid (C2.out.kept hk (by simpa using HNC2C1.out))
 replace R1 := hid (R1.out.kz hs)
 replace R2 := hid (R2.out.kz hs)
 clear hk hs hbx
 refine WE.store2 (g := gC2) (x := .bool g2) (y := .slice A2 n2 c2) (t := 25) rfl rfl (by rfl) (fun w hb => ?_) C2.out (by rfl) fun ws hk hs => ?_
 ·have c0 := hb.k 0; have f0 := hb.free 0; have c1 := hb.k 1; have f1 := hb.free 1; go_simp
 intro hbx
 replace E := hid (E.out.keptG hk HGC2.out)
 replace B3 := hid (B3.out.kept hk (by simpa using HNC2B3.out.symm))
 replace B4 := hid (B4.out.kept hk (by simpa using HNC2B4.out.symm))
 replace C1 := hid (C1.out.kept hk (by simpa using HNC2C1.out.symm))
 replace C2 := hid hbx
 replace R1 := hid (R1.out.kz hs)
 replace R2 := hid (R2.out.kz hs)
 clear hk hs hbx
 refine WE.done ?_
 go_upto_region 2 with (fail)
 refine wp_region_S [(0, 0), (1, 1), (2, 0)] fun wd hb => ?_
 replace E := hid (E.out.trans hb)
 replace B3 := hid (B3.out.up hb)
 replace B4 := hid (B4.out.up hb)
 replace C1 := hid (C1.out.up hb)
 replace C2 := hid (C2.out.up hb)
 replace R1 := hid (R1.out.up hb)
 replace R2 := hid (R2.out.up hb)
 clear hb
 refine WE.q 16 (.agg #[.bool g2, .slice A2 n2 c2]) rfl (fun w' hk => by have c0 := (C2.out.up hk).k 0; have c1 := (C2.out.up hk).k 1; go_simp) ?_
 refine WE.call (d := some 17) rfl rfl (by rfl) (f := 39) (args := #[(.agg #[.bool g2, .slice A2 n2 c2])]) (by go_simp) ?_
 refine (rSign_w (IsZ.mk HS2.out R2.out).worth HS.out).mono ?_
 rintro e wn ⟨rfl, hb⟩
 refine ⟨_, rfl, hb, ?_⟩
 replace E := hid (E.out.trans hb)
 replace B3 := hid (B3.out.up hb)
 replace B4 := hid (B4.out.up hb)
 replace C1 := hid (C1.out.up hb)
 replace R1 := hid (R1.out.up hb)
 clear hb
 refine WE.p 18 (.bool true) ?_
 simp only [Act.put, pA, pB, pC]
 refine WE.done ?_
 go_upto_region 3 with (fail)
 refine wp_region_D [(0, 0), (1, 0), (2, 1), (3, 4)] fun wd hb => ?_
 replace E := hid (E.out.trans hb)
 replace B3 := hid (B3.out.up hb)
 replace B4 := hid (B4.out.up hb)
 replace C1 := hid (C1.out.up hb)
 replace R1 := hid (R1.out.up hb)
 clear hb
 refine WE.p 19 (.agg #[.bool false, .slice none 0 0]) ?_
 refine WE.q 20 (.agg #[.bool g1, .slice A1 n1 c1]) rfl (fun w' hk => by have c0 := (C1.out.up hk).k 0; have c1 := (C1.out.up hk).k 1; go_simp) ?_
 simp only [Act.put, pA, pB, pC]
 refine WE.store2s (g := (w.heap.size + 2)) (x := .bool false) (y := .slice none 0 0) (t := 25) rfl rfl (by rfl) (fun w hb => ?_) B3.out fun ws hb => ?_
 ·have c0 := hb.k 0; have f0 := hb.free 0; have c1 := hb.k 1; have f1 := hb.free 1; go_simp
 replace E := hid (E.out.trans hb)
 replace B3 := hid (B3.out.up hb)
 replace B4 := hid (B4.out.up hb)
 replace R1 := hid (R1.out.up hb)
 clear hb
 refine WE.store2 (g := (w.heap.size + 3)) (x := .bool g1) (y := .slice A1 n1 c1) (t := 25) rfl rfl (by rfl) (fun w hb => ?_) B4.out (by rfl) fun ws hk hs => ?_
 ·have c0 := hb.k 0; have f0 := hb.free 0; have c1 := hb.k 1; have f1 := hb.free 1; go_simp
 intro hbx
 replace E := hid (E.out.keptG hk (by simp))
 replace B3 := hid (B3.out.kept hk (by simp))
 replace B4 := hid hbx
 replace R1 := hid (R1.out.kz hs)
 clear hk hs hbx
 refine WE.done ?_
 have r0 := B3.out.cell (o := 0) (v := .bool false) rfl
 have r1 := B3.out.cell (o := 1) (v := .slice none 0 0) rfl
 have r2 := B4.out.cell (o := 0) (v := .bool g1) rfl
 have r3 := B4.out.cell (o := 1) (v := .slice A1 n1 c1) rfl
 go_wp2
 exact bodyPost_ret (v := .tuple #[.agg #[.bool false, .slice none 0 0], .agg #[.bool g1, .slice A1 n1 c1]]) (by simp [results, Tryz.results80, go_sem, r0, r1, r2, r3]) rfl ⟨_, _, rfl, (by rw [HY.out, Int.fdiv_zero]; exact IsZ.nought.wide (Nat.zero_le _)), (by rw [HY.out, Int.fmod_zero]; exact (IsZ.mk HS1.out R1.out).wide (by omega)), E.out⟩

set_option maxHeartbeats 2000000 in
theorem rFloor_step {w : World} {u v : Value} {Z Y : Int} {j k : Nat} (hu : Worth w u Z j) (hv : Worth w v Y k) (hj : j ≤ 100000) (hk : k ≤ 100000) (hy : Y ≠ 0) (hd : (decide (Z < 0) != decide (Y < 0)) = true) (hr : Z.natAbs % Y.natAbs ≠ 0) :
 Calls Tryz.prog 80 #[u, v] w (GivesZ2 w (Z.fdiv Y) (max j 1 + 1) (Z.fmod Y) (max j (max j 1 + 1 + k) + 1)) := by
 obtain ⟨g, A, n, c, rfl⟩ := hu.shape
 obtain ⟨g', A', n', c', rfl⟩ := hv.shape
 have R := hid hu
 have R' := hid hv
 clear hu hv
 have HJ := hid hj
 have HK := hid hk
 have HY := hid hy
 have HD := hid hd
 have HR := hid hr
 clear hj hk hy hd hr
 obtain ⟨s, hs⟩ : ∃ s : Int, Y.sign = s := ⟨_, rfl⟩
 have hsz : (s == 0) = false := by have hy := HY.out; rw [← hs, Bool.eq_iff_iff]; simp [Int.sign_eq_zero_iff_zero, hy]
 have HS := hid hs
 clear hs
 go_enter Tryz.func80, Tryz.ntmps80
 go_upto_region 1 with (fail)
 obtain ⟨E, B1, B2, B3, B4⟩ := open4 w #[.bool g, .slice A n c] 25 #[.bool g', .slice A' n' c'] 25 #[.bool false, .slice none 0 0] 25 #[.bool false, .slice none 0 0] 25
 replace R := hid (R.out.up E.out)
 replace R' := hid (R'.out.up E.out)
 refine wp_region_L [(0, 0), (2, 0), (1, 2), (3, 2), (4, 3), (5, 3), (6, 4), (7, 4)] 25 #[.bool false, .slice none 0 0] fun wd hb => ?_
 replace E := hid (E.out.trans hb)
 replace B1 := hid (B1.out.up hb)
 replace B2 := hid (B2.out.up hb)
 replace B3 := hid (B3.out.up hb)
 replace B4 := hid (B4.out.up hb)
 replace R := hid (R.out.up hb)
 replace R' := hid (R'.out.up hb)
 clear hb
 have HL1B1 := hid B1.out.lt
 have HL1B2 := hid B2.out.lt
 have HL1B3 := hid B3.out.lt
 have HL1B4 := hid B4.out.lt
 have HW1 := hid (show w.heap.size ≤ wd.heap.size from E.out.size)
 refine WE.q 12 (.agg #[.bool g, .slice A n c]) rfl (fun w' hk => by have c0 := (B1.out.up hk).k 0; have c1 := (B1.out.up hk).k 1; go_simp) ?_
 refine WE.q 14 (.agg #[.bool g', .slice A' n' c']) rfl (fun w' hk => by have c0 := (B2.out.up hk).k 0; have c1 := (B2.out.up hk).k 1; go_simp) ?_
 refine WE.callR (d := some 13) rfl rfl (by rfl) (f := 60) (args := #[(.agg #[.bool g, .slice A n c])]) (fun w => by go_simp) (fun wx hx0 => ?_)
 replace E := hid (E.out.trans hx0)
 replace B3 := hid (B3.out.up hx0)
 replace B4 := hid (B4.out.up hx0)
 replace R := hid (R.out.up hx0)
 replace R' := hid (R'.out.up hx0)
 clear hx0
 refine (rMay_w R.out).mono ?_
 rintro e wn ⟨vx, rfl, hx, hb⟩
 obtain ⟨g1, A1, n1, c1, rfl, hs1, hr1⟩ := hx.form
 clear hx
 refine ⟨_, rfl, hb, ?_⟩
 replace E := hid (E.out.trans hb)
 replace B3 := hid (B3.out.up hb)
 replace B4 := hid (B4.out.up hb)
 replace R' := hid (R'.out.up hb)
 have HS1 := hid hs1
 have R1 := hid hr1
 clear hb hs1 hr1
 refine WE.callR (d := some 15) rfl rfl (by rfl) (f := 60) (args := #[(.agg #[.bool g', .slice A' n' c'])]) (fun w => by go_simp) (fun wx hx0 => ?_)
 replace E := hid (E.out.trans hx0)
 replace B3 := hid (B3.out.up hx0)
 replace B4 := hid (B4.out.up hx0)
 replace R' := hid (R'.out.up hx0)
 replace R1 := hid (R1.out.up hx0)
 clear hx0
 refine (rMay_w R'.out).mono ?_
 rintro e wn ⟨vx, rfl, hx, hb⟩
 obtain ⟨g2, A2, n2, c2, rfl, hs2, hr2⟩ := hx.form
 clear hx
 refine ⟨_, rfl, hb, ?_⟩
 replace E := hid (E.out.trans hb)
 replace B3 := hid (B3.out.up hb)
 replace B4 := hid (B4.out.up hb)
 replace R1 := hid (R1.out.up hb)
 have HS2 := hid hs2
 have R2 := hid hr2
 clear hb hs2 hr2
 simp only [Act.put, pA, pB, pC]
 refine WE.var (d := some 6) rfl fun gC1 wv hx0 hbox hge hng => ?_
 have HNC1B3 := hid (show gC1 ≠ (w.heap.size + 2) by have := HL1B3.out; omega)
 have HNC1B4 := hid (show gC1 ≠ (w.heap.size + 3) by have := HL1B4.out; omega)
 have HGC1 := hid (show w.heap.size ≤ gC1 by have := HW1.out; omega)
 replace E := hid (E.out.trans hx0)
 replace B3 := hid (B3.out.up hx0)
 replace B4 := hid (B4.out.up hx0)
 replace R1 := hid (R1.out.up hx0)
 replace R2 := hid (R2.out.up hx0)
 have C1 : Hid (Box wv gC1 #[.bool false, .slice none 0 0] 25) := hid hbox
 clear hx0 hbox hge hng
 simp only [Act.put, pA, pB, pC]
 refine WE.var (d := some 7) rfl fun gC2 wv hx0 hbox hge hng => ?_
 have HNC2B3 := hid (show gC2 ≠ (w.heap.size + 2) by have := HL1B3.out; omega)
 have HNC2B4 := hid (show gC2 ≠ (w.heap.size + 3) by have := HL1B4.out; omega)
 have HNC2C1 := hid (show gC2 ≠ gC1 by intro e; exact hng (by simp [e]))
 have HGC2 := hid (show w.heap.size ≤ gC2 by have := HW1.out; omega)
 replace E := hid (E.out.trans hx0)
 replace B3 := hid (B3.out.up hx0)
 replace B4 := hid (B4.out.up hx0)
 replace C1 := hid (C1.out.up hx0)
 replace R1 := hid (R1.out.up hx0)
 replace R2 := hid (R2.out.up hx0)
 have C2 : Hid (Box wv gC2 #[.bool false, .slice none 0 0] 25) := hid hbox
 clear hx0 hbox hge hng
 simp only [Act.put, pA, pB, pC]
 refine WE.store2 (g := gC1) (x := .bool g1) (y := .slice A1 n1 c1) (t := 25) rfl rfl (by rfl) (fun w hb => ?_) C1.out (by rfl) fun ws hk hs => ?_
 ·have c0 := hb.k 0; have f0 := hb.free 0; have c1 := hb.k 1; have f1 := hb.free 1; go_simp
 intro hbx
 replace E := hid (E.out.keptG hk HGC1.out)
 replace B3 := hid (B3.out.kept hk (by simpa using HNC1B3.out.symm))
 replace B4 := hid (B4.out.kept hk (by simpa using HNC1B4.out.symm))
 replace C1 := hid hbx
 replace C2 := hid (C2.out.kept hk (by simpa using HNC2C1.out))
 replace R1 := hid (R1.out.kz hs)
 replace R2 := hid (R2.out.kz hs)
 clear hk hs hbx
 refine WE.store2 (g := gC2) (x := .bool g2) (y := .slice A2 n2 c2) (t := 25) rfl rfl (by rfl) (fun w hb => ?_) C2.out (by rfl) fun ws hk hs => ?_
 ·have c0 := hb.k 0; have f0 := hb.free 0; have c1 := hb.k 1; have f1 := hb.free 1; go_simp
 intro hbx
 replace E := hid (E.out.keptG hk HGC2.out)
 replace B3 := hid (B3.out.kept hk (by simpa using HNC2B3.out.symm))
 replace B4 := hid (B4.out.kept hk (by simpa using HNC2B4.out.symm))
 replace C1 := hid (C1.out.kept hk (by simpa using HNC2C1.out.symm))
 replace C2 := hid hbx
 replace R1 := hid (R1.out.kz hs)
 replace R2 := hid (R2.out.kz hs)
 clear hk hs hbx
 refine WE.done ?_
 go_upto_region 2 with (fail)
 refine wp_region_S [(0, 0), (1, 1), (2, 0)] fun wd hb => ?_
 replace E := hid (E.out.trans hb)
 replace B3 := hid (B3.out.up hb)
 replace B4 := hid (B4.out.up hb)
 replace C1 := hid (C1.out.up hb)
 replace C2 := hid (C2.out.up hb)
 replace R1 := hid (R1.out.up hb)
 replace R2 := hid (R2.out.up hb)
 clear hb
 refine WE.q 16 (.agg #[.bool g2, .slice A2 n2 c2]) rfl (fun w' hk => by have c0 := (C2.out.up hk).k 0; have c1 := (C2.out.up hk).k 1; go_simp) ?_
 refine WE.call (d := some 17) rfl rfl (by rfl) (f := 39) (args := #[(.agg #[.bool g2, .slice A2 n2 c2])]) (by go_simp) ?_
 refine (rSign_w (IsZ.mk HS2.out R2.out).worth HS.out).mono ?_
 rintro e wn ⟨rfl, hb⟩
 refine ⟨_, rfl, hb, ?_⟩
 replace E := hid (E.out.trans hb)
 replace B3 := hid (B3.out.up hb)
 replace B4 := hid (B4.out.up hb)
 replace C1 := hid (C1.out.up hb)
 replace C2 := hid (C2.out.up hb)
 replace R1 := hid (R1.out.up hb)
 replace R2 := hid (R2.out.up hb)
 clear hb
 refine WE.p 18 (.bool false) ?_
 simp only [Act.put, pA, pB, pC]
 refine WE.done ?_
 have hgg : (g1 == g2) = false := by have hd := HD.out; rw [← HS1.out, ← HS2.out] at hd; cases g1 <;> cases g2 <;> first | rfl | exact absurd hd (by decide)
 go_upto_region 4 with (fail)
 refine wp_region_S [(0, 0), (1, 0), (2, 0), (3, 0), (4, 1), (5, 0), (6, 0), (7, 0), (8, 0), (9, 0)] fun wd hb => ?_
 replace E := hid (E.out.trans hb)
 replace B3 := hid (B3.out.up hb)
 replace B4 := hid (B4.out.up hb)
 replace C1 := hid (C1.out.up hb)
 replace C2 := hid (C2.out.up hb)
 replace R1 := hid (R1.out.up hb)
 replace R2 := hid (R2.out.up hb)
 clear hb
 refine WE.p 22 (.pointer (some ⟨gC1, 1, none⟩)) ?_
 refine WE.q 23 (.slice A1 n1 c1) rfl (fun w' hk => by have c1 := (C1.out.up hk).k 1; go_simp) ?_
 refine WE.p 24 (.pointer (some ⟨gC2, 1, none⟩)) ?_
 refine WE.q 25 (.slice A2 n2 c2) rfl (fun w' hk => by have c1 := (C2.out.up hk).k 1; go_simp) ?_
 refine WE.call (d := some 26) rfl rfl (by rfl) (f := 100) (args := #[(.slice A1 n1 c1), (.slice A2 n2 c2)]) (by go_simp) ?_
 refine (rdiv_N R1.out R2.out (Nat.le_trans HJ.out (by omega)) (Nat.le_trans HK.out (by omega))).mono ?_
 rintro e wn ⟨vq, vr, rfl, hq, hr, hb⟩
 obtain ⟨A3, n3, c3, rfl⟩ := hq.1.slice
 obtain ⟨A4, n4, c4, rfl⟩ := hr.1.slice
 refine ⟨_, rfl, hb, ?_⟩
 replace E := hid (E.out.trans hb)
 replace B3 := hid (B3.out.up hb)
 replace B4 := hid (B4.out.up hb)
 replace C1 := hid (C1.out.up hb)
 replace C2 := hid (C2.out.up hb)
 replace R1 := hid (R1.out.up hb)
 replace R2 := hid (R2.out.up hb)
 have R3 := hid hq
 have R4 := hid hr
 clear hb hq hr
 refine WE.p 21 (.tuple #[(.slice A3 n3 c3), (.slice A4 n4 c4)]) ?_
 simp only [Act.put, pA, pB, pC]
 refine WE.p 27 (.slice A3 n3 c3) ?_
 refine WE.p 28 (.slice A4 n4 c4) ?_
 refine WE.p 8 (.slice A3 n3 c3) ?_
 refine WE.p 9 (.slice A4 n4 c4) ?_
 simp only [Act.put, pA, pB, pC]
 refine WE.done ?_
 have hn4 : decide (0 < n4) = true := by have h0 := R4.out.len0; have h1 := HR.out; simp; omega
 go_upto_region 5 with (fail)
 refine wp_region_S [(0, 0), (1, 0), (2, 0), (3, 0), (4, 0), (5, 0), (6, 0), (7, 0), (8, 0), (9, 0)] fun wd hb => ?_
 replace E := hid (E.out.trans hb)
 replace B3 := hid (B3.out.up hb)
 replace B4 := hid (B4.out.up hb)
 replace C1 := hid (C1.out.up hb)
 replace C2 := hid (C2.out.up hb)
 replace R1 := hid (R1.out.up hb)
 replace R2 := hid (R2.out.up hb)
 replace R3 := hid (R3.out.up hb)
 clear hb
 refine WE.p 29 (.pointer (some ⟨gC1, 0, none⟩)) ?_
 refine WE.q 30 (.bool g1) rfl (fun w' hk => by have c0 := (C1.out.up hk).k 0; go_simp) ?_
 refine WE.p 31 (.pointer (some ⟨gC2, 0, none⟩)) ?_
 refine WE.q 32 (.bool g2) rfl (fun w' hk => by have c0 := (C2.out.up hk).k 0; go_simp) ?_
 refine WE.p 33 (.bool true) ?_
 refine WE.p 34 (.bool true) ?_
 simp only [Act.put, pA, pB, pC]
 refine WE.p 35 (.slice A4 n4 c4) ?_
 refine WE.p 36 (.int .i64 (n4 : Int)) ?_
 refine WE.p 37 (.bool true) ?_
 refine WE.p 38 (.bool true) ?_
 simp only [Act.put, pA, pB, pC]
 refine WE.done ?_
 go_upto_region 6 with (fail)
 refine wp_region_S [(0, 0), (1, 1), (2, 1), (3, 1), (4, 1), (5, 4)] fun wd hb => ?_
 replace E := hid (E.out.trans hb)
 replace B3 := hid (B3.out.up hb)
 replace B4 := hid (B4.out.up hb)
 replace C1 := hid (C1.out.up hb)
 replace C2 := hid (C2.out.up hb)
 replace R1 := hid (R1.out.up hb)
 replace R2 := hid (R2.out.up hb)
 replace R3 := hid (R3.out.up hb)
 clear hb
 refine WE.p 39 (.slice A3 n3 c3) ?_
 refine WE.new (d := some 40) (cs := #[.int .u32 1]) (t := 93) (v := fun g => (.slice (some ⟨g, 0, none⟩) 1 1)) rfl rfl (by rfl) (fun w => by go_simp) fun gL1 wv hx0 hbox hge => ?_
 replace E := hid (E.out.trans hx0)
 replace B3 := hid (B3.out.up hx0)
 replace B4 := hid (B4.out.up hx0)
 replace C1 := hid (C1.out.up hx0)
 replace C2 := hid (C2.out.up hx0)
 replace R1 := hid (R1.out.up hx0)
 replace R2 := hid (R2.out.up hx0)
 replace R3 := hid (R3.out.up hx0)
 have L1 : Hid (Box wv gL1 #[.int .u32 1] 93) := hid hbox
 clear hx0 hbox hge
 refine WE.call (d := some 41) rfl rfl (by rfl) (f := 70) (args := #[(.slice A3 n3 c3), (.slice (some ⟨gL1, 0, none⟩) 1 1)]) (by go_simp) ?_
 refine (radd_n R3.out (Box.row1 L1.out) (Nat.le_trans HJ.out (by omega)) (by omega)).mono ?_
 rintro e wn ⟨vx, rfl, hx, hb⟩
 obtain ⟨A5, n5, c5, rfl⟩ := hx.1.slice
 refine ⟨_, rfl, hb, ?_⟩
 replace E := hid (E.out.trans hb)
 replace B3 := hid (B3.out.up hb)
 replace B4 := hid (B4.out.up hb)
 replace C1 := hid (C1.out.up hb)
 replace C2 := hid (C2.out.up hb)
 replace R1 := hid (R1.out.up hb)
 replace R2 := hid (R2.out.up hb)
 have R5 := hid hx
 clear hb hx
 refine WE.call (d := some 42) rfl rfl (by rfl) (f := 69) (args := #[(.bool true), (.slice A5 n5 c5)]) (by go_simp) ?_
 refine (rsign_n R5.out (Z := Z.fdiv Y) (M.ref_step HY.out HD.out HR.out).1 (fun _ => (decide_eq_true (M.ref_step HY.out HD.out HR.out).2).symm)).mono ?_
 rintro e wn ⟨vx, rfl, hx, hb⟩
 obtain ⟨g6, A6, n6, c6, rfl, hs6, hr6⟩ := hx.form
 clear hx
 refine ⟨_, rfl, hb, ?_⟩
 replace E := hid (E.out.trans hb)
 replace B3 := hid (B3.out.up hb)
 replace B4 := hid (B4.out.up hb)
 replace C1 := hid (C1.out.up hb)
 replace C2 := hid (C2.out.up hb)
 replace R1 := hid (R1.out.up hb)
 replace R2 := hid (R2.out.up hb)
 have HS6 := hid hs6
 have R6 := hid hr6
 clear hb hs6 hr6
 refine WE.new (d := some 10) (cs := #[.bool false, .slice none 0 0]) (t := 25) (v := fun g => (.pointer (some ⟨g, 0, none⟩))) rfl rfl (by rfl) (fun w => by go_simp) fun gC3 wv hx0 hbox hge => ?_
 have HNC3B3 := hid (show gC3 ≠ (w.heap.size + 2) by have := B3.out.lt; omega)
 have HNC3B4 := hid (show gC3 ≠ (w.heap.size + 3) by have := B4.out.lt; omega)
 have HNC3C1 := hid (show gC3 ≠ gC1 by have := C1.out.lt; omega)
 have HNC3C2 := hid (show gC3 ≠ gC2 by have := C2.out.lt; omega)
 have HGC3 := hid (show w.heap.size ≤ gC3 by have := E.out.size; omega)
 replace E := hid (E.out.trans hx0)
 replace B3 := hid (B3.out.up hx0)
 replace B4 := hid (B4.out.up hx0)
 replace C1 := hid (C1.out.up hx0)
 replace C2 := hid (C2.out.up hx0)
 replace R1 := hid (R1.out.up hx0)
 replace R2 := hid (R2.out.up hx0)
 replace R6 := hid (R6.out.up hx0)
 have C3 : Hid (Box wv gC3 #[.bool false, .slice none 0 0] 25) := hid hbox
 clear hx0 hbox hge
 simp only [Act.put, pA, pB, pC]
 refine WE.store2 (g := gC3) (x := .bool g6) (y := .slice A6 n6 c6) (t := 25) rfl rfl (by rfl) (fun w hb => ?_) C3.out (by rfl) fun ws hk hs => ?_
 ·have c0 := hb.k 0; have f0 := hb.free 0; have c1 := hb.k 1; have f1 := hb.free 1; go_simp
 intro hbx
 replace E := hid (E.out.keptG hk HGC3.out)
 replace B3 := hid (B3.out.kept hk (by simpa using HNC3B3.out.symm))
 replace B4 := hid (B4.out.kept hk (by simpa using HNC3B4.out.symm))
 replace C1 := hid (C1.out.kept hk (by simpa using HNC3C1.out.symm))
 replace C2 := hid (C2.out.kept hk (by simpa using HNC3C2.out.symm))
 replace C3 := hid hbx
 replace R1 := hid (R1.out.kz hs)
 replace R2 := hid (R2.out.kz hs)
 replace R6 := hid (R6.out.kz hs)
 clear hk hs hbx
 refine WE.done ?_
 have HJ2 := hid (show j ≤ 100000 ∧ k ≤ 100000 from ⟨HJ.out, HK.out⟩)
 go_upto_region 7 with (fail)
 refine wp_region_D [(0, 0), (1, 0), (2, 0), (3, 0), (4, 1), (5, 1), (6, 4), (7, 4)] fun wd hb => ?_
 replace E := hid (E.out.trans hb)
 replace B3 := hid (B3.out.up hb)
 replace B4 := hid (B4.out.up hb)
 replace C1 := hid (C1.out.up hb)
 replace C2 := hid (C2.out.up hb)
 replace C3 := hid (C3.out.up hb)
 replace R1 := hid (R1.out.up hb)
 replace R2 := hid (R2.out.up hb)
 replace R6 := hid (R6.out.up hb)
 clear hb
 refine WE.q 43 (.agg #[.bool g6, .slice A6 n6 c6]) rfl (fun w' hk => by have c0 := (C3.out.up hk).k 0; have c1 := (C3.out.up hk).k 1; go_simp) ?_
 refine WE.q 44 (.agg #[.bool g1, .slice A1 n1 c1]) rfl (fun w' hk => by have c0 := (C1.out.up hk).k 0; have c1 := (C1.out.up hk).k 1; go_simp) ?_
 refine WE.q 45 (.agg #[.bool g6, .slice A6 n6 c6]) rfl (fun w' hk => by have c0 := (C3.out.up hk).k 0; have c1 := (C3.out.up hk).k 1; go_simp) ?_
 refine WE.q 46 (.agg #[.bool g2, .slice A2 n2 c2]) rfl (fun w' hk => by have c0 := (C2.out.up hk).k 0; have c1 := (C2.out.up hk).k 1; go_simp) ?_
 refine WE.call (d := some 47) rfl rfl (by rfl) (f := 38) (args := #[(.agg #[.bool g6, .slice A6 n6 c6]), (.agg #[.bool g2, .slice A2 n2 c2])]) (by go_simp) ?_
 refine (rMul_w (IsZ.mk HS6.out (R6.out.wide (show _ ≤ max j 1 + 1 by omega))).worth (IsZ.mk HS2.out R2.out).worth (by have := HJ2.out; omega) (by have := HJ2.out; omega)).mono ?_
 rintro e wn ⟨vx, rfl, hx, hb⟩
 obtain ⟨g7, A7, n7, c7, rfl, hs7, hr7⟩ := hx.form
 clear hx
 refine ⟨_, rfl, hb, ?_⟩
 replace E := hid (E.out.trans hb)
 replace B3 := hid (B3.out.up hb)
 replace B4 := hid (B4.out.up hb)
 replace R1 := hid (R1.out.up hb)
 replace R6 := hid (R6.out.up hb)
 have HS7 := hid hs7
 have R7 := hid hr7
 clear hb hs7 hr7
 refine WE.call (d := some 48) rfl rfl (by rfl) (f := 37) (args := #[(.agg #[.bool g1, .slice A1 n1 c1]), (.agg #[.bool g7, .slice A7 n7 c7])]) (by go_simp) ?_
 refine (rSub_w (IsZ.mk HS1.out R1.out).worth (IsZ.mk HS7.out R7.out).worth (by have := HJ2.out; omega) (by have := HJ2.out; omega)).mono ?_
 rintro e wn ⟨vx, rfl, hx, hb⟩
 obtain ⟨g8, A8, n8, c8, rfl, hs8, hr8⟩ := hx.form
 clear hx
 refine ⟨_, rfl, hb, ?_⟩
 replace E := hid (E.out.trans hb)
 replace B3 := hid (B3.out.up hb)
 replace B4 := hid (B4.out.up hb)
 replace R6 := hid (R6.out.up hb)
 have HS8 := hid hs8
 have R8 := hid hr8
 clear hb hs8 hr8
 simp only [Act.put, pA, pB, pC]
 refine WE.store2 (g := (w.heap.size + 2)) (x := .bool g6) (y := .slice A6 n6 c6) (t := 25) rfl rfl (by rfl) (fun w hb => ?_) B3.out (by rfl) fun ws hk hs => ?_
 ·have c0 := hb.k 0; have f0 := hb.free 0; have c1 := hb.k 1; have f1 := hb.free 1; go_simp
 intro hbx
 replace E := hid (E.out.keptG hk (by simp))
 replace B3 := hid hbx
 replace B4 := hid (B4.out.kept hk (by simp))
 replace R6 := hid (R6.out.kz hs)
 replace R8 := hid (R8.out.kz hs)
 clear hk hs hbx
 refine WE.store2 (g := (w.heap.size + 3)) (x := .bool g8) (y := .slice A8 n8 c8) (t := 25) rfl rfl (by rfl) (fun w hb => ?_) B4.out (by rfl) fun ws hk hs => ?_
 ·have c0 := hb.k 0; have f0 := hb.free 0; have c1 := hb.k 1; have f1 := hb.free 1; go_simp
 intro hbx
 replace E := hid (E.out.keptG hk (by simp))
 replace B3 := hid (B3.out.kept hk (by simp))
 replace B4 := hid hbx
 replace R6 := hid (R6.out.kz hs)
 replace R8 := hid (R8.out.kz hs)
 clear hk hs hbx
 refine WE.done ?_
 have r0 := B3.out.cell (o := 0) (v := .bool g6) rfl
 have r1 := B3.out.cell (o := 1) (v := .slice A6 n6 c6) rfl
 have r2 := B4.out.cell (o := 0) (v := .bool g8) rfl
 have r3 := B4.out.cell (o := 1) (v := .slice A8 n8 c8) rfl
 go_wp2
 exact bodyPost_ret (v := .tuple #[.agg #[.bool g6, .slice A6 n6 c6], .agg #[.bool g8, .slice A8 n8 c8]]) (by simp [results, Tryz.results80, go_sem, r0, r1, r2, r3]) rfl ⟨_, _, rfl, IsZ.mk HS6.out (R6.out.wide (by omega)), (IsZ.to (IsZ.mk HS8.out R8.out) (M.ref_rest Z Y)).wide (by omega), E.out⟩

set_option maxHeartbeats 2000000 in
theorem rFloor_exact {w : World} {u v : Value} {Z Y : Int} {j k : Nat} (hu : Worth w u Z j) (hv : Worth w v Y k) (hj : j ≤ 100000) (hk : k ≤ 100000) (hy : Y ≠ 0) (hd : (decide (Z < 0) != decide (Y < 0)) = true) (hr : Z.natAbs % Y.natAbs = 0) :
 Calls Tryz.prog 80 #[u, v] w (GivesZ2 w (Z.fdiv Y) (max j 1 + 1) (Z.fmod Y) (max j (max j 1 + 1 + k) + 1)) := by
 obtain ⟨g, A, n, c, rfl⟩ := hu.shape
 obtain ⟨g', A', n', c', rfl⟩ := hv.shape
 have R := hid hu
 have R' := hid hv
 clear hu hv
 have HJ := hid hj
 have HK := hid hk
 have HY := hid hy
 have HD := hid hd
 have HR := hid hr
 clear hj hk hy hd hr
 obtain ⟨s, hs⟩ : ∃ s : Int, Y.sign = s := ⟨_, rfl⟩
 have hsz : (s == 0) = false := by have hy := HY.out; rw [← hs, Bool.eq_iff_iff]; simp [Int.sign_eq_zero_iff_zero, hy]
 have HS := hid hs
 clear hs
 go_enter Tryz.func80, Tryz.ntmps80
 go_upto_region 1 with (fail)
 obtain ⟨E, B1, B2, B3, B4⟩ := open4 w #[.bool g, .slice A n c] 25 #[.bool g', .slice A' n' c'] 25 #[.bool false, .slice none 0 0] 25 #[.bool false, .slice none 0 0] 25
 replace R := hid (R.out.up E.out)
 replace R' := hid (R'.out.up E.out)
 refine wp_region_L [(0, 0), (2, 0), (1, 2), (3, 2), (4, 3), (5, 3), (6, 4), (7, 4)] 25 #[.bool false, .slice none 0 0] fun wd hb => ?_
 replace E := hid (E.out.trans hb)
 replace B1 := hid (B1.out.up hb)
 replace B2 := hid (B2.out.up hb)
 replace B3 := hid (B3.out.up hb)
 replace B4 := hid (B4.out.up hb)
 replace R := hid (R.out.up hb)
 replace R' := hid (R'.out.up hb)
 clear hb
 have HL1B1 := hid B1.out.lt
 have HL1B2 := hid B2.out.lt
 have HL1B3 := hid B3.out.lt
 have HL1B4 := hid B4.out.lt
 have HW1 := hid (show w.heap.size ≤ wd.heap.size from E.out.size)
 refine WE.q 12 (.agg #[.bool g, .slice A n c]) rfl (fun w' hk => by have c0 := (B1.out.up hk).k 0; have c1 := (B1.out.up hk).k 1; go_simp) ?_
 refine WE.q 14 (.agg #[.bool g', .slice A' n' c']) rfl (fun w' hk => by have c0 := (B2.out.up hk).k 0; have c1 := (B2.out.up hk).k 1; go_simp) ?_
 refine WE.callR (d := some 13) rfl rfl (by rfl) (f := 60) (args := #[(.agg #[.bool g, .slice A n c])]) (fun w => by go_simp) (fun wx hx0 => ?_)
 replace E := hid (E.out.trans hx0)
 replace B3 := hid (B3.out.up hx0)
 replace B4 := hid (B4.out.up hx0)
 replace R := hid (R.out.up hx0)
 replace R' := hid (R'.out.up hx0)
 clear hx0
 refine (rMay_w R.out).mono ?_
 rintro e wn ⟨vx, rfl, hx, hb⟩
 obtain ⟨g1, A1, n1, c1, rfl, hs1, hr1⟩ := hx.form
 clear hx
 refine ⟨_, rfl, hb, ?_⟩
 replace E := hid (E.out.trans hb)
 replace B3 := hid (B3.out.up hb)
 replace B4 := hid (B4.out.up hb)
 replace R' := hid (R'.out.up hb)
 have HS1 := hid hs1
 have R1 := hid hr1
 clear hb hs1 hr1
 refine WE.callR (d := some 15) rfl rfl (by rfl) (f := 60) (args := #[(.agg #[.bool g', .slice A' n' c'])]) (fun w => by go_simp) (fun wx hx0 => ?_)
 replace E := hid (E.out.trans hx0)
 replace B3 := hid (B3.out.up hx0)
 replace B4 := hid (B4.out.up hx0)
 replace R' := hid (R'.out.up hx0)
 replace R1 := hid (R1.out.up hx0)
 clear hx0
 refine (rMay_w R'.out).mono ?_
 rintro e wn ⟨vx, rfl, hx, hb⟩
 obtain ⟨g2, A2, n2, c2, rfl, hs2, hr2⟩ := hx.form
 clear hx
 refine ⟨_, rfl, hb, ?_⟩
 replace E := hid (E.out.trans hb)
 replace B3 := hid (B3.out.up hb)
 replace B4 := hid (B4.out.up hb)
 replace R1 := hid (R1.out.up hb)
 have HS2 := hid hs2
 have R2 := hid hr2
 clear hb hs2 hr2
 simp only [Act.put, pA, pB, pC]
 refine WE.var (d := some 6) rfl fun gC1 wv hx0 hbox hge hng => ?_
 have HNC1B3 := hid (show gC1 ≠ (w.heap.size + 2) by have := HL1B3.out; omega)
 have HNC1B4 := hid (show gC1 ≠ (w.heap.size + 3) by have := HL1B4.out; omega)
 have HGC1 := hid (show w.heap.size ≤ gC1 by have := HW1.out; omega)
 replace E := hid (E.out.trans hx0)
 replace B3 := hid (B3.out.up hx0)
 replace B4 := hid (B4.out.up hx0)
 replace R1 := hid (R1.out.up hx0)
 replace R2 := hid (R2.out.up hx0)
 have C1 : Hid (Box wv gC1 #[.bool false, .slice none 0 0] 25) := hid hbox
 clear hx0 hbox hge hng
 simp only [Act.put, pA, pB, pC]
 refine WE.var (d := some 7) rfl fun gC2 wv hx0 hbox hge hng => ?_
 have HNC2B3 := hid (show gC2 ≠ (w.heap.size + 2) by have := HL1B3.out; omega)
 have HNC2B4 := hid (show gC2 ≠ (w.heap.size + 3) by have := HL1B4.out; omega)
 have HNC2C1 := hid (show gC2 ≠ gC1 by intro e; exact hng (by simp [e]))
 have HGC2 := hid (show w.heap.size ≤ gC2 by have := HW1.out; omega)
 replace E := hid (E.out.trans hx0)
 replace B3 := hid (B3.out.up hx0)
 replace B4 := hid (B4.out.up hx0)
 replace C1 := hid (C1.out.up hx0)
 replace R1 := hid (R1.out.up hx0)
 replace R2 := hid (R2.out.up hx0)
 have C2 : Hid (Box wv gC2 #[.bool false, .slice none 0 0] 25) := hid hbox
 clear hx0 hbox hge hng
 simp only [Act.put, pA, pB, pC]
 refine WE.store2 (g := gC1) (x := .bool g1) (y := .slice A1 n1 c1) (t := 25) rfl rfl (by rfl) (fun w hb => ?_) C1.out (by rfl) fun ws hk hs => ?_
 ·have c0 := hb.k 0; have f0 := hb.free 0; have c1 := hb.k 1; have f1 := hb.free 1; go_simp
 intro hbx
 replace E := hid (E.out.keptG hk HGC1.out)
 replace B3 := hid (B3.out.kept hk (by simpa using HNC1B3.out.symm))
 replace B4 := hid (B4.out.kept hk (by simpa using HNC1B4.out.symm))
 replace C1 := hid hbx
 replace C2 := hid (C2.out.kept hk (by simpa using HNC2C1.out))
 replace R1 := hid (R1.out.kz hs)
 replace R2 := hid (R2.out.kz hs)
 clear hk hs hbx
 refine WE.store2 (g := gC2) (x := .bool g2) (y := .slice A2 n2 c2) (t := 25) rfl rfl (by rfl) (fun w hb => ?_) C2.out (by rfl) fun ws hk hs => ?_
 ·have c0 := hb.k 0; have f0 := hb.free 0; have c1 := hb.k 1; have f1 := hb.free 1; go_simp
 intro hbx
 replace E := hid (E.out.keptG hk HGC2.out)
 replace B3 := hid (B3.out.kept hk (by simpa using HNC2B3.out.symm))
 replace B4 := hid (B4.out.kept hk (by simpa using HNC2B4.out.symm))
 replace C1 := hid (C1.out.kept hk (by simpa using HNC2C1.out.symm))
 replace C2 := hid hbx
 replace R1 := hid (R1.out.kz hs)
 replace R2 := hid (R2.out.kz hs)
 clear hk hs hbx
 refine WE.done ?_
 go_upto_region 2 with (fail)
 refine wp_region_S [(0, 0), (1, 1), (2, 0)] fun wd hb => ?_
 replace E := hid (E.out.trans hb)
 replace B3 := hid (B3.out.up hb)
 replace B4 := hid (B4.out.up hb)
 replace C1 := hid (C1.out.up hb)
 replace C2 := hid (C2.out.up hb)
 replace R1 := hid (R1.out.up hb)
 replace R2 := hid (R2.out.up hb)
 clear hb
 refine WE.q 16 (.agg #[.bool g2, .slice A2 n2 c2]) rfl (fun w' hk => by have c0 := (C2.out.up hk).k 0; have c1 := (C2.out.up hk).k 1; go_simp) ?_
 refine WE.call (d := some 17) rfl rfl (by rfl) (f := 39) (args := #[(.agg #[.bool g2, .slice A2 n2 c2])]) (by go_simp) ?_
 refine (rSign_w (IsZ.mk HS2.out R2.out).worth HS.out).mono ?_
 rintro e wn ⟨rfl, hb⟩
 refine ⟨_, rfl, hb, ?_⟩
 replace E := hid (E.out.trans hb)
 replace B3 := hid (B3.out.up hb)
 replace B4 := hid (B4.out.up hb)
 replace C1 := hid (C1.out.up hb)
 replace C2 := hid (C2.out.up hb)
 replace R1 := hid (R1.out.up hb)
 replace R2 := hid (R2.out.up hb)
 clear hb
 refine WE.p 18 (.bool false) ?_
 simp only [Act.put, pA, pB, pC]
 refine WE.done ?_
 have hgg : (g1 == g2) = false := by have hd := HD.out; rw [← HS1.out, ← HS2.out] at hd; cases g1 <;> cases g2 <;> first | rfl | exact absurd hd (by decide)
 go_upto_region 4 with (fail)
 refine wp_region_S [(0, 0), (1, 0), (2, 0), (3, 0), (4, 1), (5, 0), (6, 0), (7, 0), (8, 0), (9, 0)] fun wd hb => ?_
 replace E := hid (E.out.trans hb)
 replace B3 := hid (B3.out.up hb)
 replace B4 := hid (B4.out.up hb)
 replace C1 := hid (C1.out.up hb)
 replace C2 := hid (C2.out.up hb)
 replace R1 := hid (R1.out.up hb)
 replace R2 := hid (R2.out.up hb)
 clear hb
 refine WE.p 22 (.pointer (some ⟨gC1, 1, none⟩)) ?_
 refine WE.q 23 (.slice A1 n1 c1) rfl (fun w' hk => by have c1 := (C1.out.up hk).k 1; go_simp) ?_
 refine WE.p 24 (.pointer (some ⟨gC2, 1, none⟩)) ?_
 refine WE.q 25 (.slice A2 n2 c2) rfl (fun w' hk => by have c1 := (C2.out.up hk).k 1; go_simp) ?_
 refine WE.call (d := some 26) rfl rfl (by rfl) (f := 100) (args := #[(.slice A1 n1 c1), (.slice A2 n2 c2)]) (by go_simp) ?_
 refine (rdiv_N R1.out R2.out (Nat.le_trans HJ.out (by omega)) (Nat.le_trans HK.out (by omega))).mono ?_
 rintro e wn ⟨vq, vr, rfl, hq, hr, hb⟩
 obtain ⟨A3, n3, c3, rfl⟩ := hq.1.slice
 obtain ⟨A4, n4, c4, rfl⟩ := hr.1.slice
 refine ⟨_, rfl, hb, ?_⟩
 replace E := hid (E.out.trans hb)
 replace B3 := hid (B3.out.up hb)
 replace B4 := hid (B4.out.up hb)
 replace C1 := hid (C1.out.up hb)
 replace C2 := hid (C2.out.up hb)
 replace R1 := hid (R1.out.up hb)
 replace R2 := hid (R2.out.up hb)
 have R3 := hid hq
 have R4 := hid hr
 clear hb hq hr
 refine WE.p 21 (.tuple #[(.slice A3 n3 c3), (.slice A4 n4 c4)]) ?_
 simp only [Act.put, pA, pB, pC]
 refine WE.p 27 (.slice A3 n3 c3) ?_
 refine WE.p 28 (.slice A4 n4 c4) ?_
 refine WE.p 8 (.slice A3 n3 c3) ?_
 refine WE.p 9 (.slice A4 n4 c4) ?_
 simp only [Act.put, pA, pB, pC]
 refine WE.done ?_
 have hn4 : decide (0 < n4) = false := by have h0 := R4.out.len0; have h1 := HR.out; simp; omega
 go_upto_region 5 with (fail)
 refine wp_region_S [(0, 0), (1, 0), (2, 0), (3, 0), (4, 0), (5, 0), (6, 0), (7, 0), (8, 0), (9, 0)] fun wd hb => ?_
 replace E := hid (E.out.trans hb)
 replace B3 := hid (B3.out.up hb)
 replace B4 := hid (B4.out.up hb)
 replace C1 := hid (C1.out.up hb)
 replace C2 := hid (C2.out.up hb)
 replace R1 := hid (R1.out.up hb)
 replace R2 := hid (R2.out.up hb)
 replace R3 := hid (R3.out.up hb)
 clear hb
 refine WE.p 29 (.pointer (some ⟨gC1, 0, none⟩)) ?_
 refine WE.q 30 (.bool g1) rfl (fun w' hk => by have c0 := (C1.out.up hk).k 0; go_simp) ?_
 refine WE.p 31 (.pointer (some ⟨gC2, 0, none⟩)) ?_
 refine WE.q 32 (.bool g2) rfl (fun w' hk => by have c0 := (C2.out.up hk).k 0; go_simp) ?_
 refine WE.p 33 (.bool true) ?_
 refine WE.p 34 (.bool true) ?_
 simp only [Act.put, pA, pB, pC]
 refine WE.p 35 (.slice A4 n4 c4) ?_
 refine WE.p 36 (.int .i64 (n4 : Int)) ?_
 refine WE.p 37 (.bool false) ?_
 refine WE.p 38 (.bool false) ?_
 simp only [Act.put, pA, pB, pC]
 refine WE.done ?_
 go_upto_region 8 with (fail)
 refine wp_region_S [(0, 0), (1, 0), (2, 0), (3, 0), (4, 0), (5, 0), (6, 1), (7, 1), (8, 4)] fun wd hb => ?_
 replace E := hid (E.out.trans hb)
 replace B3 := hid (B3.out.up hb)
 replace B4 := hid (B4.out.up hb)
 replace C1 := hid (C1.out.up hb)
 replace C2 := hid (C2.out.up hb)
 replace R1 := hid (R1.out.up hb)
 replace R2 := hid (R2.out.up hb)
 replace R3 := hid (R3.out.up hb)
 clear hb
 refine WE.p 49 (.pointer (some ⟨gC1, 0, none⟩)) ?_
 refine WE.q 50 (.bool g1) rfl (fun w' hk => by have c0 := (C1.out.up hk).k 0; go_simp) ?_
 refine WE.p 51 (.pointer (some ⟨gC2, 0, none⟩)) ?_
 refine WE.q 52 (.bool g2) rfl (fun w' hk => by have c0 := (C2.out.up hk).k 0; go_simp) ?_
 refine WE.p 53 (.bool true) ?_
 refine WE.p 54 (.slice A3 n3 c3) ?_
 simp only [Act.put, pA, pB, pC]
 refine WE.call (d := some 55) rfl rfl (by rfl) (f := 69) (args := #[(.bool true), (.slice A3 n3 c3)]) (by go_simp) ?_
 refine (rsign_n R3.out (Z := Z.fdiv Y) (M.ref_keep HY.out HD.out (Or.inr HR.out)).1 (fun h => (M.ref_keep HY.out HD.out (Or.inr HR.out)).2 h)).mono ?_
 rintro e wn ⟨vx, rfl, hx, hb⟩
 obtain ⟨g6, A6, n6, c6, rfl, hs6, hr6⟩ := hx.form
 clear hx
 refine ⟨_, rfl, hb, ?_⟩
 replace E := hid (E.out.trans hb)
 replace B3 := hid (B3.out.up hb)
 replace B4 := hid (B4.out.up hb)
 replace C1 := hid (C1.out.up hb)
 replace C2 := hid (C2.out.up hb)
 replace R1 := hid (R1.out.up hb)
 replace R2 := hid (R2.out.up hb)
 have HS6 := hid hs6
 have R6 := hid hr6
 clear hb hs6 hr6
 refine WE.new (d := some 11) (cs := #[.bool false, .slice none 0 0]) (t := 25) (v := fun g => (.pointer (some ⟨g, 0, none⟩))) rfl rfl (by rfl) (fun w => by go_simp) fun gC3 wv hx0 hbox hge => ?_
 have HNC3B3 := hid (show gC3 ≠ (w.heap.size + 2) by have := B3.out.lt; omega)
 have HNC3B4 := hid (show gC3 ≠ (w.heap.size + 3) by have := B4.out.lt; omega)
 have HNC3C1 := hid (show gC3 ≠ gC1 by have := C1.out.lt; omega)
 have HNC3C2 := hid (show gC3 ≠ gC2 by have := C2.out.lt; omega)
 have HGC3 := hid (show w.heap.size ≤ gC3 by have := E.out.size; omega)
 replace E := hid (E.out.trans hx0)
 replace B3 := hid (B3.out.up hx0)
 replace B4 := hid (B4.out.up hx0)
 replace C1 := hid (C1.out.up hx0)
 replace C2 := hid (C2.out.up hx0)
 replace R1 := hid (R1.out.up hx0)
 replace R2 := hid (R2.out.up hx0)
 replace R6 := hid (R6.out.up hx0)
 have C3 : Hid (Box wv gC3 #[.bool false, .slice none 0 0] 25) := hid hbox
 clear hx0 hbox hge
 simp only [Act.put, pA, pB, pC]
 refine WE.store2 (g := gC3) (x := .bool g6) (y := .slice A6 n6 c6) (t := 25) rfl rfl (by rfl) (fun w hb => ?_) C3.out (by rfl) fun ws hk hs => ?_
 ·have c0 := hb.k 0; have f0 := hb.free 0; have c1 := hb.k 1; have f1 := hb.free 1; go_simp
 intro hbx
 replace E := hid (E.out.keptG hk HGC3.out)
 replace B3 := hid (B3.out.kept hk (by simpa using HNC3B3.out.symm))
 replace B4 := hid (B4.out.kept hk (by simpa using HNC3B4.out.symm))
 replace C1 := hid (C1.out.kept hk (by simpa using HNC3C1.out.symm))
 replace C2 := hid (C2.out.kept hk (by simpa using HNC3C2.out.symm))
 replace C3 := hid hbx
 replace R1 := hid (R1.out.kz hs)
 replace R2 := hid (R2.out.kz hs)
 replace R6 := hid (R6.out.kz hs)
 clear hk hs hbx
 refine WE.done ?_
 have HJ2 := hid (show j ≤ 100000 ∧ k ≤ 100000 from ⟨HJ.out, HK.out⟩)
 go_upto_region 9 with (fail)
 refine wp_region_D [(0, 0), (1, 0), (2, 0), (3, 0), (4, 1), (5, 1), (6, 4), (7, 4)] fun wd hb => ?_
 replace E := hid (E.out.trans hb)
 replace B3 := hid (B3.out.up hb)
 replace B4 := hid (B4.out.up hb)
 replace C1 := hid (C1.out.up hb)
 replace C2 := hid (C2.out.up hb)
 replace C3 := hid (C3.out.up hb)
 replace R1 := hid (R1.out.up hb)
 replace R2 := hid (R2.out.up hb)
 replace R6 := hid (R6.out.up hb)
 clear hb
 refine WE.q 56 (.agg #[.bool g6, .slice A6 n6 c6]) rfl (fun w' hk => by have c0 := (C3.out.up hk).k 0; have c1 := (C3.out.up hk).k 1; go_simp) ?_
 refine WE.q 57 (.agg #[.bool g1, .slice A1 n1 c1]) rfl (fun w' hk => by have c0 := (C1.out.up hk).k 0; have c1 := (C1.out.up hk).k 1; go_simp) ?_
 refine WE.q 58 (.agg #[.bool g6, .slice A6 n6 c6]) rfl (fun w' hk => by have c0 := (C3.out.up hk).k 0; have c1 := (C3.out.up hk).k 1; go_simp) ?_
 refine WE.q 59 (.agg #[.bool g2, .slice A2 n2 c2]) rfl (fun w' hk => by have c0 := (C2.out.up hk).k 0; have c1 := (C2.out.up hk).k 1; go_simp) ?_
 refine WE.call (d := some 60) rfl rfl (by rfl) (f := 38) (args := #[(.agg #[.bool g6, .slice A6 n6 c6]), (.agg #[.bool g2, .slice A2 n2 c2])]) (by go_simp) ?_
 refine (rMul_w (IsZ.mk HS6.out (R6.out.wide (show _ ≤ max j 1 + 1 by omega))).worth (IsZ.mk HS2.out R2.out).worth (by have := HJ2.out; omega) (by have := HJ2.out; omega)).mono ?_
 rintro e wn ⟨vx, rfl, hx, hb⟩
 obtain ⟨g7, A7, n7, c7, rfl, hs7, hr7⟩ := hx.form
 clear hx
 refine ⟨_, rfl, hb, ?_⟩
 replace E := hid (E.out.trans hb)
 replace B3 := hid (B3.out.up hb)
 replace B4 := hid (B4.out.up hb)
 replace R1 := hid (R1.out.up hb)
 replace R6 := hid (R6.out.up hb)
 have HS7 := hid hs7
 have R7 := hid hr7
 clear hb hs7 hr7
 refine WE.call (d := some 61) rfl rfl (by rfl) (f := 37) (args := #[(.agg #[.bool g1, .slice A1 n1 c1]), (.agg #[.bool g7, .slice A7 n7 c7])]) (by go_simp) ?_
 refine (rSub_w (IsZ.mk HS1.out R1.out).worth (IsZ.mk HS7.out R7.out).worth (by have := HJ2.out; omega) (by have := HJ2.out; omega)).mono ?_
 rintro e wn ⟨vx, rfl, hx, hb⟩
 obtain ⟨g8, A8, n8, c8, rfl, hs8, hr8⟩ := hx.form
 clear hx
 refine ⟨_, rfl, hb, ?_⟩
 replace E := hid (E.out.trans hb)
 replace B3 := hid (B3.out.up hb)
 replace B4 := hid (B4.out.up hb)
 replace R6 := hid (R6.out.up hb)
 have HS8 := hid hs8
 have R8 := hid hr8
 clear hb hs8 hr8
 simp only [Act.put, pA, pB, pC]
 refine WE.store2 (g := (w.heap.size + 2)) (x := .bool g6) (y := .slice A6 n6 c6) (t := 25) rfl rfl (by rfl) (fun w hb => ?_) B3.out (by rfl) fun ws hk hs => ?_
 ·have c0 := hb.k 0; have f0 := hb.free 0; have c1 := hb.k 1; have f1 := hb.free 1; go_simp
 intro hbx
 replace E := hid (E.out.keptG hk (by simp))
 replace B3 := hid hbx
 replace B4 := hid (B4.out.kept hk (by simp))
 replace R6 := hid (R6.out.kz hs)
 replace R8 := hid (R8.out.kz hs)
 clear hk hs hbx
 refine WE.store2 (g := (w.heap.size + 3)) (x := .bool g8) (y := .slice A8 n8 c8) (t := 25) rfl rfl (by rfl) (fun w hb => ?_) B4.out (by rfl) fun ws hk hs => ?_
 ·have c0 := hb.k 0; have f0 := hb.free 0; have c1 := hb.k 1; have f1 := hb.free 1; go_simp
 intro hbx
 replace E := hid (E.out.keptG hk (by simp))
 replace B3 := hid (B3.out.kept hk (by simp))
 replace B4 := hid hbx
 replace R6 := hid (R6.out.kz hs)
 replace R8 := hid (R8.out.kz hs)
 clear hk hs hbx
 refine WE.done ?_
 have r0 := B3.out.cell (o := 0) (v := .bool g6) rfl
 have r1 := B3.out.cell (o := 1) (v := .slice A6 n6 c6) rfl
 have r2 := B4.out.cell (o := 0) (v := .bool g8) rfl
 have r3 := B4.out.cell (o := 1) (v := .slice A8 n8 c8) rfl
 go_wp2
 exact bodyPost_ret (v := .tuple #[.agg #[.bool g6, .slice A6 n6 c6], .agg #[.bool g8, .slice A8 n8 c8]]) (by simp [results, Tryz.results80, go_sem, r0, r1, r2, r3]) rfl ⟨_, _, rfl, IsZ.mk HS6.out (R6.out.wide (by omega)), (IsZ.to (IsZ.mk HS8.out R8.out) (M.ref_rest Z Y)).wide (by omega), E.out⟩

set_option maxHeartbeats 2000000 in
theorem rFloor_like {w : World} {u v : Value} {Z Y : Int} {j k : Nat} (hu : Worth w u Z j) (hv : Worth w v Y k) (hj : j ≤ 100000) (hk : k ≤ 100000) (hy : Y ≠ 0) (hd : (decide (Z < 0) != decide (Y < 0)) = false) :
 Calls Tryz.prog 80 #[u, v] w (GivesZ2 w (Z.fdiv Y) (max j 1 + 1) (Z.fmod Y) (max j (max j 1 + 1 + k) + 1)) := by
 obtain ⟨g, A, n, c, rfl⟩ := hu.shape
 obtain ⟨g', A', n', c', rfl⟩ := hv.shape
 have R := hid hu
 have R' := hid hv
 clear hu hv
 have HJ := hid hj
 have HK := hid hk
 have HY := hid hy
 have HD := hid hd
 clear hj hk hy hd
 obtain ⟨s, hs⟩ : ∃ s : Int, Y.sign = s := ⟨_, rfl⟩
 have hsz : (s == 0) = false := by have hy := HY.out; rw [← hs, Bool.eq_iff_iff]; simp [Int.sign_eq_zero_iff_zero, hy]
 have HS := hid hs
 clear hs
 go_enter Tryz.func80, Tryz.ntmps80
 go_upto_region 1 with (fail)
 obtain ⟨E, B1, B2, B3, B4⟩ := open4 w #[.bool g, .slice A n c] 25 #[.bool g', .slice A' n' c'] 25 #[.bool false, .slice none 0 0] 25 #[.bool false, .slice none 0 0] 25
 replace R := hid (R.out.up E.out)
 replace R' := hid (R'.out.up E.out)
 refine wp_region_L [(0, 0), (2, 0), (1, 2), (3, 2), (4, 3), (5, 3), (6, 4), (7, 4)] 25 #[.bool false, .slice none 0 0] fun wd hb => ?_
 replace E := hid (E.out.trans hb)
 replace B1 := hid (B1.out.up hb)
 replace B2 := hid (B2.out.up hb)
 replace B3 := hid (B3.out.up hb)
 replace B4 := hid (B4.out.up hb)
 replace R := hid (R.out.up hb)
 replace R' := hid (R'.out.up hb)
 clear hb
 have HL1B1 := hid B1.out.lt
 have HL1B2 := hid B2.out.lt
 have HL1B3 := hid B3.out.lt
 have HL1B4 := hid B4.out.lt
 have HW1 := hid (show w.heap.size ≤ wd.heap.size from E.out.size)
 refine WE.q 12 (.agg #[.bool g, .slice A n c]) rfl (fun w' hk => by have c0 := (B1.out.up hk).k 0; have c1 := (B1.out.up hk).k 1; go_simp) ?_
 refine WE.q 14 (.agg #[.bool g', .slice A' n' c']) rfl (fun w' hk => by have c0 := (B2.out.up hk).k 0; have c1 := (B2.out.up hk).k 1; go_simp) ?_
 refine WE.callR (d := some 13) rfl rfl (by rfl) (f := 60) (args := #[(.agg #[.bool g, .slice A n c])]) (fun w => by go_simp) (fun wx hx0 => ?_)
 replace E := hid (E.out.trans hx0)
 replace B3 := hid (B3.out.up hx0)
 replace B4 := hid (B4.out.up hx0)
 replace R := hid (R.out.up hx0)
 replace R' := hid (R'.out.up hx0)
 clear hx0
 refine (rMay_w R.out).mono ?_
 rintro e wn ⟨vx, rfl, hx, hb⟩
 obtain ⟨g1, A1, n1, c1, rfl, hs1, hr1⟩ := hx.form
 clear hx
 refine ⟨_, rfl, hb, ?_⟩
 replace E := hid (E.out.trans hb)
 replace B3 := hid (B3.out.up hb)
 replace B4 := hid (B4.out.up hb)
 replace R' := hid (R'.out.up hb)
 have HS1 := hid hs1
 have R1 := hid hr1
 clear hb hs1 hr1
 refine WE.callR (d := some 15) rfl rfl (by rfl) (f := 60) (args := #[(.agg #[.bool g', .slice A' n' c'])]) (fun w => by go_simp) (fun wx hx0 => ?_)
 replace E := hid (E.out.trans hx0)
 replace B3 := hid (B3.out.up hx0)
 replace B4 := hid (B4.out.up hx0)
 replace R' := hid (R'.out.up hx0)
 replace R1 := hid (R1.out.up hx0)
 clear hx0
 refine (rMay_w R'.out).mono ?_
 rintro e wn ⟨vx, rfl, hx, hb⟩
 obtain ⟨g2, A2, n2, c2, rfl, hs2, hr2⟩ := hx.form
 clear hx
 refine ⟨_, rfl, hb, ?_⟩
 replace E := hid (E.out.trans hb)
 replace B3 := hid (B3.out.up hb)
 replace B4 := hid (B4.out.up hb)
 replace R1 := hid (R1.out.up hb)
 have HS2 := hid hs2
 have R2 := hid hr2
 clear hb hs2 hr2
 simp only [Act.put, pA, pB, pC]
 refine WE.var (d := some 6) rfl fun gC1 wv hx0 hbox hge hng => ?_
 have HNC1B3 := hid (show gC1 ≠ (w.heap.size + 2) by have := HL1B3.out; omega)
 have HNC1B4 := hid (show gC1 ≠ (w.heap.size + 3) by have := HL1B4.out; omega)
 have HGC1 := hid (show w.heap.size ≤ gC1 by have := HW1.out; omega)
 replace E := hid (E.out.trans hx0)
 replace B3 := hid (B3.out.up hx0)
 replace B4 := hid (B4.out.up hx0)
 replace R1 := hid (R1.out.up hx0)
 replace R2 := hid (R2.out.up hx0)
 have C1 : Hid (Box wv gC1 #[.bool false, .slice none 0 0] 25) := hid hbox
 clear hx0 hbox hge hng
 simp only [Act.put, pA, pB, pC]
 refine WE.var (d := some 7) rfl fun gC2 wv hx0 hbox hge hng => ?_
 have HNC2B3 := hid (show gC2 ≠ (w.heap.size + 2) by have := HL1B3.out; omega)
 have HNC2B4 := hid (show gC2 ≠ (w.heap.size + 3) by have := HL1B4.out; omega)
 have HNC2C1 := hid (show gC2 ≠ gC1 by intro e; exact hng (by simp [e]))
 have HGC2 := hid (show w.heap.size ≤ gC2 by have := HW1.out; omega)
 replace E := hid (E.out.trans hx0)
 replace B3 := hid (B3.out.up hx0)
 replace B4 := hid (B4.out.up hx0)
 replace C1 := hid (C1.out.up hx0)
 replace R1 := hid (R1.out.up hx0)
 replace R2 := hid (R2.out.up hx0)
 have C2 : Hid (Box wv gC2 #[.bool false, .slice none 0 0] 25) := hid hbox
 clear hx0 hbox hge hng
 simp only [Act.put, pA, pB, pC]
 refine WE.store2 (g := gC1) (x := .bool g1) (y := .slice A1 n1 c1) (t := 25) rfl rfl (by rfl) (fun w hb => ?_) C1.out (by rfl) fun ws hk hs => ?_
 ·have c0 := hb.k 0; have f0 := hb.free 0; have c1 := hb.k 1; have f1 := hb.free 1; go_simp
 intro hbx
 replace E := hid (E.out.keptG hk HGC1.out)
 replace B3 := hid (B3.out.kept hk (by simpa using HNC1B3.out.symm))
 replace B4 := hid (B4.out.kept hk (by simpa using HNC1B4.out.symm))
 replace C1 := hid hbx
 replace C2 := hid (C2.out.kept hk (by simpa using HNC2C1.out))
 replace R1 := hid (R1.out.kz hs)
 replace R2 := hid (R2.out.kz hs)
 clear hk hs hbx
 refine WE.store2 (g := gC2) (x := .bool g2) (y := .slice A2 n2 c2) (t := 25) rfl rfl (by rfl) (fun w hb => ?_) C2.out (by rfl) fun ws hk hs => ?_
 ·have c0 := hb.k 0; have f0 := hb.free 0; have c1 := hb.k 1; have f1 := hb.free 1; go_simp
 intro hbx
 replace E := hid (E.out.keptG hk HGC2.out)
 replace B3 := hid (B3.out.kept hk (by simpa using HNC2B3.out.symm))
 replace B4 := hid (B4.out.kept hk (by simpa using HNC2B4.out.symm))
 replace C1 := hid (C1.out.kept hk (by simpa using HNC2C1.out.symm))
 replace C2 := hid hbx
 replace R1 := hid (R1.out.kz hs)
 replace R2 := hid (R2.out.kz hs)
 clear hk hs hbx
 refine WE.done ?_
 go_upto_region 2 with (fail)
 refine wp_region_S [(0, 0), (1, 1), (2, 0)] fun wd hb => ?_
 replace E := hid (E.out.trans hb)
 replace B3 := hid (B3.out.up hb)
 replace B4 := hid (B4.out.up hb)
 replace C1 := hid (C1.out.up hb)
 replace C2 := hid (C2.out.up hb)
 replace R1 := hid (R1.out.up hb)
 replace R2 := hid (R2.out.up hb)
 clear hb
 refine WE.q 16 (.agg #[.bool g2, .slice A2 n2 c2]) rfl (fun w' hk => by have c0 := (C2.out.up hk).k 0; have c1 := (C2.out.up hk).k 1; go_simp) ?_
 refine WE.call (d := some 17) rfl rfl (by rfl) (f := 39) (args := #[(.agg #[.bool g2, .slice A2 n2 c2])]) (by go_simp) ?_
 refine (rSign_w (IsZ.mk HS2.out R2.out).worth HS.out).mono ?_
 rintro e wn ⟨rfl, hb⟩
 refine ⟨_, rfl, hb, ?_⟩
 replace E := hid (E.out.trans hb)
 replace B3 := hid (B3.out.up hb)
 replace B4 := hid (B4.out.up hb)
 replace C1 := hid (C1.out.up hb)
 replace C2 := hid (C2.out.up hb)
 replace R1 := hid (R1.out.up hb)
 replace R2 := hid (R2.out.up hb)
 clear hb
 refine WE.p 18 (.bool false) ?_
 simp only [Act.put, pA, pB, pC]
 refine WE.done ?_
 have hgg : (g1 == g2) = true := by have hd := HD.out; rw [← HS1.out, ← HS2.out] at hd; cases g1 <;> cases g2 <;> first | rfl | exact absurd hd (by decide)
 go_upto_region 4 with (fail)
 refine wp_region_S [(0, 0), (1, 0), (2, 0), (3, 0), (4, 1), (5, 0), (6, 0), (7, 0), (8, 0), (9, 0)] fun wd hb => ?_
 replace E := hid (E.out.trans hb)
 replace B3 := hid (B3.out.up hb)
 replace B4 := hid (B4.out.up hb)
 replace C1 := hid (C1.out.up hb)
 replace C2 := hid (C2.out.up hb)
 replace R1 := hid (R1.out.up hb)
 replace R2 := hid (R2.out.up hb)
 clear hb
 refine WE.p 22 (.pointer (some ⟨gC1, 1, none⟩)) ?_
 refine WE.q 23 (.slice A1 n1 c1) rfl (fun w' hk => by have c1 := (C1.out.up hk).k 1; go_simp) ?_
 refine WE.p 24 (.pointer (some ⟨gC2, 1, none⟩)) ?_
 refine WE.q 25 (.slice A2 n2 c2) rfl (fun w' hk => by have c1 := (C2.out.up hk).k 1; go_simp) ?_
 refine WE.call (d := some 26) rfl rfl (by rfl) (f := 100) (args := #[(.slice A1 n1 c1), (.slice A2 n2 c2)]) (by go_simp) ?_
 refine (rdiv_N R1.out R2.out (Nat.le_trans HJ.out (by omega)) (Nat.le_trans HK.out (by omega))).mono ?_
 rintro e wn ⟨vq, vr, rfl, hq, hr, hb⟩
 obtain ⟨A3, n3, c3, rfl⟩ := hq.1.slice
 obtain ⟨A4, n4, c4, rfl⟩ := hr.1.slice
 refine ⟨_, rfl, hb, ?_⟩
 replace E := hid (E.out.trans hb)
 replace B3 := hid (B3.out.up hb)
 replace B4 := hid (B4.out.up hb)
 replace C1 := hid (C1.out.up hb)
 replace C2 := hid (C2.out.up hb)
 replace R1 := hid (R1.out.up hb)
 replace R2 := hid (R2.out.up hb)
 have R3 := hid hq
 clear hb hq hr
 refine WE.p 21 (.tuple #[(.slice A3 n3 c3), (.slice A4 n4 c4)]) ?_
 simp only [Act.put, pA, pB, pC]
 refine WE.p 27 (.slice A3 n3 c3) ?_
 refine WE.p 28 (.slice A4 n4 c4) ?_
 refine WE.p 8 (.slice A3 n3 c3) ?_
 refine WE.p 9 (.slice A4 n4 c4) ?_
 simp only [Act.put, pA, pB, pC]
 refine WE.done ?_
 go_upto_region 5 with (fail)
 refine wp_region_S [(0, 0), (1, 0), (2, 0), (3, 0), (4, 0), (5, 0), (6, 0), (7, 0), (8, 0), (9, 0)] fun wd hb => ?_
 replace E := hid (E.out.trans hb)
 replace B3 := hid (B3.out.up hb)
 replace B4 := hid (B4.out.up hb)
 replace C1 := hid (C1.out.up hb)
 replace C2 := hid (C2.out.up hb)
 replace R1 := hid (R1.out.up hb)
 replace R2 := hid (R2.out.up hb)
 replace R3 := hid (R3.out.up hb)
 clear hb
 refine WE.p 29 (.pointer (some ⟨gC1, 0, none⟩)) ?_
 refine WE.q 30 (.bool g1) rfl (fun w' hk => by have c0 := (C1.out.up hk).k 0; go_simp) ?_
 refine WE.p 31 (.pointer (some ⟨gC2, 0, none⟩)) ?_
 refine WE.q 32 (.bool g2) rfl (fun w' hk => by have c0 := (C2.out.up hk).k 0; go_simp) ?_
 refine WE.p 33 (.bool false) ?_
 refine WE.p 34 (.bool false) ?_
 simp only [Act.put, pA, pB, pC]
 refine WE.s 35 ?_
 refine WE.s 36 ?_
 refine WE.s 37 ?_
 refine WE.p 38 (.bool false) ?_
 simp only [Act.put, pA, pB, pC]
 refine WE.done ?_
 go_upto_region 8 with (fail)
 refine wp_region_S [(0, 0), (1, 0), (2, 0), (3, 0), (4, 0), (5, 0), (6, 1), (7, 1), (8, 4)] fun wd hb => ?_
 replace E := hid (E.out.trans hb)
 replace B3 := hid (B3.out.up hb)
 replace B4 := hid (B4.out.up hb)
 replace C1 := hid (C1.out.up hb)
 replace C2 := hid (C2.out.up hb)
 replace R1 := hid (R1.out.up hb)
 replace R2 := hid (R2.out.up hb)
 replace R3 := hid (R3.out.up hb)
 clear hb
 refine WE.p 49 (.pointer (some ⟨gC1, 0, none⟩)) ?_
 refine WE.q 50 (.bool g1) rfl (fun w' hk => by have c0 := (C1.out.up hk).k 0; go_simp) ?_
 refine WE.p 51 (.pointer (some ⟨gC2, 0, none⟩)) ?_
 refine WE.q 52 (.bool g2) rfl (fun w' hk => by have c0 := (C2.out.up hk).k 0; go_simp) ?_
 refine WE.p 53 (.bool false) ?_
 refine WE.p 54 (.slice A3 n3 c3) ?_
 simp only [Act.put, pA, pB, pC]
 refine WE.call (d := some 55) rfl rfl (by rfl) (f := 69) (args := #[(.bool false), (.slice A3 n3 c3)]) (by go_simp) ?_
 refine (rsign_n R3.out (Z := Z.fdiv Y) (M.ref_keep HY.out HD.out (Or.inl rfl)).1 (fun h => (M.ref_keep HY.out HD.out (Or.inl rfl)).2 h)).mono ?_
 rintro e wn ⟨vx, rfl, hx, hb⟩
 obtain ⟨g6, A6, n6, c6, rfl, hs6, hr6⟩ := hx.form
 clear hx
 refine ⟨_, rfl, hb, ?_⟩
 replace E := hid (E.out.trans hb)
 replace B3 := hid (B3.out.up hb)
 replace B4 := hid (B4.out.up hb)
 replace C1 := hid (C1.out.up hb)
 replace C2 := hid (C2.out.up hb)
 replace R1 := hid (R1.out.up hb)
 replace R2 := hid (R2.out.up hb)
 have HS6 := hid hs6
 have R6 := hid hr6
 clear hb hs6 hr6
 refine WE.new (d := some 11) (cs := #[.bool false, .slice none 0 0]) (t := 25) (v := fun g => (.pointer (some ⟨g, 0, none⟩))) rfl rfl (by rfl) (fun w => by go_simp) fun gC3 wv hx0 hbox hge => ?_
 have HNC3B3 := hid (show gC3 ≠ (w.heap.size + 2) by have := B3.out.lt; omega)
 have HNC3B4 := hid (show gC3 ≠ (w.heap.size + 3) by have := B4.out.lt; omega)
 have HNC3C1 := hid (show gC3 ≠ gC1 by have := C1.out.lt; omega)
 have HNC3C2 := hid (show gC3 ≠ gC2 by have := C2.out.lt; omega)
 have HGC3 := hid (show w.heap.size ≤ gC3 by have := E.out.size; omega)
 replace E := hid (E.out.trans hx0)
 replace B3 := hid (B3.out.up hx0)
 replace B4 := hid (B4.out.up hx0)
 replace C1 := hid (C1.out.up hx0)
 replace C2 := hid (C2.out.up hx0)
 replace R1 := hid (R1.out.up hx0)
 replace R2 := hid (R2.out.up hx0)
 replace R6 := hid (R6.out.up hx0)
 have C3 : Hid (Box wv gC3 #[.bool false, .slice none 0 0] 25) := hid hbox
 clear hx0 hbox hge
 simp only [Act.put, pA, pB, pC]
 refine WE.store2 (g := gC3) (x := .bool g6) (y := .slice A6 n6 c6) (t := 25) rfl rfl (by rfl) (fun w hb => ?_) C3.out (by rfl) fun ws hk hs => ?_
 ·have c0 := hb.k 0; have f0 := hb.free 0; have c1 := hb.k 1; have f1 := hb.free 1; go_simp
 intro hbx
 replace E := hid (E.out.keptG hk HGC3.out)
 replace B3 := hid (B3.out.kept hk (by simpa using HNC3B3.out.symm))
 replace B4 := hid (B4.out.kept hk (by simpa using HNC3B4.out.symm))
 replace C1 := hid (C1.out.kept hk (by simpa using HNC3C1.out.symm))
 replace C2 := hid (C2.out.kept hk (by simpa using HNC3C2.out.symm))
 replace C3 := hid hbx
 replace R1 := hid (R1.out.kz hs)
 replace R2 := hid (R2.out.kz hs)
 replace R6 := hid (R6.out.kz hs)
 clear hk hs hbx
 refine WE.done ?_
 have HJ2 := hid (show j ≤ 100000 ∧ k ≤ 100000 from ⟨HJ.out, HK.out⟩)
 go_upto_region 9 with (fail)
 refine wp_region_D [(0, 0), (1, 0), (2, 0), (3, 0), (4, 1), (5, 1), (6, 4), (7, 4)] fun wd hb => ?_
 replace E := hid (E.out.trans hb)
 replace B3 := hid (B3.out.up hb)
 replace B4 := hid (B4.out.up hb)
 replace C1 := hid (C1.out.up hb)
 replace C2 := hid (C2.out.up hb)
 replace C3 := hid (C3.out.up hb)
 replace R1 := hid (R1.out.up hb)
 replace R2 := hid (R2.out.up hb)
 replace R6 := hid (R6.out.up hb)
 clear hb
 refine WE.q 56 (.agg #[.bool g6, .slice A6 n6 c6]) rfl (fun w' hk => by have c0 := (C3.out.up hk).k 0; have c1 := (C3.out.up hk).k 1; go_simp) ?_
 refine WE.q 57 (.agg #[.bool g1, .slice A1 n1 c1]) rfl (fun w' hk => by have c0 := (C1.out.up hk).k 0; have c1 := (C1.out.up hk).k 1; go_simp) ?_
 refine WE.q 58 (.agg #[.bool g6, .slice A6 n6 c6]) rfl (fun w' hk => by have c0 := (C3.out.up hk).k 0; have c1 := (C3.out.up hk).k 1; go_simp) ?_
 refine WE.q 59 (.agg #[.bool g2, .slice A2 n2 c2]) rfl (fun w' hk => by have c0 := (C2.out.up hk).k 0; have c1 := (C2.out.up hk).k 1; go_simp) ?_
 refine WE.call (d := some 60) rfl rfl (by rfl) (f := 38) (args := #[(.agg #[.bool g6, .slice A6 n6 c6]), (.agg #[.bool g2, .slice A2 n2 c2])]) (by go_simp) ?_
 refine (rMul_w (IsZ.mk HS6.out (R6.out.wide (show _ ≤ max j 1 + 1 by omega))).worth (IsZ.mk HS2.out R2.out).worth (by have := HJ2.out; omega) (by have := HJ2.out; omega)).mono ?_
 rintro e wn ⟨vx, rfl, hx, hb⟩
 obtain ⟨g7, A7, n7, c7, rfl, hs7, hr7⟩ := hx.form
 clear hx
 refine ⟨_, rfl, hb, ?_⟩
 replace E := hid (E.out.trans hb)
 replace B3 := hid (B3.out.up hb)
 replace B4 := hid (B4.out.up hb)
 replace R1 := hid (R1.out.up hb)
 replace R6 := hid (R6.out.up hb)
 have HS7 := hid hs7
 have R7 := hid hr7
 clear hb hs7 hr7
 refine WE.call (d := some 61) rfl rfl (by rfl) (f := 37) (args := #[(.agg #[.bool g1, .slice A1 n1 c1]), (.agg #[.bool g7, .slice A7 n7 c7])]) (by go_simp) ?_
 refine (rSub_w (IsZ.mk HS1.out R1.out).worth (IsZ.mk HS7.out R7.out).worth (by have := HJ2.out; omega) (by have := HJ2.out; omega)).mono ?_
 rintro e wn ⟨vx, rfl, hx, hb⟩
 obtain ⟨g8, A8, n8, c8, rfl, hs8, hr8⟩ := hx.form
 clear hx
 refine ⟨_, rfl, hb, ?_⟩
 replace E := hid (E.out.trans hb)
 replace B3 := hid (B3.out.up hb)
 replace B4 := hid (B4.out.up hb)
 replace R6 := hid (R6.out.up hb)
 have HS8 := hid hs8
 have R8 := hid hr8
 clear hb hs8 hr8
 simp only [Act.put, pA, pB, pC]
 refine WE.store2 (g := (w.heap.size + 2)) (x := .bool g6) (y := .slice A6 n6 c6) (t := 25) rfl rfl (by rfl) (fun w hb => ?_) B3.out (by rfl) fun ws hk hs => ?_
 ·have c0 := hb.k 0; have f0 := hb.free 0; have c1 := hb.k 1; have f1 := hb.free 1; go_simp
 intro hbx
 replace E := hid (E.out.keptG hk (by simp))
 replace B3 := hid hbx
 replace B4 := hid (B4.out.kept hk (by simp))
 replace R6 := hid (R6.out.kz hs)
 replace R8 := hid (R8.out.kz hs)
 clear hk hs hbx
 refine WE.store2 (g := (w.heap.size + 3)) (x := .bool g8) (y := .slice A8 n8 c8) (t := 25) rfl rfl (by rfl) (fun w hb => ?_) B4.out (by rfl) fun ws hk hs => ?_
 ·have c0 := hb.k 0; have f0 := hb.free 0; have c1 := hb.k 1; have f1 := hb.free 1; go_simp
 intro hbx
 replace E := hid (E.out.keptG hk (by simp))
 replace B3 := hid (B3.out.kept hk (by simp))
 replace B4 := hid hbx
 replace R6 := hid (R6.out.kz hs)
 replace R8 := hid (R8.out.kz hs)
 clear hk hs hbx
 refine WE.done ?_
 have r0 := B3.out.cell (o := 0) (v := .bool g6) rfl
 have r1 := B3.out.cell (o := 1) (v := .slice A6 n6 c6) rfl
 have r2 := B4.out.cell (o := 0) (v := .bool g8) rfl
 have r3 := B4.out.cell (o := 1) (v := .slice A8 n8 c8) rfl
 go_wp2
 exact bodyPost_ret (v := .tuple #[.agg #[.bool g6, .slice A6 n6 c6], .agg #[.bool g8, .slice A8 n8 c8]]) (by simp [results, Tryz.results80, go_sem, r0, r1, r2, r3]) rfl ⟨_, _, rfl, IsZ.mk HS6.out (R6.out.wide (by omega)), (IsZ.to (IsZ.mk HS8.out R8.out) (M.ref_rest Z Y)).wide (by omega), E.out⟩

theorem rFloor_w {w : World} {u v : Value} {Z Y : Int} {j k : Nat} (hu : Worth w u Z j) (hv : Worth w v Y k) (hj : j ≤ 100000) (hk : k ≤ 100000) : Calls Tryz.prog 80 #[u, v] w (GivesZ2 w (Z.fdiv Y) (max j 1 + 1) (Z.fmod Y) (max j (max j 1 + 1 + k) + 1)) := by
 by_cases hy : Y = 0
 ·exact rFloor_zero hu hv hj hk hy
 cases hd : (decide (Z < 0) != decide (Y < 0))
 ·exact rFloor_like hu hv hj hk hy hd
 ·by_cases hr : Z.natAbs % Y.natAbs = 0
  ·exact rFloor_exact hu hv hj hk hy hd hr
  ·exact rFloor_step hu hv hj hk hy hd hr

end Go.Proofs.YtklmnmkmpkobhaaGreat
