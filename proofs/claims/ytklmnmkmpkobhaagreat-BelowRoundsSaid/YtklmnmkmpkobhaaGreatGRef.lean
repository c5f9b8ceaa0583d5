/-
  Contracts of the reference's Gcd and Lcm.
-/
import Derived.Test.YtklmnmkmpkobhaaGreatGFace
import Derived.Test.YtklmnmkmpkobhaaGreatZBase
import Derived.Test.YtklmnmkmpkobhaaGreatRZC
import Derived.Deep.LoopGhost
namespace Go.Proofs.YtklmnmkmpkobhaaGreat
open Go.RowKit
set_option linter.unusedSimpArgs false
set_option linter.unusedVariables false

set_option maxRecDepth 100000 in
set_option maxHeartbeats 2000000 in
theorem rGcd_w {w : World} {u v : Value} {Z Y : Int} {j : Nat} (hu : Worth w u Z j) (hv : Worth w v Y j) (hj : j ≤ 1000000) :
 Calls Tryz.prog 68 #[u, v] w (GivesZ w (Int.gcd Z Y : Nat) j) := by
 obtain ⟨gu, Au, nu, cu, rfl⟩ := hu.shape
 obtain ⟨gv, Av, nv, cv, rfl⟩ := hv.shape
 have HA := hid hu.len
 have HB := hid hv.len
 have QU := hid hu
 have QV := hid hv
 have HJ := hid hj
 clear hu hv hj
 go_enter Tryz.func68, Tryz.ntmps68
 go_upto_region 1 with (fail)
 obtain ⟨E, B2, B3, B4⟩ := open3 w #[.bool gu, .slice Au nu cu] 25 #[.bool gv, .slice Av nv cv] 25 #[.bool false, .slice none 0 0] 25
 replace QU := hid (QU.out.up E.out)
 replace QV := hid (QV.out.up E.out)
 refine wp_region_D [(0, 0), (3, 0), (1, 1), (2, 0), (4, 1), (5, 0), (6, 0), (7, 0)] fun wd hb => ?_
 replace E := hid (E.out.trans hb)
 replace B2 := hid (B2.out.up hb)
 replace B3 := hid (B3.out.up hb)
 replace B4 := hid (B4.out.up hb)
 replace QU := hid (QU.out.up hb)
 replace QV := hid (QV.out.up hb)
 clear hb
 refine WE.q 9 (.agg #[.bool gu, .slice Au nu cu]) rfl (fun w' hk => by have c0 := (B2.out.up hk).k 0; have c1 := (B2.out.up hk).k 1; go_simp) ?_
 refine WE.q 12 (.agg #[.bool gv, .slice Av nv cv]) rfl (fun w' hk => by have c0 := (B3.out.up hk).k 0; have c1 := (B3.out.up hk).k 1; go_simp) ?_
 refine WE.call (d := some 10) rfl rfl (by rfl) (f := 99) (args := #[(.agg #[.bool gu, .slice Au nu cu])]) (by go_simp) ?_
 refine (rAbs_w QU.out).mono ?_
 rintro e wn ⟨vx, rfl, hx, hb⟩
 obtain ⟨g1, A1, n1, c1, rfl, hs1, hr1⟩ := hx.form
 clear hx
 refine ⟨_, rfl, hb, ?_⟩
 replace E := hid (E.out.trans hb)
 replace B4 := hid (B4.out.up hb)
 replace QV := hid (QV.out.up hb)
 have R1 := hid hr1
 clear hb hs1 hr1
 refine WE.q 11 (.slice A1 n1 c1) rfl (fun w' hk => by have hf : ∀ w, (Instr.field 25 (.agg #[.bool g1, .slice A1 n1 c1]) 1).run Tryz.prog w = .ok (.slice A1 n1 c1) w := (fun w => by kernel_rfl); go_simp) ?_
 refine WE.call (d := some 13) rfl rfl (by rfl) (f := 99) (args := #[(.agg #[.bool gv, .slice Av nv cv])]) (by go_simp) ?_
 refine (rAbs_w QV.out).mono ?_
 rintro e wn ⟨vx, rfl, hx, hb⟩
 obtain ⟨g2, A2, n2, c2, rfl, hs2, hr2⟩ := hx.form
 clear hx
 refine ⟨_, rfl, hb, ?_⟩
 replace E := hid (E.out.trans hb)
 replace B4 := hid (B4.out.up hb)
 replace R1 := hid (R1.out.up hb)
 have R2 := hid hr2
 clear hb hs2 hr2
 refine WE.q 14 (.slice A2 n2 c2) rfl (fun w' hk => by have hf : ∀ w, (Instr.field 25 (.agg #[.bool g2, .slice A2 n2 c2]) 1).run Tryz.prog w = .ok (.slice A2 n2 c2) w := (fun w => by kernel_rfl); go_simp) ?_
 simp only [Act.put, pA, pB, pC]
 refine WE.p 5 (.slice A1 n1 c1) ?_
 refine WE.p 6 (.slice A2 n2 c2) ?_
 simp only [Act.put, pA, pB, pC]
 refine WE.done ?_
 clear B2
 clear B3
 clear QU
 clear QV
 go_wp2
 go_loopg [5, 6] (Y.natAbs) (fun y u v wr => ∃ (x : Nat) (A : Option Addr) (n c : Nat) (A' : Option Addr) (n' c' : Nat), u = .slice A n c ∧ v = .slice A' n' c' ∧ Hid (IsN wr (.slice A n c) x j) ∧ Hid (IsN wr (.slice A' n' c') y j) ∧ Hid (Nat.gcd x y = Nat.gcd Z.natAbs Y.natAbs) ∧ Hid (Ext w wr) ∧ Hid (Box wr (w.heap.size + 2) #[.bool false, .slice none 0 0] 25))
 case atStart => exact ⟨Z.natAbs, A1, n1, c1, A2, n2, c2, rfl, rfl, by have := R1.out; rw [Int.natAbs_natCast] at this; exact this, by have := R2.out; rw [Int.natAbs_natCast] at this; exact this, rfl, E.out, B4.out⟩
 case round =>
  clear E B4 R1 R2
  obtain ⟨x, A1, n1, c1, A2, n2, c2, rfl, rfl, R1, R2, HX, E, B4⟩ := hrel
  have HC := hid R2.out.count
  have hb1 : n2 ≤ 9223372036854775807 := HC.out.2
  by_cases h0 : n2 = 0
  ·subst h0
   have HY := hid (show gk = 0 from M.limbs_eq_nil.1 (List.eq_nil_of_length_eq_zero HC.out.1.symm))
   go_upto_region 5 with (fail)
   refine wp_region_S [(0, 0), (1, 0), (2, 4)] fun wd hb => ?_
   replace E := hid (E.out.trans hb)
   replace B4 := hid (B4.out.up hb)
   replace R1 := hid (R1.out.up hb)
   replace R2 := hid (R2.out.up hb)
   clear hb
   refine WE.p 26 (.slice A1 n1 c1) ?_
   refine WE.p 27 (.agg #[.bool false, .slice A1 n1 c1]) ?_
   simp only [Act.put, pA, pB, pC]
   refine WE.store2 (g := (w.heap.size + 2)) (x := .bool false) (y := .slice A1 n1 c1) (t := 25) rfl rfl (by rfl) (fun w hb => ?_) B4.out (by rfl) fun ws hk hs => ?_
   ·have c0 := hb.k 0; have f0 := hb.free 0; have c1 := hb.k 1; have f1 := hb.free 1; go_simp
   intro hbx
   replace E := hid (E.out.keptG hk (by simp))
   replace B4 := hid hbx
   replace R1 := hid (R1.out.kz hs)
   replace R2 := hid (R2.out.kz hs)
   clear hk hs hbx
   refine WE.done ?_
   have r0 := B4.out.cell (o := 0) (v := .bool false) rfl
   have r1 := B4.out.cell (o := 1) (v := .slice A1 n1 c1) rfl
   go_wp2
   exact bodyPost_ret (v := .agg #[.bool false, .slice A1 n1 c1]) (by simp [results, Tryz.results68, go_sem, r0, r1]) rfl ⟨_, rfl, IsZ.mk (by simp; done) (by rw [Int.natAbs_natCast]; have h1 := HX.out; rw [HY.out, Nat.gcd_zero_right] at h1; show IsN _ _ (Nat.gcd Z.natAbs Y.natAbs) j; rw [← h1]; exact R1.out), E.out⟩
  ·have h0' : decide ((0 : Int) < (n2 : Int)) = true := decide_eq_true (by omega)
   have HR := hid (show 0 < gk by
    rcases Nat.eq_zero_or_pos gk with e | e
    ·exfalso; apply h0; rw [HC.out.1, e, M.limbs_zero]; rfl
    ·exact e)
   have hN : 0 < n2 := by omega
   clear h0
   go_upto_region 3 with (fail)
   refine wp_region_S [(0, 0), (1, 0), (2, 1), (3, 0), (4, 0), (5, 0), (6, 0), (7, 0)] fun wd hb => ?_
   replace E := hid (E.out.trans hb)
   replace B4 := hid (B4.out.up hb)
   replace R1 := hid (R1.out.up hb)
   replace R2 := hid (R2.out.up hb)
   clear hb
   refine WE.p 19 (.slice A1 n1 c1) ?_
   refine WE.p 20 (.slice A2 n2 c2) ?_
   refine WE.call (d := some 21) rfl rfl (by rfl) (f := 100) (args := #[(.slice A1 n1 c1), (.slice A2 n2 c2)]) (by go_simp) ?_
   refine (rdiv_N R1.out R2.out HJ.out HJ.out).mono ?_
   rintro e wn ⟨vx, vy, rfl, hx, hy, hb⟩
   obtain ⟨A3, n3, c3, rfl⟩ := hx.1.slice
   obtain ⟨A4, n4, c4, rfl⟩ := hy.1.slice
   refine ⟨_, rfl, hb, ?_⟩
   replace E := hid (E.out.trans hb)
   replace B4 := hid (B4.out.up hb)
   replace R2 := hid (R2.out.up hb)
   have R4 := hid (show IsN _ _ (x % gk) j from ⟨hy.1, M.limbs_length_le (Nat.lt_of_lt_of_le (Nat.mod_lt _ HR.out) (Nat.le_of_lt R2.out.len))⟩)
   clear hb hx hy
   refine WE.p 18 (.tuple #[(.slice A3 n3 c3), (.slice A4 n4 c4)]) ?_
   refine WE.p 22 (.slice A3 n3 c3) ?_
   refine WE.p 23 (.slice A4 n4 c4) ?_
   simp only [Act.put, pA, pB, pC]
   refine WE.p 7 (.slice A3 n3 c3) ?_
   refine WE.p 8 (.slice A4 n4 c4) ?_
   simp only [Act.put, pA, pB, pC]
   refine WE.done ?_
   go_wp2
   go_roundg (x % gk)
   case measure => exact Nat.mod_lt _ HR.out
   case rel => exact ⟨gk, A2, n2, c2, A4, n4, c4, rfl, rfl, R2, R4, (M.gcd_step x gk).trans HX.out, E, B4⟩

end Go.Proofs.YtklmnmkmpkobhaaGreat
