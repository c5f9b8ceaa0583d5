/-
  Contract of whole.Small: as a number of 64 bits, and whether it fits.
-/
import Derived.Test.YthlafkbldlmmaaaZShape
namespace Go.Proofs.Ythlafkbldlmmaaa
open Go.RowKit
set_option linter.unusedSimpArgs false
set_option linter.unusedVariables false

namespace M
def most (Z : Int) : Nat := if Z < 0 then 9223372036854775808 else 9223372036854775807
def fits (Z : Int) : Prop := -9223372036854775808 ≤ Z ∧ Z ≤ 9223372036854775807
theorem wrap64_eq (n : Int) : wrap64 n = IntKind.i64.wrap n := by rw [IntKind.wrap_i64]; unfold wrap64; omega
theorem most_side (Z : Int) : (Z.sign < 0 → (most Z : Int) = 9223372036854775808) ∧ (0 ≤ Z.sign → (most Z : Int) = 9223372036854775807) := by
  unfold most
  rcases sign_cases Z with ⟨h, e⟩ | ⟨h, e⟩ | ⟨h, e⟩ <;> rw [e]
  · rw [if_pos h]; exact ⟨fun _ => rfl, fun h => absurd h (by decide)⟩
  · rw [if_neg (by omega)]; exact ⟨fun h => absurd h (by decide), fun _ => rfl⟩
  · rw [if_neg (by omega)]; exact ⟨fun h => absurd h (by decide), fun _ => rfl⟩
theorem most_le (Z : Int) : (most Z : Int) ≤ 18446744073709551615 := by unfold most; split <;> omega
theorem fits_iff (Z : Int) : fits Z ↔ Z.natAbs ≤ most Z := by unfold fits most; split <;> omega
theorem small_last {Z s a : Int} (hs : s = Z.sign) (ha : a = IntKind.i64.wrap (Z.natAbs : Int)) (hf : fits Z) : IntKind.i64.wrap (s * a) = Z := by
  subst hs ha
  unfold fits at hf
  rcases sign_cases Z with ⟨h, e⟩ | ⟨h, e⟩ | ⟨h, e⟩ <;> rw [e] <;> rw [IntKind.wrap_i64, IntKind.wrap_i64] <;> omega
theorem small_step {a a' : Int} {l : List Nat} {k x : Nat} (ha : a = IntKind.i64.wrap (val (l.drop (k + 1)) : Int)) (hx : l[k]? = some x) (h' : a' = wrap64 (wrap64 (a * 1000000000) + wrap64 (x : Int))) : a' = IntKind.i64.wrap (val (l.drop k) : Int) := by
  subst ha h'
  have e : val (l.drop k) = x + 1000000000 * val (l.drop (k + 1)) := by rw [drop_at hx]; rfl
  rw [e, IntKind.wrap_i64, IntKind.wrap_i64]
  unfold wrap64
  omega
end M

set_option maxHeartbeats 1000000 in
theorem small_no {w : World} {u : Value} {Z : Int} {j : Nat} (hu : Worth w u Z j) (hf : ¬ M.fits Z) :
    Calls Try.prog 10 #[u] w (fun e w' => e = .returned (.tuple #[.int .i64 0, .bool false]) ∧ Ext w w') := by
  obtain ⟨g, A, n, c, rfl⟩ := hu.shape
  have R := hid hu
  clear hu
  have HF := hid hf
  clear hf
  obtain ⟨m, hm⟩ : ∃ m : Nat, m = M.most Z := ⟨_, rfl⟩
  have HM := hid hm
  clear hm
  go_enter Try.func10, Try.ntmps10
  go_upto_region 1 with (fail)
  have E := hid ((Ext.refl w).alloc' (.cells #[.bool g, .slice A n c] 24))
  have B1 : Hid (Box (w.alloc (.cells #[.bool g, .slice A n c] 24)) (w.heap.size) #[.bool g, .slice A n c] 24) := hid (Box.at_ (w := w) #[.bool g, .slice A n c] 24 (by simp))
  replace R := hid (R.out.up E.out)
  refine wp_region_T [(0, 0), (1, 1), (2, 1), (3, 4)] (by kernel_rfl) fun wd hb => ?_
  replace E := hid (E.out.trans hb)
  replace B1 := hid (B1.out.up hb)
  replace R := hid (R.out.up hb)
  clear hb
  refine WE.pure (d := some 7) rfl rfl (by rfl) (v := (.agg #[.bool g, .slice A n c])) (fun w' hk => ?_) ?_
  · have c0 := hk.cell (B1.out.cell (o := 0) (v := .bool g) rfl); have c1 := hk.cell (B1.out.cell (o := 1) (v := .slice A n c) rfl); go_simp
  simp only [Act.put, List.setIfInBounds_toArray, List.set_cons_zero, List.set_cons_succ]
  refine WE.call (d := some 8) rfl rfl (by rfl) (f := 33) (args := #[(.agg #[.bool g, .slice A n c])]) (by go_simp) ?_
  refine (read_w R.out).mono ?_
  rintro e wn ⟨vx, rfl, hx, hb⟩
  obtain ⟨s1, A1, n1, c1, rfl, hs1, hr1⟩ := hx.form
  clear hx
  refine ⟨_, rfl, hb, ?_⟩
  replace E := hid (E.out.trans hb)
  replace B1 := hid (B1.out.up hb)
  replace R := hid (R.out.up hb)
  have HS1 := hid hs1
  have R1 := hid hr1
  clear hb hs1 hr1
  simp only [Act.put, List.setIfInBounds_toArray, List.set_cons_zero, List.set_cons_succ]
  refine WE.new (d := some 4) (cs := #[.int .i64 0, .slice none 0 0]) (t := 41) (v := fun g => (.pointer (some ⟨g, 0, none⟩))) rfl rfl (by rfl) (fun w => by go_simp) fun gC1 wv hx0 hbox hge => ?_
  have HNC1B1 := hid (show gC1 ≠ (w.heap.size) by have := B1.out.lt; omega)
  have HGC1 := hid (show w.heap.size ≤ gC1 by have := E.out.size; omega)
  replace E := hid (E.out.trans hx0)
  replace B1 := hid (B1.out.up hx0)
  replace R := hid (R.out.up hx0)
  replace R1 := hid (R1.out.up hx0)
  have C1 : Hid (Box wv gC1 #[.int .i64 0, .slice none 0 0] 41) := hid hbox
  clear hx0 hbox hge
  simp only [Act.put, List.setIfInBounds_toArray, List.set_cons_zero, List.set_cons_succ]
  refine WE.store2 (g := gC1) (x := .int .i64 s1) (y := .slice A1 n1 c1) (t := 41) rfl rfl (by rfl) (fun w hb => ?_) C1.out (by rfl) fun ws hk hs => ?_
  · have c0 := hb.cell (o := 0) (v := .int .i64 0) rfl; have f0 := hb.free 0; have c1 := hb.cell (o := 1) (v := .slice none 0 0) rfl; have f1 := hb.free 1; go_simp
  intro hbx
  replace E := hid (E.out.keptG hk HGC1.out)
  replace B1 := hid (B1.out.kept hk (by simpa using HNC1B1.out.symm))
  replace C1 := hid hbx
  replace R := hid (R.out.kz hs)
  replace R1 := hid (R1.out.kz hs)
  clear hk hs hbx
  refine WE.done ?_
  have HMO := hid (show (s1 < 0 → (m : Int) = 9223372036854775808) ∧ (0 ≤ s1 → (m : Int) = 9223372036854775807) by rw [HS1.out, HM.out]; exact M.most_side Z)
  go_upto_region 2 with (fail)
  refine wp_region_E [(0, 0), (1, 0), (2, 0), (3, 0), (4, 1), (5, 1), (6, 1), (7, 0)] (fun _ => (0, #[])) rfl (by kernel_rfl) (by intro j hj; cases hj) (fun _ _ d _ _ => by cases d <;> exact Iff.rfl) fun wd hb => ?_
  replace E := hid (E.out.trans hb)
  replace B1 := hid (B1.out.up hb)
  replace C1 := hid (C1.out.up hb)
  replace R := hid (R.out.up hb)
  replace R1 := hid (R1.out.up hb)
  clear hb
  refine WE.pure (d := some 9) rfl rfl (by rfl) (v := (.pointer (some ⟨gC1, 1, none⟩))) (fun w' hk => ?_) ?_
  · go_simp
  simp only [Act.put, List.setIfInBounds_toArray, List.set_cons_zero, List.set_cons_succ]
  refine WE.pure (d := some 10) rfl rfl (by rfl) (v := (.slice A1 n1 c1)) (fun w' hk => ?_) ?_
  · have c1 := hk.cell (C1.out.cell (o := 1) (v := .slice A1 n1 c1) rfl); go_simp
  simp only [Act.put, List.setIfInBounds_toArray, List.set_cons_zero, List.set_cons_succ]
  refine WE.pure (d := some 11) rfl rfl (by rfl) (v := (.pointer (some ⟨gC1, 0, none⟩))) (fun w' hk => ?_) ?_
  · go_simp
  simp only [Act.put, List.setIfInBounds_toArray, List.set_cons_zero, List.set_cons_succ]
  refine WE.pure (d := some 12) rfl rfl (by rfl) (v := (.agg #[.int .i64 s1])) (fun w' hk => ?_) ?_
  · have c0 := hk.cell (C1.out.cell (o := 0) (v := .int .i64 s1) rfl); go_simp
  simp only [Act.put, List.setIfInBounds_toArray, List.set_cons_zero, List.set_cons_succ]
  refine WE.call (d := some 13) rfl rfl (by rfl) (f := 45) (args := #[(.agg #[.int .i64 s1])]) (by go_simp) ?_
  refine (most_s _ s1 (m := (m : Int)) HMO).mono ?_
  rintro e wn ⟨rfl, hb⟩
  refine ⟨_, rfl, hb, ?_⟩
  replace E := hid (E.out.trans hb)
  replace B1 := hid (B1.out.up hb)
  replace C1 := hid (C1.out.up hb)
  replace R := hid (R.out.up hb)
  replace R1 := hid (R1.out.up hb)
  clear hb
  simp only [Act.put, List.setIfInBounds_toArray, List.set_cons_zero, List.set_cons_succ]
  refine WE.call (d := some 14) rfl rfl (by rfl) (f := 44) (args := #[(.int .u64 (m : Int))]) (by go_simp) ?_
  refine (of_n m (by rw [HM.out]; exact M.most_le Z) _).mono ?_
  rintro e wn ⟨vx, rfl, hx, hb⟩
  obtain ⟨A2, n2, c2, rfl⟩ := hx.1.slice
  refine ⟨_, rfl, hb, ?_⟩
  replace E := hid (E.out.trans hb)
  replace B1 := hid (B1.out.up hb)
  replace C1 := hid (C1.out.up hb)
  replace R := hid (R.out.up hb)
  replace R1 := hid (R1.out.up hb)
  have R2 := hid hx
  clear hb hx
  simp only [Act.put, List.setIfInBounds_toArray, List.set_cons_zero, List.set_cons_succ]
  refine WE.call (d := some 15) rfl rfl (by rfl) (f := 43) (args := #[(.slice A1 n1 c1), (.slice A2 n2 c2)]) (by go_simp) ?_
  refine (cmp_n R1.out R2.out (z := 1) (M.cmp_gt (by rw [HM.out]; have := HF.out; rw [M.fits_iff] at this; omega))).mono ?_
  rintro e wn ⟨rfl, hb⟩
  refine ⟨_, rfl, hb, ?_⟩
  replace E := hid (E.out.trans hb)
  replace B1 := hid (B1.out.up hb)
  replace C1 := hid (C1.out.up hb)
  replace R := hid (R.out.up hb)
  replace R1 := hid (R1.out.up hb)
  replace R2 := hid (R2.out.up hb)
  clear hb
  simp only [Act.put, List.setIfInBounds_toArray, List.set_cons_zero, List.set_cons_succ]
  refine WE.pure (d := some 16) rfl rfl (by rfl) (v := (.bool true)) (fun w' hk => ?_) ?_
  · go_simp
  simp only [Act.put, List.setIfInBounds_toArray, List.set_cons_zero, List.set_cons_succ]
  refine WE.done ?_
  go_wp2
  go_ret2
  exact ⟨rfl, E.out⟩

set_option maxHeartbeats 2000000 in
theorem small_yes {w : World} {u : Value} {Z : Int} {j : Nat} (hu : Worth w u Z j) (hf : M.fits Z) :
    Calls Try.prog 10 #[u] w (fun e w' => e = .returned (.tuple #[.int .i64 Z, .bool true]) ∧ Ext w w') := by
  obtain ⟨g, A, n, c, rfl⟩ := hu.shape
  have R := hid hu
  clear hu
  have HF := hid hf
  clear hf
  obtain ⟨m, hm⟩ : ∃ m : Nat, m = M.most Z := ⟨_, rfl⟩
  have HM := hid hm
  obtain ⟨z, hz⟩ : ∃ z : Int, z = M.cmp Z.natAbs m := ⟨_, rfl⟩
  have HZ := hid hz
  have hz0 : decide (0 < z) = false := by have := M.cmp_nonpos (show Z.natAbs ≤ m by rw [hm]; exact (M.fits_iff Z).1 HF.out); rw [← hz] at this; simpa using this
  clear hz
  clear hm
  go_enter Try.func10, Try.ntmps10
  go_upto_region 1 with (fail)
  have E := hid ((Ext.refl w).alloc' (.cells #[.bool g, .slice A n c] 24))
  have B1 : Hid (Box (w.alloc (.cells #[.bool g, .slice A n c] 24)) (w.heap.size) #[.bool g, .slice A n c] 24) := hid (Box.at_ (w := w) #[.bool g, .slice A n c] 24 (by simp))
  replace R := hid (R.out.up E.out)
  refine wp_region_T [(0, 0), (1, 1), (2, 1), (3, 4)] (by kernel_rfl) fun wd hb => ?_
  replace E := hid (E.out.trans hb)
  replace B1 := hid (B1.out.up hb)
  replace R := hid (R.out.up hb)
  clear hb
  refine WE.pure (d := some 7) rfl rfl (by rfl) (v := (.agg #[.bool g, .slice A n c])) (fun w' hk => ?_) ?_
  · have c0 := hk.cell (B1.out.cell (o := 0) (v := .bool g) rfl); have c1 := hk.cell (B1.out.cell (o := 1) (v := .slice A n c) rfl); go_simp
  simp only [Act.put, List.setIfInBounds_toArray, List.set_cons_zero, List.set_cons_succ]
  refine WE.call (d := some 8) rfl rfl (by rfl) (f := 33) (args := #[(.agg #[.bool g, .slice A n c])]) (by go_simp) ?_
  refine (read_w R.out).mono ?_
  rintro e wn ⟨vx, rfl, hx, hb⟩
  obtain ⟨s1, A1, n1, c1, rfl, hs1, hr1⟩ := hx.form
  clear hx
  refine ⟨_, rfl, hb, ?_⟩
  replace E := hid (E.out.trans hb)
  replace B1 := hid (B1.out.up hb)
  replace R := hid (R.out.up hb)
  have HS1 := hid hs1
  have R1 := hid hr1
  clear hb hs1 hr1
  simp only [Act.put, List.setIfInBounds_toArray, List.set_cons_zero, List.set_cons_succ]
  refine WE.new (d := some 4) (cs := #[.int .i64 0, .slice none 0 0]) (t := 41) (v := fun g => (.pointer (some ⟨g, 0, none⟩))) rfl rfl (by rfl) (fun w => by go_simp) fun gC1 wv hx0 hbox hge => ?_
  have HNC1B1 := hid (show gC1 ≠ (w.heap.size) by have := B1.out.lt; omega)
  have HGC1 := hid (show w.heap.size ≤ gC1 by have := E.out.size; omega)
  replace E := hid (E.out.trans hx0)
  replace B1 := hid (B1.out.up hx0)
  replace R := hid (R.out.up hx0)
  replace R1 := hid (R1.out.up hx0)
  have C1 : Hid (Box wv gC1 #[.int .i64 0, .slice none 0 0] 41) := hid hbox
  clear hx0 hbox hge
  simp only [Act.put, List.setIfInBounds_toArray, List.set_cons_zero, List.set_cons_succ]
  refine WE.store2 (g := gC1) (x := .int .i64 s1) (y := .slice A1 n1 c1) (t := 41) rfl rfl (by rfl) (fun w hb => ?_) C1.out (by rfl) fun ws hk hs => ?_
  · have c0 := hb.cell (o := 0) (v := .int .i64 0) rfl; have f0 := hb.free 0; have c1 := hb.cell (o := 1) (v := .slice none 0 0) rfl; have f1 := hb.free 1; go_simp
  intro hbx
  replace E := hid (E.out.keptG hk HGC1.out)
  replace B1 := hid (B1.out.kept hk (by simpa using HNC1B1.out.symm))
  replace C1 := hid hbx
  replace R := hid (R.out.kz hs)
  replace R1 := hid (R1.out.kz hs)
  clear hk hs hbx
  refine WE.done ?_
  have HMO := hid (show (s1 < 0 → (m : Int) = 9223372036854775808) ∧ (0 ≤ s1 → (m : Int) = 9223372036854775807) by rw [HS1.out, HM.out]; exact M.most_side Z)
  go_upto_region 2 with (fail)
  refine wp_region_E [(0, 0), (1, 0), (2, 0), (3, 0), (4, 1), (5, 1), (6, 1), (7, 0)] (fun _ => (0, #[])) rfl (by kernel_rfl) (by intro j hj; cases hj) (fun _ _ d _ _ => by cases d <;> exact Iff.rfl) fun wd hb => ?_
  replace E := hid (E.out.trans hb)
  replace B1 := hid (B1.out.up hb)
  replace C1 := hid (C1.out.up hb)
  replace R := hid (R.out.up hb)
  replace R1 := hid (R1.out.up hb)
  clear hb
  refine WE.pure (d := some 9) rfl rfl (by rfl) (v := (.pointer (some ⟨gC1, 1, none⟩))) (fun w' hk => ?_) ?_
  · go_simp
  simp only [Act.put, List.setIfInBounds_toArray, List.set_cons_zero, List.set_cons_succ]
  refine WE.pure (d := some 10) rfl rfl (by rfl) (v := (.slice A1 n1 c1)) (fun w' hk => ?_) ?_
  · have c1 := hk.cell (C1.out.cell (o := 1) (v := .slice A1 n1 c1) rfl); go_simp
  simp only [Act.put, List.setIfInBounds_toArray, List.set_cons_zero, List.set_cons_succ]
  refine WE.pure (d := some 11) rfl rfl (by rfl) (v := (.pointer (some ⟨gC1, 0, none⟩))) (fun w' hk => ?_) ?_
  · go_simp
  simp only [Act.put, List.setIfInBounds_toArray, List.set_cons_zero, List.set_cons_succ]
  refine WE.pure (d := some 12) rfl rfl (by rfl) (v := (.agg #[.int .i64 s1])) (fun w' hk => ?_) ?_
  · have c0 := hk.cell (C1.out.cell (o := 0) (v := .int .i64 s1) rfl); go_simp
  simp only [Act.put, List.setIfInBounds_toArray, List.set_cons_zero, List.set_cons_succ]
  refine WE.call (d := some 13) rfl rfl (by rfl) (f := 45) (args := #[(.agg #[.int .i64 s1])]) (by go_simp) ?_
  refine (most_s _ s1 (m := (m : Int)) HMO).mono ?_
  rintro e wn ⟨rfl, hb⟩
  refine ⟨_, rfl, hb, ?_⟩
  replace E := hid (E.out.trans hb)
  replace B1 := hid (B1.out.up hb)
  replace C1 := hid (C1.out.up hb)
  replace R := hid (R.out.up hb)
  replace R1 := hid (R1.out.up hb)
  clear hb
  simp only [Act.put, List.setIfInBounds_toArray, List.set_cons_zero, List.set_cons_succ]
  refine WE.call (d := some 14) rfl rfl (by rfl) (f := 44) (args := #[(.int .u64 (m : Int))]) (by go_simp) ?_
  refine (of_n m (by rw [HM.out]; exact M.most_le Z) _).mono ?_
  rintro e wn ⟨vx, rfl, hx, hb⟩
  obtain ⟨A2, n2, c2, rfl⟩ := hx.1.slice
  refine ⟨_, rfl, hb, ?_⟩
  replace E := hid (E.out.trans hb)
  replace B1 := hid (B1.out.up hb)
  replace C1 := hid (C1.out.up hb)
  replace R := hid (R.out.up hb)
  replace R1 := hid (R1.out.up hb)
  have R2 := hid hx
  clear hb hx
  simp only [Act.put, List.setIfInBounds_toArray, List.set_cons_zero, List.set_cons_succ]
  refine WE.call (d := some 15) rfl rfl (by rfl) (f := 43) (args := #[(.slice A1 n1 c1), (.slice A2 n2 c2)]) (by go_simp) ?_
  refine (cmp_n R1.out R2.out HZ.out.symm).mono ?_
  rintro e wn ⟨rfl, hb⟩
  refine ⟨_, rfl, hb, ?_⟩
  replace E := hid (E.out.trans hb)
  replace B1 := hid (B1.out.up hb)
  replace C1 := hid (C1.out.up hb)
  replace R := hid (R.out.up hb)
  replace R1 := hid (R1.out.up hb)
  replace R2 := hid (R2.out.up hb)
  clear hb
  simp only [Act.put, List.setIfInBounds_toArray, List.set_cons_zero, List.set_cons_succ]
  refine WE.pure (d := some 16) rfl rfl (by rfl) (v := (.bool false)) (fun w' hk => ?_) ?_
  · go_simp
  simp only [Act.put, List.setIfInBounds_toArray, List.set_cons_zero, List.set_cons_succ]
  refine WE.done ?_
  have c0 := C1.out.cell (o := 0) (v := .int .i64 s1) rfl
  have c1 := C1.out.cell (o := 1) (v := .slice A1 n1 c1) rfl
  obtain ⟨A2', n2', c2', e2, hn, hc, hmx, hs, hr⟩ := R1.out.1
  injection e2 with e2 e3 e4
  subst e2 e3 e4
  have hb1 : n1 ≤ 9223372036854775807 := by unfold maxLen at hmx; omega
  have HR := hid hr
  have HN := hid hn
  clear hr hn hs hmx hc
  have EE := E
  clear E B1 R R1 R2 HMO HGC1 HNC1B1
  go_wp2
  go_loop [5, 6] (fun x i => ∃ (k : Nat) (z a : Int), k ≤ n1 ∧ z = (k : Int) - 1 ∧ i = .int .i64 z ∧ x = .int .i64 a ∧ a = IntKind.i64.wrap (M.val ((M.limbs Z.natAbs).drop k) : Int)) (fun _ i => (intOf i + 1).toNat)
  case atStart => exact ⟨n1, _, _, Nat.le_refl _, rfl, rfl, rfl, by rw [List.drop_eq_nil_of_le (by rw [← HN.out]; exact Nat.le_refl _)]; rfl⟩
  case round =>
    obtain ⟨k, z, a, hk, hz, rfl, rfl, ha⟩ := hrel
    have HA := hid ha
    clear ha
    rcases k with _ | k
    · obtain rfl : z = -1 := by omega
      clear hz
      have HR2 := hid (show wrap64 (s1 * a) = Z from (M.wrap64_eq _).trans (M.small_last HS1.out (HA.out.trans (by rw [List.drop_zero, M.val_limbs])) HF.out))
      go_wp2
      go_ret2
      refine ⟨?_, EE.out⟩
      show Ending.returned (.tuple #[.int .i64 (wrap64 (s1 * a)), .bool true]) = _
      rw [HR2.out]
    · obtain rfl : z = (k : Int) := by omega
      clear hz
      have hlt : k < n1 := by omega
      obtain ⟨ad, x, rfl, _, HX, hcell⟩ := HR.out.get (k := k) (by rw [← HN.out]; exact hlt)
      go_wp2
      go_round
      case rel => exact ⟨k, _, _, by omega, rfl, rfl, rfl, M.small_step HA.out HX.out rfl⟩
      case measure => simp [intOf]; all_goals omega

end Go.Proofs.Ythlafkbldlmmaaa
