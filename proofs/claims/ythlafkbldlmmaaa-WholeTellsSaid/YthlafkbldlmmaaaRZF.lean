/-
  Contracts of the reference's integers, over what values are worth.
-/
import Derived.Test.YthlafkbldlmmaaaRZB
import Derived.Test.YthlafkbldlmmaaaZSmall
namespace Go.Proofs.Ythlafkbldlmmaaa
open Go.RowKit
set_option linter.unusedSimpArgs false
set_option linter.unusedVariables false

namespace M
theorem rsmall64_step {n n' : Int} {l : List Nat} {k x : Nat} (hn : n = IntKind.u64.wrap (val (l.drop (k + 1)) : Int)) (hx : l[k]? = some x) (h' : n' = IntKind.u64.wrap (IntKind.u64.wrap (n * 1000000000) + IntKind.u64.wrap (x : Int))) : n' = IntKind.u64.wrap (val (l.drop k) : Int) := by
  subst hn h'
  have e : val (l.drop k) = x + 1000000000 * val (l.drop (k + 1)) := by rw [drop_at hx]; rfl
  rw [e, IntKind.wrap_u64, IntKind.wrap_u64, IntKind.wrap_u64, IntKind.wrap_u64, IntKind.wrap_u64]
  omega
theorem zcmp_ge {a b z : Int} (h : zcmp a b = z) (hab : b ≤ a) : decide (z < 0) = false := by
  subst h
  rcases (by omega : a = b ∨ b < a) with h | h
  · rw [zcmp_same h]; rfl
  · rw [zcmp_gt h]; rfl
theorem zcmp_le {a b z : Int} (h : zcmp a b = z) (hab : a ≤ b) : decide (0 < z) = false := by
  subst h
  rcases (by omega : a = b ∨ a < b) with h | h
  · rw [zcmp_same h]; rfl
  · rw [zcmp_lt h]; rfl
end M

set_option maxHeartbeats 1000000 in
theorem rSmall_low {w : World} {u : Value} {Z : Int} {j : Nat} (hu : Worth w u Z j) (hf : Z < -9223372036854775808) :
    Calls Try.prog 11 #[u] w (fun e w' => e = .returned (.tuple #[.int .i64 0, .bool false]) ∧ Ext w w') := by
  obtain ⟨g, A, n, c, rfl⟩ := hu.shape
  have R := hid hu
  clear hu
  have HF := hid hf
  have HL := hid (show decide (Z < 0) = true by simp; omega)
  clear hf
  obtain ⟨z1, hz1⟩ : ∃ z : Int, M.zcmp Z (-9223372036854775808) = z := ⟨_, rfl⟩
  obtain ⟨z2, hz2⟩ : ∃ z : Int, M.zcmp Z 9223372036854775807 = z := ⟨_, rfl⟩
  have HZ1 := hid hz1
  have HZ2 := hid hz2
  have hq1 : decide (z1 < 0) = true := by rw [M.zcmp_lt HF.out] at hz1; subst hz1; rfl
  clear hz1 hz2
  go_enter Try.func11, Try.ntmps11
  go_upto_region 1 with (fail)
  have E := hid ((Ext.refl w).alloc' (.cells #[.bool g, .slice A n c] 24))
  have B1 : Hid (Box (w.alloc (.cells #[.bool g, .slice A n c] 24)) (w.heap.size) #[.bool g, .slice A n c] 24) := hid (Box.at_ (w := w) #[.bool g, .slice A n c] 24 (by simp))
  replace R := hid (R.out.up E.out)
  refine wp_region_T [(0, 0), (1, 1), (2, 1), (3, 4)] (by kernel_rfl) fun wd hb => ?_
  replace E := hid (E.out.trans hb)
  replace B1 := hid (B1.out.up hb)
  replace R := hid (R.out.up hb)
  clear hb
  refine WE.pure (d := some 7) rfl rfl (by rfl) (v := (.agg #[.bool g, .slice A n c])) (fun w' hk => ?_) ?_
  · have c0 := hk.cell (B1.out.cell (o := 0) (v := .bool g) rfl); have c1 := hk.cell (B1.out.cell (o := 1) (v := .slice A n c) rfl); go_simp
  simp only [Act.put, List.setIfInBounds_toArray, List.set_cons_zero, List.set_cons_succ]
  refine WE.call (d := some 8) rfl rfl (by rfl) (f := 36) (args := #[(.agg #[.bool g, .slice A n c])]) (by go_simp) ?_
  refine (rMay_w R.out).mono ?_
  rintro e wn ⟨vx, rfl, hx, hb⟩
  obtain ⟨gg, A1, n1, c1, rfl, hs1, hr1⟩ := hx.form
  clear hx
  obtain rfl : gg = true := hs1.trans HL.out
  clear hs1
  refine ⟨_, rfl, hb, ?_⟩
  replace E := hid (E.out.trans hb)
  replace B1 := hid (B1.out.up hb)
  replace R := hid (R.out.up hb)
  have R1 := hid hr1
  clear hb hr1
  simp only [Act.put, List.setIfInBounds_toArray, List.set_cons_zero, List.set_cons_succ]
  refine WE.new (d := some 4) (cs := #[.bool false, .slice none 0 0]) (t := 24) (v := fun g => (.pointer (some ⟨g, 0, none⟩))) rfl rfl (by rfl) (fun w => by go_simp) fun gC1 wv hx0 hbox hge => ?_
  have HNC1B1 := hid (show gC1 ≠ (w.heap.size) by have := B1.out.lt; omega)
  have HGC1 := hid (show w.heap.size ≤ gC1 by have := E.out.size; omega)
  replace E := hid (E.out.trans hx0)
  replace B1 := hid (B1.out.up hx0)
  replace R := hid (R.out.up hx0)
  replace R1 := hid (R1.out.up hx0)
  have C1 : Hid (Box wv gC1 #[.bool false, .slice none 0 0] 24) := hid hbox
  clear hx0 hbox hge
  simp only [Act.put, List.setIfInBounds_toArray, List.set_cons_zero, List.set_cons_succ]
  refine WE.store2 (g := gC1) (x := .bool true) (y := .slice A1 n1 c1) (t := 24) rfl rfl (by rfl) (fun w hb => ?_) C1.out (by rfl) fun ws hk hs => ?_
  · have c0 := hb.cell (o := 0) (v := .bool false) rfl; have f0 := hb.free 0; have c1 := hb.cell (o := 1) (v := .slice none 0 0) rfl; have f1 := hb.free 1; go_simp
  intro hbx
  replace E := hid (E.out.keptG hk HGC1.out)
  replace B1 := hid (B1.out.kept hk (by simpa using HNC1B1.out.symm))
  replace C1 := hid hbx
  replace R := hid (R.out.kz hs)
  replace R1 := hid (R1.out.kz hs)
  clear hk hs hbx
  refine WE.done ?_
  go_upto_region 2 with (fail)
  refine wp_region_E [(0, 0), (1, 1), (2, 1), (3, 0), (4, 0), (5, 0), (6, 1), (7, 1), (8, 0), (9, 0)] (fun _ => (0, #[])) rfl (by kernel_rfl) (by intro j hj; cases hj) (fun _ _ d _ _ => by cases d <;> exact Iff.rfl) fun wd hb => ?_
  replace E := hid (E.out.trans hb)
  replace B1 := hid (B1.out.up hb)
  replace C1 := hid (C1.out.up hb)
  replace R := hid (R.out.up hb)
  replace R1 := hid (R1.out.up hb)
  clear hb
  refine WE.pure (d := some 9) rfl rfl (by rfl) (v := (.agg #[.bool true, .slice A1 n1 c1])) (fun w' hk => ?_) ?_
  · have c0 := hk.cell (C1.out.cell (o := 0) (v := .bool true) rfl); have c1 := hk.cell (C1.out.cell (o := 1) (v := .slice A1 n1 c1) rfl); go_simp
  simp only [Act.put, List.setIfInBounds_toArray, List.set_cons_zero, List.set_cons_succ]
  refine WE.call (d := some 10) rfl rfl (by rfl) (f := 16) (args := #[(.int .i64 (-9223372036854775808))]) (by go_simp) ?_
  refine (rOf_z (n := -9223372036854775808) (by decide) (by decide) _).mono ?_
  rintro e wn ⟨vx, rfl, hx, hb⟩
  obtain ⟨g3, A3, n3, c3, rfl, hs3, hr3⟩ := hx.form
  clear hx
  refine ⟨_, rfl, hb, ?_⟩
  replace E := hid (E.out.trans hb)
  replace B1 := hid (B1.out.up hb)
  replace C1 := hid (C1.out.up hb)
  replace R := hid (R.out.up hb)
  replace R1 := hid (R1.out.up hb)
  have HS3 := hid hs3
  have R3 := hid hr3
  clear hb hs3 hr3
  simp only [Act.put, List.setIfInBounds_toArray, List.set_cons_zero, List.set_cons_succ]
  refine WE.call (d := some 11) rfl rfl (by rfl) (f := 20) (args := #[(.agg #[.bool true, .slice A1 n1 c1]), (.agg #[.bool g3, .slice A3 n3 c3])]) (by go_simp) ?_
  refine (rCmp_w (IsZ.mk HL.out.symm R1.out).worth (IsZ.mk HS3.out R3.out).worth HZ1.out).mono ?_
  rintro e wn ⟨rfl, hb⟩
  refine ⟨_, rfl, hb, ?_⟩
  replace E := hid (E.out.trans hb)
  replace B1 := hid (B1.out.up hb)
  replace C1 := hid (C1.out.up hb)
  replace R := hid (R.out.up hb)
  replace R1 := hid (R1.out.up hb)
  replace R3 := hid (R3.out.up hb)
  clear hb
  simp only [Act.put, List.setIfInBounds_toArray, List.set_cons_zero, List.set_cons_succ]
  refine WE.pure (d := some 12) rfl rfl (by rfl) (v := (.bool true)) (fun w' hk => ?_) ?_
  · go_simp
  simp only [Act.put, List.setIfInBounds_toArray, List.set_cons_zero, List.set_cons_succ]
  refine WE.pure (d := some 13) rfl rfl (by rfl) (v := (.bool true)) (fun w' hk => ?_) ?_
  · go_simp
  simp only [Act.put, List.setIfInBounds_toArray, List.set_cons_zero, List.set_cons_succ]
  refine WE.skip (d := some 14) rfl rfl (by rfl) ?_
  simp only [Act.put, List.setIfInBounds_toArray, List.set_cons_zero, List.set_cons_succ]
  refine WE.pass (d := some 15) rfl rfl (by rfl) ?_
  simp only [Act.put, List.setIfInBounds_toArray, List.set_cons_zero, List.set_cons_succ]
  refine WE.pass (d := some 16) rfl rfl (by rfl) ?_
  simp only [Act.put, List.setIfInBounds_toArray, List.set_cons_zero, List.set_cons_succ]
  refine WE.skip (d := some 17) rfl rfl (by rfl) ?_
  simp only [Act.put, List.setIfInBounds_toArray, List.set_cons_zero, List.set_cons_succ]
  refine WE.pure (d := some 18) rfl rfl (by rfl) (v := (.bool true)) (fun w' hk => ?_) ?_
  · go_simp
  simp only [Act.put, List.setIfInBounds_toArray, List.set_cons_zero, List.set_cons_succ]
  refine WE.done ?_
  go_wp2
  go_ret2
  exact ⟨rfl, E.out⟩

set_option maxHeartbeats 1000000 in
theorem rSmall_high {w : World} {u : Value} {Z : Int} {j : Nat} (hu : Worth w u Z j) (hf : 9223372036854775807 < Z) :
    Calls Try.prog 11 #[u] w (fun e w' => e = .returned (.tuple #[.int .i64 0, .bool false]) ∧ Ext w w') := by
  obtain ⟨g, A, n, c, rfl⟩ := hu.shape
  have R := hid hu
  clear hu
  have HF := hid hf
  have HL := hid (show decide (Z < 0) = false by simp; omega)
  clear hf
  obtain ⟨z1, hz1⟩ : ∃ z : Int, M.zcmp Z (-9223372036854775808) = z := ⟨_, rfl⟩
  obtain ⟨z2, hz2⟩ : ∃ z : Int, M.zcmp Z 9223372036854775807 = z := ⟨_, rfl⟩
  have HZ1 := hid hz1
  have HZ2 := hid hz2
  have hq1 : decide (z1 < 0) = false := M.zcmp_ge hz1 (by have := HF.out; omega)
  have hq2 : decide (0 < z2) = true := by rw [M.zcmp_gt HF.out] at hz2; subst hz2; rfl
  clear hz1 hz2
  go_enter Try.func11, Try.ntmps11
  go_upto_region 1 with (fail)
  have E := hid ((Ext.refl w).alloc' (.cells #[.bool g, .slice A n c] 24))
  have B1 : Hid (Box (w.alloc (.cells #[.bool g, .slice A n c] 24)) (w.heap.size) #[.bool g, .slice A n c] 24) := hid (Box.at_ (w := w) #[.bool g, .slice A n c] 24 (by simp))
  replace R := hid (R.out.up E.out)
  refine wp_region_T [(0, 0), (1, 1), (2, 1), (3, 4)] (by kernel_rfl) fun wd hb => ?_
  replace E := hid (E.out.trans hb)
  replace B1 := hid (B1.out.up hb)
  replace R := hid (R.out.up hb)
  clear hb
  refine WE.pure (d := some 7) rfl rfl (by rfl) (v := (.agg #[.bool g, .slice A n c])) (fun w' hk => ?_) ?_
  · have c0 := hk.cell (B1.out.cell (o := 0) (v := .bool g) rfl); have c1 := hk.cell (B1.out.cell (o := 1) (v := .slice A n c) rfl); go_simp
  simp only [Act.put, List.setIfInBounds_toArray, List.set_cons_zero, List.set_cons_succ]
  refine WE.call (d := some 8) rfl rfl (by rfl) (f := 36) (args := #[(.agg #[.bool g, .slice A n c])]) (by go_simp) ?_
  refine (rMay_w R.out).mono ?_
  rintro e wn ⟨vx, rfl, hx, hb⟩
  obtain ⟨gg, A1, n1, c1, rfl, hs1, hr1⟩ := hx.form
  clear hx
  obtain rfl : gg = false := hs1.trans HL.out
  clear hs1
  refine ⟨_, rfl, hb, ?_⟩
  replace E := hid (E.out.trans hb)
  replace B1 := hid (B1.out.up hb)
  replace R := hid (R.out.up hb)
  have R1 := hid hr1
  clear hb hr1
  simp only [Act.put, List.setIfInBounds_toArray, List.set_cons_zero, List.set_cons_succ]
  refine WE.new (d := some 4) (cs := #[.bool false, .slice none 0 0]) (t := 24) (v := fun g => (.pointer (some ⟨g, 0, none⟩))) rfl rfl (by rfl) (fun w => by go_simp) fun gC1 wv hx0 hbox hge => ?_
  have HNC1B1 := hid (show gC1 ≠ (w.heap.size) by have := B1.out.lt; omega)
  have HGC1 := hid (show w.heap.size ≤ gC1 by have := E.out.size; omega)
  replace E := hid (E.out.trans hx0)
  replace B1 := hid (B1.out.up hx0)
  replace R := hid (R.out.up hx0)
  replace R1 := hid (R1.out.up hx0)
  have C1 : Hid (Box wv gC1 #[.bool false, .slice none 0 0] 24) := hid hbox
  clear hx0 hbox hge
  simp only [Act.put, List.setIfInBounds_toArray, List.set_cons_zero, List.set_cons_succ]
  refine WE.store2 (g := gC1) (x := .bool false) (y := .slice A1 n1 c1) (t := 24) rfl rfl (by rfl) (fun w hb => ?_) C1.out (by rfl) fun ws hk hs => ?_
  · have c0 := hb.cell (o := 0) (v := .bool false) rfl; have f0 := hb.free 0; have c1 := hb.cell (o := 1) (v := .slice none 0 0) rfl; have f1 := hb.free 1; go_simp
  intro hbx
  replace E := hid (E.out.keptG hk HGC1.out)
  replace B1 := hid (B1.out.kept hk (by simpa using HNC1B1.out.symm))
  replace C1 := hid hbx
  replace R := hid (R.out.kz hs)
  replace R1 := hid (R1.out.kz hs)
  clear hk hs hbx
  refine WE.done ?_
  go_upto_region 2 with (fail)
  refine wp_region_E [(0, 0), (1, 1), (2, 1), (3, 0), (4, 0), (5, 0), (6, 1), (7, 1), (8, 0), (9, 0)] (fun _ => (0, #[])) rfl (by kernel_rfl) (by intro j hj; cases hj) (fun _ _ d _ _ => by cases d <;> exact Iff.rfl) fun wd hb => ?_
  replace E := hid (E.out.trans hb)
  replace B1 := hid (B1.out.up hb)
  replace C1 := hid (C1.out.up hb)
  replace R := hid (R.out.up hb)
  replace R1 := hid (R1.out.up hb)
  clear hb
  refine WE.pure (d := some 9) rfl rfl (by rfl) (v := (.agg #[.bool false, .slice A1 n1 c1])) (fun w' hk => ?_) ?_
  · have c0 := hk.cell (C1.out.cell (o := 0) (v := .bool false) rfl); have c1 := hk.cell (C1.out.cell (o := 1) (v := .slice A1 n1 c1) rfl); go_simp
  simp only [Act.put, List.setIfInBounds_toArray, List.set_cons_zero, List.set_cons_succ]
  refine WE.call (d := some 10) rfl rfl (by rfl) (f := 16) (args := #[(.int .i64 (-9223372036854775808))]) (by go_simp) ?_
  refine (rOf_z (n := -9223372036854775808) (by decide) (by decide) _).mono ?_
  rintro e wn ⟨vx, rfl, hx, hb⟩
  obtain ⟨g3, A3, n3, c3, rfl, hs3, hr3⟩ := hx.form
  clear hx
  refine ⟨_, rfl, hb, ?_⟩
  replace E := hid (E.out.trans hb)
  replace B1 := hid (B1.out.up hb)
  replace C1 := hid (C1.out.up hb)
  replace R := hid (R.out.up hb)
  replace R1 := hid (R1.out.up hb)
  have HS3 := hid hs3
  have R3 := hid hr3
  clear hb hs3 hr3
  simp only [Act.put, List.setIfInBounds_toArray, List.set_cons_zero, List.set_cons_succ]
  refine WE.call (d := some 11) rfl rfl (by rfl) (f := 20) (args := #[(.agg #[.bool false, .slice A1 n1 c1]), (.agg #[.bool g3, .slice A3 n3 c3])]) (by go_simp) ?_
  refine (rCmp_w (IsZ.mk HL.out.symm R1.out).worth (IsZ.mk HS3.out R3.out).worth HZ1.out).mono ?_
  rintro e wn ⟨rfl, hb⟩
  refine ⟨_, rfl, hb, ?_⟩
  replace E := hid (E.out.trans hb)
  replace B1 := hid (B1.out.up hb)
  replace C1 := hid (C1.out.up hb)
  replace R := hid (R.out.up hb)
  replace R1 := hid (R1.out.up hb)
  replace R3 := hid (R3.out.up hb)
  clear hb
  simp only [Act.put, List.setIfInBounds_toArray, List.set_cons_zero, List.set_cons_succ]
  refine WE.pure (d := some 12) rfl rfl (by rfl) (v := (.bool false)) (fun w' hk => ?_) ?_
  · go_simp
  simp only [Act.put, List.setIfInBounds_toArray, List.set_cons_zero, List.set_cons_succ]
  refine WE.pure (d := some 13) rfl rfl (by rfl) (v := (.bool false)) (fun w' hk => ?_) ?_
  · go_simp
  simp only [Act.put, List.setIfInBounds_toArray, List.set_cons_zero, List.set_cons_succ]
  refine WE.pure (d := some 14) rfl rfl (by rfl) (v := (.agg #[.bool false, .slice A1 n1 c1])) (fun w' hk => ?_) ?_
  · have c0 := hk.cell (C1.out.cell (o := 0) (v := .bool false) rfl); have c1 := hk.cell (C1.out.cell (o := 1) (v := .slice A1 n1 c1) rfl); go_simp
  simp only [Act.put, List.setIfInBounds_toArray, List.set_cons_zero, List.set_cons_succ]
  refine WE.call (d := some 15) rfl rfl (by rfl) (f := 16) (args := #[(.int .i64 (9223372036854775807))]) (by go_simp) ?_
  refine (rOf_z (n := 9223372036854775807) (by decide) (by decide) _).mono ?_
  rintro e wn ⟨vx, rfl, hx, hb⟩
  obtain ⟨g4, A4, n4, c4, rfl, hs4, hr4⟩ := hx.form
  clear hx
  refine ⟨_, rfl, hb, ?_⟩
  replace E := hid (E.out.trans hb)
  replace B1 := hid (B1.out.up hb)
  replace C1 := hid (C1.out.up hb)
  replace R := hid (R.out.up hb)
  replace R1 := hid (R1.out.up hb)
  replace R3 := hid (R3.out.up hb)
  have HS4 := hid hs4
  have R4 := hid hr4
  clear hb hs4 hr4
  simp only [Act.put, List.setIfInBounds_toArray, List.set_cons_zero, List.set_cons_succ]
  refine WE.call (d := some 16) rfl rfl (by rfl) (f := 20) (args := #[(.agg #[.bool false, .slice A1 n1 c1]), (.agg #[.bool g4, .slice A4 n4 c4])]) (by go_simp) ?_
  refine (rCmp_w (IsZ.mk HL.out.symm R1.out).worth (IsZ.mk HS4.out R4.out).worth HZ2.out).mono ?_
  rintro e wn ⟨rfl, hb⟩
  refine ⟨_, rfl, hb, ?_⟩
  replace E := hid (E.out.trans hb)
  replace B1 := hid (B1.out.up hb)
  replace C1 := hid (C1.out.up hb)
  replace R := hid (R.out.up hb)
  replace R1 := hid (R1.out.up hb)
  replace R3 := hid (R3.out.up hb)
  replace R4 := hid (R4.out.up hb)
  clear hb
  simp only [Act.put, List.setIfInBounds_toArray, List.set_cons_zero, List.set_cons_succ]
  refine WE.pure (d := some 17) rfl rfl (by rfl) (v := (.bool true)) (fun w' hk => ?_) ?_
  · go_simp
  simp only [Act.put, List.setIfInBounds_toArray, List.set_cons_zero, List.set_cons_succ]
  refine WE.pure (d := some 18) rfl rfl (by rfl) (v := (.bool true)) (fun w' hk => ?_) ?_
  · go_simp
  simp only [Act.put, List.setIfInBounds_toArray, List.set_cons_zero, List.set_cons_succ]
  refine WE.done ?_
  go_wp2
  go_ret2
  exact ⟨rfl, E.out⟩

set_option maxHeartbeats 2000000 in
theorem rSmall_neg {w : World} {u : Value} {Z : Int} {j : Nat} (hu : Worth w u Z j) (hf : -9223372036854775808 ≤ Z ∧ Z < 0) :
    Calls Try.prog 11 #[u] w (fun e w' => e = .returned (.tuple #[.int .i64 Z, .bool true]) ∧ Ext w w') := by
  obtain ⟨g, A, n, c, rfl⟩ := hu.shape
  have R := hid hu
  clear hu
  have HF := hid hf
  have HL := hid (show decide (Z < 0) = true by simp; omega)
  clear hf
  obtain ⟨z1, hz1⟩ : ∃ z : Int, M.zcmp Z (-9223372036854775808) = z := ⟨_, rfl⟩
  obtain ⟨z2, hz2⟩ : ∃ z : Int, M.zcmp Z 9223372036854775807 = z := ⟨_, rfl⟩
  have HZ1 := hid hz1
  have HZ2 := hid hz2
  have hq1 : decide (z1 < 0) = false := M.zcmp_ge hz1 (by have := HF.out; omega)
  have hq2 : decide (0 < z2) = false := M.zcmp_le hz2 (by have := HF.out; omega)
  clear hz1 hz2
  go_enter Try.func11, Try.ntmps11
  go_upto_region 1 with (fail)
  have E := hid ((Ext.refl w).alloc' (.cells #[.bool g, .slice A n c] 24))
  have B1 : Hid (Box (w.alloc (.cells #[.bool g, .slice A n c] 24)) (w.heap.size) #[.bool g, .slice A n c] 24) := hid (Box.at_ (w := w) #[.bool g, .slice A n c] 24 (by simp))
  replace R := hid (R.out.up E.out)
  refine wp_region_T [(0, 0), (1, 1), (2, 1), (3, 4)] (by kernel_rfl) fun wd hb => ?_
  replace E := hid (E.out.trans hb)
  replace B1 := hid (B1.out.up hb)
  replace R := hid (R.out.up hb)
  clear hb
  refine WE.pure (d := some 7) rfl rfl (by rfl) (v := (.agg #[.bool g, .slice A n c])) (fun w' hk => ?_) ?_
  · have c0 := hk.cell (B1.out.cell (o := 0) (v := .bool g) rfl); have c1 := hk.cell (B1.out.cell (o := 1) (v := .slice A n c) rfl); go_simp
  simp only [Act.put, List.setIfInBounds_toArray, List.set_cons_zero, List.set_cons_succ]
  refine WE.call (d := some 8) rfl rfl (by rfl) (f := 36) (args := #[(.agg #[.bool g, .slice A n c])]) (by go_simp) ?_
  refine (rMay_w R.out).mono ?_
  rintro e wn ⟨vx, rfl, hx, hb⟩
  obtain ⟨gg, A1, n1, c1, rfl, hs1, hr1⟩ := hx.form
  clear hx
  obtain rfl : gg = true := hs1.trans HL.out
  clear hs1
  refine ⟨_, rfl, hb, ?_⟩
  replace E := hid (E.out.trans hb)
  replace B1 := hid (B1.out.up hb)
  replace R := hid (R.out.up hb)
  have R1 := hid hr1
  clear hb hr1
  simp only [Act.put, List.setIfInBounds_toArray, List.set_cons_zero, List.set_cons_succ]
  refine WE.new (d := some 4) (cs := #[.bool false, .slice none 0 0]) (t := 24) (v := fun g => (.pointer (some ⟨g, 0, none⟩))) rfl rfl (by rfl) (fun w => by go_simp) fun gC1 wv hx0 hbox hge => ?_
  have HNC1B1 := hid (show gC1 ≠ (w.heap.size) by have := B1.out.lt; omega)
  have HGC1 := hid (show w.heap.size ≤ gC1 by have := E.out.size; omega)
  replace E := hid (E.out.trans hx0)
  replace B1 := hid (B1.out.up hx0)
  replace R := hid (R.out.up hx0)
  replace R1 := hid (R1.out.up hx0)
  have C1 : Hid (Box wv gC1 #[.bool false, .slice none 0 0] 24) := hid hbox
  clear hx0 hbox hge
  simp only [Act.put, List.setIfInBounds_toArray, List.set_cons_zero, List.set_cons_succ]
  refine WE.store2 (g := gC1) (x := .bool true) (y := .slice A1 n1 c1) (t := 24) rfl rfl (by rfl) (fun w hb => ?_) C1.out (by rfl) fun ws hk hs => ?_
  · have c0 := hb.cell (o := 0) (v := .bool false) rfl; have f0 := hb.free 0; have c1 := hb.cell (o := 1) (v := .slice none 0 0) rfl; have f1 := hb.free 1; go_simp
  intro hbx
  replace E := hid (E.out.keptG hk HGC1.out)
  replace B1 := hid (B1.out.kept hk (by simpa using HNC1B1.out.symm))
  replace C1 := hid hbx
  replace R := hid (R.out.kz hs)
  replace R1 := hid (R1.out.kz hs)
  clear hk hs hbx
  refine WE.done ?_
  go_upto_region 2 with (fail)
  refine wp_region_E [(0, 0), (1, 1), (2, 1), (3, 0), (4, 0), (5, 0), (6, 1), (7, 1), (8, 0), (9, 0)] (fun _ => (0, #[])) rfl (by kernel_rfl) (by intro j hj; cases hj) (fun _ _ d _ _ => by cases d <;> exact Iff.rfl) fun wd hb => ?_
  replace E := hid (E.out.trans hb)
  replace B1 := hid (B1.out.up hb)
  replace C1 := hid (C1.out.up hb)
  replace R := hid (R.out.up hb)
  replace R1 := hid (R1.out.up hb)
  clear hb
  refine WE.pure (d := some 9) rfl rfl (by rfl) (v := (.agg #[.bool true, .slice A1 n1 c1])) (fun w' hk => ?_) ?_
  · have c0 := hk.cell (C1.out.cell (o := 0) (v := .bool true) rfl); have c1 := hk.cell (C1.out.cell (o := 1) (v := .slice A1 n1 c1) rfl); go_simp
  simp only [Act.put, List.setIfInBounds_toArray, List.set_cons_zero, List.set_cons_succ]
  refine WE.call (d := some 10) rfl rfl (by rfl) (f := 16) (args := #[(.int .i64 (-9223372036854775808))]) (by go_simp) ?_
  refine (rOf_z (n := -9223372036854775808) (by decide) (by decide) _).mono ?_
  rintro e wn ⟨vx, rfl, hx, hb⟩
  obtain ⟨g3, A3, n3, c3, rfl, hs3, hr3⟩ := hx.form
  clear hx
  refine ⟨_, rfl, hb, ?_⟩
  replace E := hid (E.out.trans hb)
  replace B1 := hid (B1.out.up hb)
  replace C1 := hid (C1.out.up hb)
  replace R := hid (R.out.up hb)
  replace R1 := hid (R1.out.up hb)
  have HS3 := hid hs3
  have R3 := hid hr3
  clear hb hs3 hr3
  simp only [Act.put, List.setIfInBounds_toArray, List.set_cons_zero, List.set_cons_succ]
  refine WE.call (d := some 11) rfl rfl (by rfl) (f := 20) (args := #[(.agg #[.bool true, .slice A1 n1 c1]), (.agg #[.bool g3, .slice A3 n3 c3])]) (by go_simp) ?_
  refine (rCmp_w (IsZ.mk HL.out.symm R1.out).worth (IsZ.mk HS3.out R3.out).worth HZ1.out).mono ?_
  rintro e wn ⟨rfl, hb⟩
  refine ⟨_, rfl, hb, ?_⟩
  replace E := hid (E.out.trans hb)
  replace B1 := hid (B1.out.up hb)
  replace C1 := hid (C1.out.up hb)
  replace R := hid (R.out.up hb)
  replace R1 := hid (R1.out.up hb)
  replace R3 := hid (R3.out.up hb)
  clear hb
  simp only [Act.put, List.setIfInBounds_toArray, List.set_cons_zero, List.set_cons_succ]
  refine WE.pure (d := some 12) rfl rfl (by rfl) (v := (.bool false)) (fun w' hk => ?_) ?_
  · go_simp
  simp only [Act.put, List.setIfInBounds_toArray, List.set_cons_zero, List.set_cons_succ]
  refine WE.pure (d := some 13) rfl rfl (by rfl) (v := (.bool false)) (fun w' hk => ?_) ?_
  · go_simp
  simp only [Act.put, List.setIfInBounds_toArray, List.set_cons_zero, List.set_cons_succ]
  refine WE.pure (d := some 14) rfl rfl (by rfl) (v := (.agg #[.bool true, .slice A1 n1 c1])) (fun w' hk => ?_) ?_
  · have c0 := hk.cell (C1.out.cell (o := 0) (v := .bool true) rfl); have c1 := hk.cell (C1.out.cell (o := 1) (v := .slice A1 n1 c1) rfl); go_simp
  simp only [Act.put, List.setIfInBounds_toArray, List.set_cons_zero, List.set_cons_succ]
  refine WE.call (d := some 15) rfl rfl (by rfl) (f := 16) (args := #[(.int .i64 (9223372036854775807))]) (by go_simp) ?_
  refine (rOf_z (n := 9223372036854775807) (by decide) (by decide) _).mono ?_
  rintro e wn ⟨vx, rfl, hx, hb⟩
  obtain ⟨g4, A4, n4, c4, rfl, hs4, hr4⟩ := hx.form
  clear hx
  refine ⟨_, rfl, hb, ?_⟩
  replace E := hid (E.out.trans hb)
  replace B1 := hid (B1.out.up hb)
  replace C1 := hid (C1.out.up hb)
  replace R := hid (R.out.up hb)
  replace R1 := hid (R1.out.up hb)
  replace R3 := hid (R3.out.up hb)
  have HS4 := hid hs4
  have R4 := hid hr4
  clear hb hs4 hr4
  simp only [Act.put, List.setIfInBounds_toArray, List.set_cons_zero, List.set_cons_succ]
  refine WE.call (d := some 16) rfl rfl (by rfl) (f := 20) (args := #[(.agg #[.bool true, .slice A1 n1 c1]), (.agg #[.bool g4, .slice A4 n4 c4])]) (by go_simp) ?_
  refine (rCmp_w (IsZ.mk HL.out.symm R1.out).worth (IsZ.mk HS4.out R4.out).worth HZ2.out).mono ?_
  rintro e wn ⟨rfl, hb⟩
  refine ⟨_, rfl, hb, ?_⟩
  replace E := hid (E.out.trans hb)
  replace B1 := hid (B1.out.up hb)
  replace C1 := hid (C1.out.up hb)
  replace R := hid (R.out.up hb)
  replace R1 := hid (R1.out.up hb)
  replace R3 := hid (R3.out.up hb)
  replace R4 := hid (R4.out.up hb)
  clear hb
  simp only [Act.put, List.setIfInBounds_toArray, List.set_cons_zero, List.set_cons_succ]
  refine WE.pure (d := some 17) rfl rfl (by rfl) (v := (.bool false)) (fun w' hk => ?_) ?_
  · go_simp
  simp only [Act.put, List.setIfInBounds_toArray, List.set_cons_zero, List.set_cons_succ]
  refine WE.pure (d := some 18) rfl rfl (by rfl) (v := (.bool false)) (fun w' hk => ?_) ?_
  · go_simp
  simp only [Act.put, List.setIfInBounds_toArray, List.set_cons_zero, List.set_cons_succ]
  refine WE.done ?_
  have c0 := C1.out.cell (o := 0) (v := .bool true) rfl
  have c1 := C1.out.cell (o := 1) (v := .slice A1 n1 c1) rfl
  obtain ⟨A2', n2', c2', e2, hn, hc, hmx, hs, hr⟩ := R1.out.1
  injection e2 with e2 e3 e4
  subst e2 e3 e4
  have hb1 : n1 ≤ 9223372036854775807 := by unfold maxLen at hmx; omega
  have HR := hid hr
  have HN := hid hn
  clear hr hn hs hmx hc
  have EE := E
  clear E B1 R C1 R1 R3 R4 HS3 HS4 HZ1 HZ2 hq1 hq2 HGC1 HNC1B1
  go_wp2
  go_loop [5, 6] (fun x i => ∃ (k : Nat) (z a : Int), k ≤ n1 ∧ z = (k : Int) - 1 ∧ i = .int .i64 z ∧ x = .int .u64 a ∧ a = IntKind.u64.wrap (M.val ((M.limbs Z.natAbs).drop k) : Int)) (fun _ i => (intOf i + 1).toNat)
  case atStart => exact ⟨n1, _, _, Nat.le_refl _, rfl, rfl, rfl, by rw [List.drop_eq_nil_of_le (by rw [← HN.out]; exact Nat.le_refl _)]; rfl⟩
  case round =>
    obtain ⟨k, z, a, hk, hz, rfl, rfl, ha⟩ := hrel
    have HA := hid ha
    clear ha
    rcases k with _ | k
    · obtain rfl : z = -1 := by omega
      clear hz
      have HA2 := hid (show a = IntKind.u64.wrap (Z.natAbs : Int) from HA.out.trans (by rw [List.drop_zero, M.val_limbs]))
      have HR2 := hid (show IntKind.i64.wrap (IntKind.u64.wrap (-a)) = Z by rw [HA2.out]; have := HF.out; simp only [IntKind.wrap_u64, IntKind.wrap_i64]; omega)
      have hr2 := HR2.out
      go_wp2
      go_ret2
      exact ⟨rfl, EE.out⟩
    · obtain rfl : z = (k : Int) := by omega
      clear hz
      have hlt : k < n1 := by omega
      obtain ⟨ad, x, rfl, _, HX, hcell⟩ := HR.out.get (k := k) (by rw [← HN.out]; exact hlt)
      go_wp2
      go_round
      case rel => exact ⟨k, _, _, by omega, rfl, rfl, rfl, M.rsmall64_step HA.out HX.out rfl⟩
      case measure => simp [intOf]; all_goals omega

set_option maxHeartbeats 2000000 in
theorem rSmall_pos {w : World} {u : Value} {Z : Int} {j : Nat} (hu : Worth w u Z j) (hf : 0 ≤ Z ∧ Z ≤ 9223372036854775807) :
    Calls Try.prog 11 #[u] w (fun e w' => e = .returned (.tuple #[.int .i64 Z, .bool true]) ∧ Ext w w') := by
  obtain ⟨g, A, n, c, rfl⟩ := hu.shape
  have R := hid hu
  clear hu
  have HF := hid hf
  have HL := hid (show decide (Z < 0) = false by simp; omega)
  clear hf
  obtain ⟨z1, hz1⟩ : ∃ z : Int, M.zcmp Z (-9223372036854775808) = z := ⟨_, rfl⟩
  obtain ⟨z2, hz2⟩ : ∃ z : Int, M.zcmp Z 9223372036854775807 = z := ⟨_, rfl⟩
  have HZ1 := hid hz1
  have HZ2 := hid hz2
  have hq1 : decide (z1 < 0) = false := M.zcmp_ge hz1 (by have := HF.out; omega)
  have hq2 : decide (0 < z2) = false := M.zcmp_le hz2 (by have := HF.out; omega)
  clear hz1 hz2
  go_enter Try.func11, Try.ntmps11
  go_upto_region 1 with (fail)
  have E := hid ((Ext.refl w).alloc' (.cells #[.bool g, .slice A n c] 24))
  have B1 : Hid (Box (w.alloc (.cells #[.bool g, .slice A n c] 24)) (w.heap.size) #[.bool g, .slice A n c] 24) := hid (Box.at_ (w := w) #[.bool g, .slice A n c] 24 (by simp))
  replace R := hid (R.out.up E.out)
  refine wp_region_T [(0, 0), (1, 1), (2, 1), (3, 4)] (by kernel_rfl) fun wd hb => ?_
  replace E := hid (E.out.trans hb)
  replace B1 := hid (B1.out.up hb)
  replace R := hid (R.out.up hb)
  clear hb
  refine WE.pure (d := some 7) rfl rfl (by rfl) (v := (.agg #[.bool g, .slice A n c])) (fun w' hk => ?_) ?_
  · have c0 := hk.cell (B1.out.cell (o := 0) (v := .bool g) rfl); have c1 := hk.cell (B1.out.cell (o := 1) (v := .slice A n c) rfl); go_simp
  simp only [Act.put, List.setIfInBounds_toArray, List.set_cons_zero, List.set_cons_succ]
  refine WE.call (d := some 8) rfl rfl (by rfl) (f := 36) (args := #[(.agg #[.bool g, .slice A n c])]) (by go_simp) ?_
  refine (rMay_w R.out).mono ?_
  rintro e wn ⟨vx, rfl, hx, hb⟩
  obtain ⟨gg, A1, n1, c1, rfl, hs1, hr1⟩ := hx.form
  clear hx
  obtain rfl : gg = false := hs1.trans HL.out
  clear hs1
  refine ⟨_, rfl, hb, ?_⟩
  replace E := hid (E.out.trans hb)
  replace B1 := hid (B1.out.up hb)
  replace R := hid (R.out.up hb)
  have R1 := hid hr1
  clear hb hr1
  simp only [Act.put, List.setIfInBounds_toArray, List.set_cons_zero, List.set_cons_succ]
  refine WE.new (d := some 4) (cs := #[.bool false, .slice none 0 0]) (t := 24) (v := fun g => (.pointer (some ⟨g, 0, none⟩))) rfl rfl (by rfl) (fun w => by go_simp) fun gC1 wv hx0 hbox hge => ?_
  have HNC1B1 := hid (show gC1 ≠ (w.heap.size) by have := B1.out.lt; omega)
  have HGC1 := hid (show w.heap.size ≤ gC1 by have := E.out.size; omega)
  replace E := hid (E.out.trans hx0)
  replace B1 := hid (B1.out.up hx0)
  replace R := hid (R.out.up hx0)
  replace R1 := hid (R1.out.up hx0)
  have C1 : Hid (Box wv gC1 #[.bool false, .slice none 0 0] 24) := hid hbox
  clear hx0 hbox hge
  simp only [Act.put, List.setIfInBounds_toArray, List.set_cons_zero, List.set_cons_succ]
  refine WE.store2 (g := gC1) (x := .bool false) (y := .slice A1 n1 c1) (t := 24) rfl rfl (by rfl) (fun w hb => ?_) C1.out (by rfl) fun ws hk hs => ?_
  · have c0 := hb.cell (o := 0) (v := .bool false) rfl; have f0 := hb.free 0; have c1 := hb.cell (o := 1) (v := .slice none 0 0) rfl; have f1 := hb.free 1; go_simp
  intro hbx
  replace E := hid (E.out.keptG hk HGC1.out)
  replace B1 := hid (B1.out.kept hk (by simpa using HNC1B1.out.symm))
  replace C1 := hid hbx
  replace R := hid (R.out.kz hs)
  replace R1 := hid (R1.out.kz hs)
  clear hk hs hbx
  refine WE.done ?_
  go_upto_region 2 with (fail)
  refine wp_region_E [(0, 0), (1, 1), (2, 1), (3, 0), (4, 0), (5, 0), (6, 1), (7, 1), (8, 0), (9, 0)] (fun _ => (0, #[])) rfl (by kernel_rfl) (by intro j hj; cases hj) (fun _ _ d _ _ => by cases d <;> exact Iff.rfl) fun wd hb => ?_
  replace E := hid (E.out.trans hb)
  replace B1 := hid (B1.out.up hb)
  replace C1 := hid (C1.out.up hb)
  replace R := hid (R.out.up hb)
  replace R1 := hid (R1.out.up hb)
  clear hb
  refine WE.pure (d := some 9) rfl rfl (by rfl) (v := (.agg #[.bool false, .slice A1 n1 c1])) (fun w' hk => ?_) ?_
  · have c0 := hk.cell (C1.out.cell (o := 0) (v := .bool false) rfl); have c1 := hk.cell (C1.out.cell (o := 1) (v := .slice A1 n1 c1) rfl); go_simp
  simp only [Act.put, List.setIfInBounds_toArray, List.set_cons_zero, List.set_cons_succ]
  refine WE.call (d := some 10) rfl rfl (by rfl) (f := 16) (args := #[(.int .i64 (-9223372036854775808))]) (by go_simp) ?_
  refine (rOf_z (n := -9223372036854775808) (by decide) (by decide) _).mono ?_
  rintro e wn ⟨vx, rfl, hx, hb⟩
  obtain ⟨g3, A3, n3, c3, rfl, hs3, hr3⟩ := hx.form
  clear hx
  refine ⟨_, rfl, hb, ?_⟩
  replace E := hid (E.out.trans hb)
  replace B1 := hid (B1.out.up hb)
  replace C1 := hid (C1.out.up hb)
  replace R := hid (R.out.up hb)
  replace R1 := hid (R1.out.up hb)
  have HS3 := hid hs3
  have R3 := hid hr3
  clear hb hs3 hr3
  simp only [Act.put, List.setIfInBounds_toArray, List.set_cons_zero, List.set_cons_succ]
  refine WE.call (d := some 11) rfl rfl (by rfl) (f := 20) (args := #[(.agg #[.bool false, .slice A1 n1 c1]), (.agg #[.bool g3, .slice A3 n3 c3])]) (by go_simp) ?_
  refine (rCmp_w (IsZ.mk HL.out.symm R1.out).worth (IsZ.mk HS3.out R3.out).worth HZ1.out).mono ?_
  rintro e wn ⟨rfl, hb⟩
  refine ⟨_, rfl, hb, ?_⟩
  replace E := hid (E.out.trans hb)
  replace B1 := hid (B1.out.up hb)
  replace C1 := hid (C1.out.up hb)
  replace R := hid (R.out.up hb)
  replace R1 := hid (R1.out.up hb)
  replace R3 := hid (R3.out.up hb)
  clear hb
  simp only [Act.put, List.setIfInBounds_toArray, List.set_cons_zero, List.set_cons_succ]
  refine WE.pure (d := some 12) rfl rfl (by rfl) (v := (.bool false)) (fun w' hk => ?_) ?_
  · go_simp
  simp only [Act.put, List.setIfInBounds_toArray, List.set_cons_zero, List.set_cons_succ]
  refine WE.pure (d := some 13) rfl rfl (by rfl) (v := (.bool false)) (fun w' hk => ?_) ?_
  · go_simp
  simp only [Act.put, List.setIfInBounds_toArray, List.set_cons_zero, List.set_cons_succ]
  refine WE.pure (d := some 14) rfl rfl (by rfl) (v := (.agg #[.bool false, .slice A1 n1 c1])) (fun w' hk => ?_) ?_
  · have c0 := hk.cell (C1.out.cell (o := 0) (v := .bool false) rfl); have c1 := hk.cell (C1.out.cell (o := 1) (v := .slice A1 n1 c1) rfl); go_simp
  simp only [Act.put, List.setIfInBounds_toArray, List.set_cons_zero, List.set_cons_succ]
  refine WE.call (d := some 15) rfl rfl (by rfl) (f := 16) (args := #[(.int .i64 (9223372036854775807))]) (by go_simp) ?_
  refine (rOf_z (n := 9223372036854775807) (by decide) (by decide) _).mono ?_
  rintro e wn ⟨vx, rfl, hx, hb⟩
  obtain ⟨g4, A4, n4, c4, rfl, hs4, hr4⟩ := hx.form
  clear hx
  refine ⟨_, rfl, hb, ?_⟩
  replace E := hid (E.out.trans hb)
  replace B1 := hid (B1.out.up hb)
  replace C1 := hid (C1.out.up hb)
  replace R := hid (R.out.up hb)
  replace R1 := hid (R1.out.up hb)
  replace R3 := hid (R3.out.up hb)
  have HS4 := hid hs4
  have R4 := hid hr4
  clear hb hs4 hr4
  simp only [Act.put, List.setIfInBounds_toArray, List.set_cons_zero, List.set_cons_succ]
  refine WE.call (d := some 16) rfl rfl (by rfl) (f := 20) (args := #[(.agg #[.bool false, .slice A1 n1 c1]), (.agg #[.bool g4, .slice A4 n4 c4])]) (by go_simp) ?_
  refine (rCmp_w (IsZ.mk HL.out.symm R1.out).worth (IsZ.mk HS4.out R4.out).worth HZ2.out).mono ?_
  rintro e wn ⟨rfl, hb⟩
  refine ⟨_, rfl, hb, ?_⟩
  replace E := hid (E.out.trans hb)
  replace B1 := hid (B1.out.up hb)
  replace C1 := hid (C1.out.up hb)
  replace R := hid (R.out.up hb)
  replace R1 := hid (R1.out.up hb)
  replace R3 := hid (R3.out.up hb)
  replace R4 := hid (R4.out.up hb)
  clear hb
  simp only [Act.put, List.setIfInBounds_toArray, List.set_cons_zero, List.set_cons_succ]
  refine WE.pure (d := some 17) rfl rfl (by rfl) (v := (.bool false)) (fun w' hk => ?_) ?_
  · go_simp
  simp only [Act.put, List.setIfInBounds_toArray, List.set_cons_zero, List.set_cons_succ]
  refine WE.pure (d := some 18) rfl rfl (by rfl) (v := (.bool false)) (fun w' hk => ?_) ?_
  · go_simp
  simp only [Act.put, List.setIfInBounds_toArray, List.set_cons_zero, List.set_cons_succ]
  refine WE.done ?_
  have c0 := C1.out.cell (o := 0) (v := .bool false) rfl
  have c1 := C1.out.cell (o := 1) (v := .slice A1 n1 c1) rfl
  obtain ⟨A2', n2', c2', e2, hn, hc, hmx, hs, hr⟩ := R1.out.1
  injection e2 with e2 e3 e4
  subst e2 e3 e4
  have hb1 : n1 ≤ 9223372036854775807 := by unfold maxLen at hmx; omega
  have HR := hid hr
  have HN := hid hn
  clear hr hn hs hmx hc
  have EE := E
  clear E B1 R C1 R1 R3 R4 HS3 HS4 HZ1 HZ2 hq1 hq2 HGC1 HNC1B1
  go_wp2
  go_loop [5, 6] (fun x i => ∃ (k : Nat) (z a : Int), k ≤ n1 ∧ z = (k : Int) - 1 ∧ i = .int .i64 z ∧ x = .int .u64 a ∧ a = IntKind.u64.wrap (M.val ((M.limbs Z.natAbs).drop k) : Int)) (fun _ i => (intOf i + 1).toNat)
  case atStart => exact ⟨n1, _, _, Nat.le_refl _, rfl, rfl, rfl, by rw [List.drop_eq_nil_of_le (by rw [← HN.out]; exact Nat.le_refl _)]; rfl⟩
  case round =>
    obtain ⟨k, z, a, hk, hz, rfl, rfl, ha⟩ := hrel
    have HA := hid ha
    clear ha
    rcases k with _ | k
    · obtain rfl : z = -1 := by omega
      clear hz
      have HA2 := hid (show a = IntKind.u64.wrap (Z.natAbs : Int) from HA.out.trans (by rw [List.drop_zero, M.val_limbs]))
      have HR2 := hid (show IntKind.i64.wrap a = Z by rw [HA2.out]; have := HF.out; simp only [IntKind.wrap_u64, IntKind.wrap_i64]; omega)
      have hr2 := HR2.out
      go_wp2
      go_ret2
      exact ⟨rfl, EE.out⟩
    · obtain rfl : z = (k : Int) := by omega
      clear hz
      have hlt : k < n1 := by omega
      obtain ⟨ad, x, rfl, _, HX, hcell⟩ := HR.out.get (k := k) (by rw [← HN.out]; exact hlt)
      go_wp2
      go_round
      case rel => exact ⟨k, _, _, by omega, rfl, rfl, rfl, M.rsmall64_step HA.out HX.out rfl⟩
      case measure => simp [intOf]; all_goals omega

theorem rSmall_no {w : World} {u : Value} {Z : Int} {j : Nat} (hu : Worth w u Z j) (hf : ¬ M.fits Z) : Calls Try.prog 11 #[u] w (fun e w' => e = .returned (.tuple #[.int .i64 0, .bool false]) ∧ Ext w w') := by
  unfold M.fits at hf
  rcases (by omega : Z < -9223372036854775808 ∨ 9223372036854775807 < Z) with h | h
  · exact rSmall_low hu h
  · exact rSmall_high hu h
theorem rSmall_yes {w : World} {u : Value} {Z : Int} {j : Nat} (hu : Worth w u Z j) (hf : M.fits Z) : Calls Try.prog 11 #[u] w (fun e w' => e = .returned (.tuple #[.int .i64 Z, .bool true]) ∧ Ext w w') := by
  unfold M.fits at hf
  rcases (by omega : Z < 0 ∨ 0 ≤ Z) with h | h
  · exact rSmall_neg hu ⟨hf.1, h⟩
  · exact rSmall_pos hu ⟨h, hf.2⟩

end Go.Proofs.Ythlafkbldlmmaaa
