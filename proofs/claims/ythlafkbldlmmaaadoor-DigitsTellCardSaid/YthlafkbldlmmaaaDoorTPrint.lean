/-
  Contract of package digits: Print.
-/
import Derived.Test.YthlafkbldlmmaaaDoorTParse
namespace Go.Proofs.YthlafkbldlmmaaaDoor
open Go.RowKit
set_option linter.unusedSimpArgs false
set_option linter.unusedVariables false

set_option maxHeartbeats 1000000 in
theorem print_neg {w : World} {u : Value} {Z : Int} {j : Nat} (hu : Worth w u Z j) (hj : j ≤ 1000000) (ht : Tab w) (hz : Z < 0) :
    Calls Tryd.prog 11 #[u] w (GivesT w (M.print Z)) := by
  obtain ⟨g, A, n, c, rfl⟩ := hu.shape
  have R := hid hu
  have HJ := hid hj
  have HT := hid ht
  have HZ := hid hz
  have hq : decide (Z.sign < 0) = true := by rw [decide_eq_true_eq, M.sign_neg]; exact hz
  clear hu hj ht hz
  go_enter Tryd.func11, Tryd.ntmps11
  go_upto_region 1 with (fail)
  have E := hid ((Ext.refl w).alloc' (.cells #[.bool g, .slice A n c] 24))
  have B1 : Hid (Box (w.alloc (.cells #[.bool g, .slice A n c] 24)) (w.heap.size) #[.bool g, .slice A n c] 24) := hid (Box.at_ (w := w) #[.bool g, .slice A n c] 24 (by simp))
  replace R := hid (R.out.up E.out)
  replace HT := hid (HT.out.up E.out)
  refine wp_region_T [(0, 0), (1, 1), (2, 0), (3, 1), (4, 0)] (by kernel_rfl) fun wd hb => ?_
  replace E := hid (E.out.trans hb)
  replace B1 := hid (B1.out.up hb)
  replace R := hid (R.out.up hb)
  replace HT := hid (HT.out.up hb)
  clear hb
  refine WE.pure (d := some 4) rfl rfl (by rfl) (v := (.agg #[.bool g, .slice A n c])) (fun w' hk => ?_) ?_
  · have c0 := hk.cell (B1.out.cell (o := 0) (v := .bool g) rfl); have c1 := hk.cell (B1.out.cell (o := 1) (v := .slice A n c) rfl); go_simp
  simp only [Act.put, List.setIfInBounds_toArray, List.set_cons_zero, List.set_cons_succ]
  refine WE.call (d := some 5) rfl rfl (by rfl) (f := 29) (args := #[(.agg #[.bool g, .slice A n c])]) (by go_simp) ?_
  refine (abs_w R.out (Nat.le_trans HJ.out (by omega))).mono ?_
  rintro e wn ⟨vx, rfl, hx, hb⟩
  obtain ⟨g1, A1, n1, c1, rfl, hs1, hr1⟩ := hx.form
  clear hx
  refine ⟨_, rfl, hb, ?_⟩
  replace E := hid (E.out.trans hb)
  replace B1 := hid (B1.out.up hb)
  replace R := hid (R.out.up hb)
  replace HT := hid (HT.out.up hb)
  have HS1 := hid hs1
  have R1 := hid hr1
  clear hb hs1 hr1
  simp only [Act.put, List.setIfInBounds_toArray, List.set_cons_zero, List.set_cons_succ]
  refine WE.pure (d := some 6) rfl rfl (by rfl) (v := (.slice A1 n1 c1)) (fun w' hk => ?_) ?_
  · have hf : ∀ w, (Instr.field 24 (.agg #[.bool g1, .slice A1 n1 c1]) 1).run Tryd.prog w = .ok (.slice A1 n1 c1) w := (fun w => by kernel_rfl); go_simp
  simp only [Act.put, List.setIfInBounds_toArray, List.set_cons_zero, List.set_cons_succ]
  refine WE.call (d := some 7) rfl rfl (by rfl) (f := 13) (args := #[(.slice A1 n1 c1)]) (by go_simp) ?_
  refine (digitsNat_N (N := Z.natAbs) R1.out HJ.out HT.out).mono ?_
  rintro e wn ⟨rfl, hb⟩
  refine ⟨_, rfl, hb, ?_⟩
  replace E := hid (E.out.trans hb)
  replace B1 := hid (B1.out.up hb)
  replace R := hid (R.out.up hb)
  replace HT := hid (HT.out.up hb)
  replace R1 := hid (R1.out.up hb)
  clear hb
  simp only [Act.put, List.setIfInBounds_toArray, List.set_cons_zero, List.set_cons_succ]
  refine WE.pure (d := some 3) rfl rfl (by rfl) (v := (str (Lib.decDigits Z.natAbs))) (fun w' hk => ?_) ?_
  · go_simp
  simp only [Act.put, List.setIfInBounds_toArray, List.set_cons_zero, List.set_cons_succ]
  refine WE.done ?_
  go_upto_region 2 with (fail)
  refine wp_region_T [(0, 0), (1, 1), (2, 0)] (by kernel_rfl) fun wd hb => ?_
  replace E := hid (E.out.trans hb)
  replace B1 := hid (B1.out.up hb)
  replace R := hid (R.out.up hb)
  replace HT := hid (HT.out.up hb)
  replace R1 := hid (R1.out.up hb)
  clear hb
  refine WE.pure (d := some 8) rfl rfl (by rfl) (v := (.agg #[.bool g, .slice A n c])) (fun w' hk => ?_) ?_
  · have c0 := hk.cell (B1.out.cell (o := 0) (v := .bool g) rfl); have c1 := hk.cell (B1.out.cell (o := 1) (v := .slice A n c) rfl); go_simp
  simp only [Act.put, List.setIfInBounds_toArray, List.set_cons_zero, List.set_cons_succ]
  refine WE.call (d := some 9) rfl rfl (by rfl) (f := 30) (args := #[(.agg #[.bool g, .slice A n c])]) (by go_simp) ?_
  refine (sign_w R.out).mono ?_
  rintro e wn ⟨rfl, hb⟩
  refine ⟨_, rfl, hb, ?_⟩
  replace E := hid (E.out.trans hb)
  replace B1 := hid (B1.out.up hb)
  replace R := hid (R.out.up hb)
  replace HT := hid (HT.out.up hb)
  replace R1 := hid (R1.out.up hb)
  clear hb
  simp only [Act.put, List.setIfInBounds_toArray, List.set_cons_zero, List.set_cons_succ]
  refine WE.pure (d := some 10) rfl rfl (by rfl) (v := (.bool true)) (fun w' hk => ?_) ?_
  · have q : Z < 0 := (by have := HZ.out; omega); go_simp
  simp only [Act.put, List.setIfInBounds_toArray, List.set_cons_zero, List.set_cons_succ]
  refine WE.done ?_
  go_upto_region 3 with (fail)
  refine wp_region_T [(0, 0), (1, 1), (2, 1), (3, 0)] (by kernel_rfl) fun wd hb => ?_
  replace E := hid (E.out.trans hb)
  replace B1 := hid (B1.out.up hb)
  replace R := hid (R.out.up hb)
  replace HT := hid (HT.out.up hb)
  replace R1 := hid (R1.out.up hb)
  clear hb
  have HLN := hid (show Lib.nDigits Z.natAbs ≤ 9 * j + 1 by obtain ⟨_, _, _, _, _, h3⟩ := (IsZ.mk HS1.out R1.out : IsZ _ _ ((Z.natAbs : Nat) : Int) j); have h4 := M.dec_room (M.limbs Z.natAbs); rw [M.nv_limbs] at h4; exact Nat.le_trans h4 (by have : (M.limbs Z.natAbs).length ≤ j := h3; omega))
  refine WE.pure (d := some 11) rfl rfl (by rfl) (v := (str (Lib.decDigits Z.natAbs))) (fun w' hk => ?_) ?_
  · go_simp
  simp only [Act.put, List.setIfInBounds_toArray, List.set_cons_zero, List.set_cons_succ]
  refine WE.new (d := some 12) (cs := #[str [40, 45, 32], str (Lib.decDigits Z.natAbs), str [41]]) (t := 9) (v := fun g => (.slice (some ⟨g, 0, none⟩) 3 3)) rfl rfl (by rfl) (fun w => by go_simp) fun gL1 wv hx0 hbox hge => ?_
  have HNL1B1 := hid (show gL1 ≠ (w.heap.size) by have := B1.out.lt; omega)
  have HGL1 := hid (show w.heap.size ≤ gL1 by have := E.out.size; omega)
  replace E := hid (E.out.trans hx0)
  replace B1 := hid (B1.out.up hx0)
  replace R := hid (R.out.up hx0)
  replace HT := hid (HT.out.up hx0)
  replace R1 := hid (R1.out.up hx0)
  have L1 : Hid (Box wv gL1 #[str [40, 45, 32], str (Lib.decDigits Z.natAbs), str [41]] 9) := hid hbox
  clear hx0 hbox hge
  simp only [Act.put, List.setIfInBounds_toArray, List.set_cons_zero, List.set_cons_succ]
  refine WE.call (d := some 13) rfl rfl (by rfl) (f := 31) (args := #[(.slice (some ⟨gL1, 0, none⟩) 3 3)]) (by go_simp) ?_
  refine (together_n gL1 0 3 [[40, 45, 32], Lib.decDigits Z.natAbs, [41]] (Box.texts (xs := [[40, 45, 32], Lib.decDigits Z.natAbs, [41]]) L1.out) L1.out.lt (by simp) (by simp) (by simp [M.dec_length]; have := HLN.out; have := HJ.out; omega)).mono ?_
  rintro e wn ⟨rfl, hb⟩
  refine ⟨_, rfl, hb, ?_⟩
  replace E := hid (E.out.trans hb)
  replace B1 := hid (B1.out.up hb)
  replace L1 := hid (L1.out.up hb)
  replace R := hid (R.out.up hb)
  replace HT := hid (HT.out.up hb)
  replace R1 := hid (R1.out.up hb)
  clear hb
  simp only [Act.put, List.setIfInBounds_toArray, List.set_cons_zero, List.set_cons_succ]
  refine WE.pure (d := some 2) rfl rfl (by rfl) (v := (str [[40, 45, 32], Lib.decDigits Z.natAbs, [41]].flatten)) (fun w' hk => ?_) ?_
  · go_simp
  simp only [Act.put, List.setIfInBounds_toArray, List.set_cons_zero, List.set_cons_succ]
  refine WE.done ?_
  go_wp2
  go_ret
  refine ⟨?_, E.out⟩
  rw [M.print, if_pos (by have := HZ.out; omega)]; rfl

set_option maxHeartbeats 1000000 in
theorem print_pos {w : World} {u : Value} {Z : Int} {j : Nat} (hu : Worth w u Z j) (hj : j ≤ 1000000) (ht : Tab w) (hz : ¬ Z < 0) :
    Calls Tryd.prog 11 #[u] w (GivesT w (M.print Z)) := by
  obtain ⟨g, A, n, c, rfl⟩ := hu.shape
  have R := hid hu
  have HJ := hid hj
  have HT := hid ht
  have HZ := hid hz
  have hq : decide (Z.sign < 0) = false := by rw [decide_eq_false_iff_not, M.sign_neg]; exact hz
  clear hu hj ht hz
  go_enter Tryd.func11, Tryd.ntmps11
  go_upto_region 1 with (fail)
  have E := hid ((Ext.refl w).alloc' (.cells #[.bool g, .slice A n c] 24))
  have B1 : Hid (Box (w.alloc (.cells #[.bool g, .slice A n c] 24)) (w.heap.size) #[.bool g, .slice A n c] 24) := hid (Box.at_ (w := w) #[.bool g, .slice A n c] 24 (by simp))
  replace R := hid (R.out.up E.out)
  replace HT := hid (HT.out.up E.out)
  refine wp_region_T [(0, 0), (1, 1), (2, 0), (3, 1), (4, 0)] (by kernel_rfl) fun wd hb => ?_
  replace E := hid (E.out.trans hb)
  replace B1 := hid (B1.out.up hb)
  replace R := hid (R.out.up hb)
  replace HT := hid (HT.out.up hb)
  clear hb
  refine WE.pure (d := some 4) rfl rfl (by rfl) (v := (.agg #[.bool g, .slice A n c])) (fun w' hk => ?_) ?_
  · have c0 := hk.cell (B1.out.cell (o := 0) (v := .bool g) rfl); have c1 := hk.cell (B1.out.cell (o := 1) (v := .slice A n c) rfl); go_simp
  simp only [Act.put, List.setIfInBounds_toArray, List.set_cons_zero, List.set_cons_succ]
  refine WE.call (d := some 5) rfl rfl (by rfl) (f := 29) (args := #[(.agg #[.bool g, .slice A n c])]) (by go_simp) ?_
  refine (abs_w R.out (Nat.le_trans HJ.out (by omega))).mono ?_
  rintro e wn ⟨vx, rfl, hx, hb⟩
  obtain ⟨g1, A1, n1, c1, rfl, hs1, hr1⟩ := hx.form
  clear hx
  refine ⟨_, rfl, hb, ?_⟩
  replace E := hid (E.out.trans hb)
  replace B1 := hid (B1.out.up hb)
  replace R := hid (R.out.up hb)
  replace HT := hid (HT.out.up hb)
  have HS1 := hid hs1
  have R1 := hid hr1
  clear hb hs1 hr1
  simp only [Act.put, List.setIfInBounds_toArray, List.set_cons_zero, List.set_cons_succ]
  refine WE.pure (d := some 6) rfl rfl (by rfl) (v := (.slice A1 n1 c1)) (fun w' hk => ?_) ?_
  · have hf : ∀ w, (Instr.field 24 (.agg #[.bool g1, .slice A1 n1 c1]) 1).run Tryd.prog w = .ok (.slice A1 n1 c1) w := (fun w => by kernel_rfl); go_simp
  simp only [Act.put, List.setIfInBounds_toArray, List.set_cons_zero, List.set_cons_succ]
  refine WE.call (d := some 7) rfl rfl (by rfl) (f := 13) (args := #[(.slice A1 n1 c1)]) (by go_simp) ?_
  refine (digitsNat_N (N := Z.natAbs) R1.out HJ.out HT.out).mono ?_
  rintro e wn ⟨rfl, hb⟩
  refine ⟨_, rfl, hb, ?_⟩
  replace E := hid (E.out.trans hb)
  replace B1 := hid (B1.out.up hb)
  replace R := hid (R.out.up hb)
  replace HT := hid (HT.out.up hb)
  replace R1 := hid (R1.out.up hb)
  clear hb
  simp only [Act.put, List.setIfInBounds_toArray, List.set_cons_zero, List.set_cons_succ]
  refine WE.pure (d := some 3) rfl rfl (by rfl) (v := (str (Lib.decDigits Z.natAbs))) (fun w' hk => ?_) ?_
  · go_simp
  simp only [Act.put, List.setIfInBounds_toArray, List.set_cons_zero, List.set_cons_succ]
  refine WE.done ?_
  go_upto_region 2 with (fail)
  refine wp_region_T [(0, 0), (1, 1), (2, 0)] (by kernel_rfl) fun wd hb => ?_
  replace E := hid (E.out.trans hb)
  replace B1 := hid (B1.out.up hb)
  replace R := hid (R.out.up hb)
  replace HT := hid (HT.out.up hb)
  replace R1 := hid (R1.out.up hb)
  clear hb
  refine WE.pure (d := some 8) rfl rfl (by rfl) (v := (.agg #[.bool g, .slice A n c])) (fun w' hk => ?_) ?_
  · have c0 := hk.cell (B1.out.cell (o := 0) (v := .bool g) rfl); have c1 := hk.cell (B1.out.cell (o := 1) (v := .slice A n c) rfl); go_simp
  simp only [Act.put, List.setIfInBounds_toArray, List.set_cons_zero, List.set_cons_succ]
  refine WE.call (d := some 9) rfl rfl (by rfl) (f := 30) (args := #[(.agg #[.bool g, .slice A n c])]) (by go_simp) ?_
  refine (sign_w R.out).mono ?_
  rintro e wn ⟨rfl, hb⟩
  refine ⟨_, rfl, hb, ?_⟩
  replace E := hid (E.out.trans hb)
  replace B1 := hid (B1.out.up hb)
  replace R := hid (R.out.up hb)
  replace HT := hid (HT.out.up hb)
  replace R1 := hid (R1.out.up hb)
  clear hb
  simp only [Act.put, List.setIfInBounds_toArray, List.set_cons_zero, List.set_cons_succ]
  refine WE.pure (d := some 10) rfl rfl (by rfl) (v := (.bool false)) (fun w' hk => ?_) ?_
  · have q : 0 ≤ Z := (by have := HZ.out; omega); go_simp
  simp only [Act.put, List.setIfInBounds_toArray, List.set_cons_zero, List.set_cons_succ]
  refine WE.done ?_
  go_wp2
  go_ret
  refine ⟨?_, E.out⟩
  rw [M.print, if_neg (by have := HZ.out; omega)]; rfl

theorem print_w {w : World} {u : Value} {Z : Int} {j : Nat} (hu : Worth w u Z j) (hj : j ≤ 1000000) (ht : Tab w) : Calls Tryd.prog 11 #[u] w (GivesT w (M.print Z)) := by
  by_cases hz : Z < 0
  · exact print_neg hu hj ht hz
  · exact print_pos hu hj ht hz

end Go.Proofs.YthlafkbldlmmaaaDoor
