/-
  DigitsOrder: whatever two rows of limbs: true, and the input reads as it did. No conditions but the form's own.
-/
import Derived.Test.YthlafkbldlmmaaaDoorTLaid
import Derived.Test.YthlafkbldlmmaaaDoorTOrdM
import Derived.Test.YthlafkbldlmmaaaDoorRZA
import Derived.Sort.Walk0
namespace Go.Proofs.YthlafkbldlmmaaaDoor
open Go.ChangeShapes Go.WideShapes Go.ChangeAt Go.RowKit
set_option linter.unusedSimpArgs false
set_option linter.unusedVariables false

theorem rcmp_l {w : World} {u v : Value} {l m : List Nat} (hu : Num w w.heap.size u l) (hv : Num w w.heap.size v m) {z : Int} (hz : M.cmp (M.nv l) (M.nv m) = z) :
    Calls Tryd.prog 24 #[u, v] w fun e w' => e = .returned (.int .i64 z) ∧ Ext w w' := by
  have h := rCmp_any w u v l m hu hv
  rw [hz] at h
  exact h.mono fun _ _ ⟨he, k, hk⟩ => ⟨he, by subst hk; exact below_drewN (Below.refl _ _) k⟩
theorem isR_l {w : World} {v : Value} {l : List Nat} (hv : Num w w.heap.size v l) {b : Bool} (hb : M.isNat l = b) :
    Calls Tryd.prog 23 #[v] w fun e w' => e = .returned (.bool b) ∧ w = w' := hb ▸ rIs_any w v l hv

set_option maxRecDepth 100000 in
set_option maxHeartbeats 1000000 in
theorem digitsOrder_skip0 (W : World) (ht : Tab W) (A : Option Addr) (n c : Nat) (l : List Nat) (h : Num W W.heap.size (.slice A n c) l) (A' : Option Addr) (n' c' : Nat) (l' : List Nat) (h' : Num W W.heap.size (.slice A' n' c') l') (f1 : Hid (decide (8 < (n : Int)) = true)) :
    Calls Tryd.prog 6 #[.slice A n c, .slice A' n' c'] W (fun e w' => e = .returned (.bool true) ∧ Ext W w') := by
  have HT := hid ht
  have NA := hid h
  have NB := hid h'
  clear ht h h'
  go_enter Tryd.func6, Tryd.ntmps6
  go_upto_region 1 with (fail)
  have E := hid (Ext.refl W)
  refine wp_region_T [(0, 1), (1, 0)] (by kernel_rfl) fun wd hb => ?_
  replace E := hid (E.out.trans hb)
  replace NA := hid (NA.out.up hb)
  replace NB := hid (NB.out.up hb)
  clear hb
  refine WE.call (d := some 8) rfl rfl (by rfl) (f := 8) (args := #[]) (by go_simp) ?_
  refine (known3 _ (HT.out.up E.out)).mono ?_
  rintro e wn ⟨rfl, hb⟩
  refine ⟨_, rfl, hb, ?_⟩
  replace E := hid (E.out.trans hb)
  replace NA := hid (NA.out.up hb)
  replace NB := hid (NB.out.up hb)
  clear hb
  simp only [Act.put, List.setIfInBounds_toArray, List.set_cons_zero, List.set_cons_succ]
  refine WE.pure (d := some 9) rfl rfl (by rfl) (v := (.bool false)) (fun w' hk => ?_) ?_
  · go_simp
  simp only [Act.put, List.setIfInBounds_toArray, List.set_cons_zero, List.set_cons_succ]
  refine WE.done ?_
  go_upto_region 3 with (fail)
  refine wp_region_T [(0, 0), (1, 0), (2, 0), (3, 0), (4, 0), (5, 0), (6, 0), (7, 0), (8, 0), (9, 0), (10, 1), (11, 0), (12, 0), (13, 0), (14, 0), (15, 1), (16, 0), (17, 0)] (by kernel_rfl) fun wd hb => ?_
  replace E := hid (E.out.trans hb)
  replace NA := hid (NA.out.up hb)
  replace NB := hid (NB.out.up hb)
  clear hb
  refine WE.pure (d := some 10) rfl rfl (by rfl) (v := (.slice A n c)) (fun w' hk => ?_) ?_
  · go_simp
  simp only [Act.put, List.setIfInBounds_toArray, List.set_cons_zero, List.set_cons_succ]
  refine WE.pure (d := some 11) rfl rfl (by rfl) (v := (.int .i64 (n : Int))) (fun w' hk => ?_) ?_
  · go_simp
  simp only [Act.put, List.setIfInBounds_toArray, List.set_cons_zero, List.set_cons_succ]
  refine WE.pure (d := some 12) rfl rfl (by rfl) (v := (.bool true)) (fun w' hk => ?_) ?_
  · have q := f1.out; go_simp
  simp only [Act.put, List.setIfInBounds_toArray, List.set_cons_zero, List.set_cons_succ]
  refine WE.pure (d := some 13) rfl rfl (by rfl) (v := (.bool true)) (fun w' hk => ?_) ?_
  · go_simp
  simp only [Act.put, List.setIfInBounds_toArray, List.set_cons_zero, List.set_cons_succ]
  refine WE.skip (d := some 14) rfl rfl (by rfl) ?_
  simp only [Act.put, List.setIfInBounds_toArray, List.set_cons_zero, List.set_cons_succ]
  refine WE.skip (d := some 15) rfl rfl (by rfl) ?_
  simp only [Act.put, List.setIfInBounds_toArray, List.set_cons_zero, List.set_cons_succ]
  refine WE.skip (d := some 16) rfl rfl (by rfl) ?_
  simp only [Act.put, List.setIfInBounds_toArray, List.set_cons_zero, List.set_cons_succ]
  refine WE.pure (d := some 17) rfl rfl (by rfl) (v := (.bool true)) (fun w' hk => ?_) ?_
  · go_simp
  simp only [Act.put, List.setIfInBounds_toArray, List.set_cons_zero, List.set_cons_succ]
  refine WE.pure (d := some 18) rfl rfl (by rfl) (v := (.bool true)) (fun w' hk => ?_) ?_
  · go_simp
  simp only [Act.put, List.setIfInBounds_toArray, List.set_cons_zero, List.set_cons_succ]
  refine WE.skip (d := some 19) rfl rfl (by rfl) ?_
  simp only [Act.put, List.setIfInBounds_toArray, List.set_cons_zero, List.set_cons_succ]
  refine WE.pass (d := some 20) rfl rfl (by rfl) ?_
  simp only [Act.put, List.setIfInBounds_toArray, List.set_cons_zero, List.set_cons_succ]
  refine WE.skip (d := some 21) rfl rfl (by rfl) ?_
  simp only [Act.put, List.setIfInBounds_toArray, List.set_cons_zero, List.set_cons_succ]
  refine WE.pure (d := some 22) rfl rfl (by rfl) (v := (.bool true)) (fun w' hk => ?_) ?_
  · go_simp
  simp only [Act.put, List.setIfInBounds_toArray, List.set_cons_zero, List.set_cons_succ]
  refine WE.pure (d := some 23) rfl rfl (by rfl) (v := (.bool true)) (fun w' hk => ?_) ?_
  · go_simp
  simp only [Act.put, List.setIfInBounds_toArray, List.set_cons_zero, List.set_cons_succ]
  refine WE.skip (d := some 24) rfl rfl (by rfl) ?_
  simp only [Act.put, List.setIfInBounds_toArray, List.set_cons_zero, List.set_cons_succ]
  refine WE.pass (d := some 25) rfl rfl (by rfl) ?_
  simp only [Act.put, List.setIfInBounds_toArray, List.set_cons_zero, List.set_cons_succ]
  refine WE.skip (d := some 26) rfl rfl (by rfl) ?_
  simp only [Act.put, List.setIfInBounds_toArray, List.set_cons_zero, List.set_cons_succ]
  refine WE.pure (d := some 27) rfl rfl (by rfl) (v := (.bool true)) (fun w' hk => ?_) ?_
  · go_simp
  simp only [Act.put, List.setIfInBounds_toArray, List.set_cons_zero, List.set_cons_succ]
  refine WE.done ?_
  go_wp2
  go_ret
  exact ⟨rfl, E.out⟩

set_option maxRecDepth 100000 in
set_option maxHeartbeats 1000000 in
theorem digitsOrder_skip1 (W : World) (ht : Tab W) (A : Option Addr) (n c : Nat) (l : List Nat) (h : Num W W.heap.size (.slice A n c) l) (A' : Option Addr) (n' c' : Nat) (l' : List Nat) (h' : Num W W.heap.size (.slice A' n' c') l') (f1 : Hid (decide (8 < (n : Int)) = false)) (f2 : Hid (decide (8 < (n' : Int)) = true)) :
    Calls Tryd.prog 6 #[.slice A n c, .slice A' n' c'] W (fun e w' => e = .returned (.bool true) ∧ Ext W w') := by
  have HT := hid ht
  have NA := hid h
  have NB := hid h'
  clear ht h h'
  go_enter Tryd.func6, Tryd.ntmps6
  go_upto_region 1 with (fail)
  have E := hid (Ext.refl W)
  refine wp_region_T [(0, 1), (1, 0)] (by kernel_rfl) fun wd hb => ?_
  replace E := hid (E.out.trans hb)
  replace NA := hid (NA.out.up hb)
  replace NB := hid (NB.out.up hb)
  clear hb
  refine WE.call (d := some 8) rfl rfl (by rfl) (f := 8) (args := #[]) (by go_simp) ?_
  refine (known3 _ (HT.out.up E.out)).mono ?_
  rintro e wn ⟨rfl, hb⟩
  refine ⟨_, rfl, hb, ?_⟩
  replace E := hid (E.out.trans hb)
  replace NA := hid (NA.out.up hb)
  replace NB := hid (NB.out.up hb)
  clear hb
  simp only [Act.put, List.setIfInBounds_toArray, List.set_cons_zero, List.set_cons_succ]
  refine WE.pure (d := some 9) rfl rfl (by rfl) (v := (.bool false)) (fun w' hk => ?_) ?_
  · go_simp
  simp only [Act.put, List.setIfInBounds_toArray, List.set_cons_zero, List.set_cons_succ]
  refine WE.done ?_
  go_upto_region 3 with (fail)
  refine wp_region_T [(0, 0), (1, 0), (2, 0), (3, 0), (4, 0), (5, 0), (6, 0), (7, 0), (8, 0), (9, 0), (10, 1), (11, 0), (12, 0), (13, 0), (14, 0), (15, 1), (16, 0), (17, 0)] (by kernel_rfl) fun wd hb => ?_
  replace E := hid (E.out.trans hb)
  replace NA := hid (NA.out.up hb)
  replace NB := hid (NB.out.up hb)
  clear hb
  refine WE.pure (d := some 10) rfl rfl (by rfl) (v := (.slice A n c)) (fun w' hk => ?_) ?_
  · go_simp
  simp only [Act.put, List.setIfInBounds_toArray, List.set_cons_zero, List.set_cons_succ]
  refine WE.pure (d := some 11) rfl rfl (by rfl) (v := (.int .i64 (n : Int))) (fun w' hk => ?_) ?_
  · go_simp
  simp only [Act.put, List.setIfInBounds_toArray, List.set_cons_zero, List.set_cons_succ]
  refine WE.pure (d := some 12) rfl rfl (by rfl) (v := (.bool false)) (fun w' hk => ?_) ?_
  · have q := f1.out; go_simp
  simp only [Act.put, List.setIfInBounds_toArray, List.set_cons_zero, List.set_cons_succ]
  refine WE.pure (d := some 13) rfl rfl (by rfl) (v := (.bool false)) (fun w' hk => ?_) ?_
  · go_simp
  simp only [Act.put, List.setIfInBounds_toArray, List.set_cons_zero, List.set_cons_succ]
  refine WE.pure (d := some 14) rfl rfl (by rfl) (v := (.slice A' n' c')) (fun w' hk => ?_) ?_
  · go_simp
  simp only [Act.put, List.setIfInBounds_toArray, List.set_cons_zero, List.set_cons_succ]
  refine WE.pure (d := some 15) rfl rfl (by rfl) (v := (.int .i64 (n' : Int))) (fun w' hk => ?_) ?_
  · go_simp
  simp only [Act.put, List.setIfInBounds_toArray, List.set_cons_zero, List.set_cons_succ]
  refine WE.pure (d := some 16) rfl rfl (by rfl) (v := (.bool true)) (fun w' hk => ?_) ?_
  · have q := f2.out; go_simp
  simp only [Act.put, List.setIfInBounds_toArray, List.set_cons_zero, List.set_cons_succ]
  refine WE.pure (d := some 17) rfl rfl (by rfl) (v := (.bool true)) (fun w' hk => ?_) ?_
  · go_simp
  simp only [Act.put, List.setIfInBounds_toArray, List.set_cons_zero, List.set_cons_succ]
  refine WE.pure (d := some 18) rfl rfl (by rfl) (v := (.bool true)) (fun w' hk => ?_) ?_
  · go_simp
  simp only [Act.put, List.setIfInBounds_toArray, List.set_cons_zero, List.set_cons_succ]
  refine WE.skip (d := some 19) rfl rfl (by rfl) ?_
  simp only [Act.put, List.setIfInBounds_toArray, List.set_cons_zero, List.set_cons_succ]
  refine WE.pass (d := some 20) rfl rfl (by rfl) ?_
  simp only [Act.put, List.setIfInBounds_toArray, List.set_cons_zero, List.set_cons_succ]
  refine WE.skip (d := some 21) rfl rfl (by rfl) ?_
  simp only [Act.put, List.setIfInBounds_toArray, List.set_cons_zero, List.set_cons_succ]
  refine WE.pure (d := some 22) rfl rfl (by rfl) (v := (.bool true)) (fun w' hk => ?_) ?_
  · go_simp
  simp only [Act.put, List.setIfInBounds_toArray, List.set_cons_zero, List.set_cons_succ]
  refine WE.pure (d := some 23) rfl rfl (by rfl) (v := (.bool true)) (fun w' hk => ?_) ?_
  · go_simp
  simp only [Act.put, List.setIfInBounds_toArray, List.set_cons_zero, List.set_cons_succ]
  refine WE.skip (d := some 24) rfl rfl (by rfl) ?_
  simp only [Act.put, List.setIfInBounds_toArray, List.set_cons_zero, List.set_cons_succ]
  refine WE.pass (d := some 25) rfl rfl (by rfl) ?_
  simp only [Act.put, List.setIfInBounds_toArray, List.set_cons_zero, List.set_cons_succ]
  refine WE.skip (d := some 26) rfl rfl (by rfl) ?_
  simp only [Act.put, List.setIfInBounds_toArray, List.set_cons_zero, List.set_cons_succ]
  refine WE.pure (d := some 27) rfl rfl (by rfl) (v := (.bool true)) (fun w' hk => ?_) ?_
  · go_simp
  simp only [Act.put, List.setIfInBounds_toArray, List.set_cons_zero, List.set_cons_succ]
  refine WE.done ?_
  go_wp2
  go_ret
  exact ⟨rfl, E.out⟩

set_option maxRecDepth 100000 in
set_option maxHeartbeats 1000000 in
theorem digitsOrder_skip2 (W : World) (ht : Tab W) (A : Option Addr) (n c : Nat) (l : List Nat) (h : Num W W.heap.size (.slice A n c) l) (A' : Option Addr) (n' c' : Nat) (l' : List Nat) (h' : Num W W.heap.size (.slice A' n' c') l') (f1 : Hid (decide (8 < (n : Int)) = false)) (f2 : Hid (decide (8 < (n' : Int)) = false)) (f3 : Hid (M.isNat l = false)) :
    Calls Tryd.prog 6 #[.slice A n c, .slice A' n' c'] W (fun e w' => e = .returned (.bool true) ∧ Ext W w') := by
  have HT := hid ht
  have NA := hid h
  have NB := hid h'
  clear ht h h'
  go_enter Tryd.func6, Tryd.ntmps6
  go_upto_region 1 with (fail)
  have E := hid (Ext.refl W)
  refine wp_region_T [(0, 1), (1, 0)] (by kernel_rfl) fun wd hb => ?_
  replace E := hid (E.out.trans hb)
  replace NA := hid (NA.out.up hb)
  replace NB := hid (NB.out.up hb)
  clear hb
  refine WE.call (d := some 8) rfl rfl (by rfl) (f := 8) (args := #[]) (by go_simp) ?_
  refine (known3 _ (HT.out.up E.out)).mono ?_
  rintro e wn ⟨rfl, hb⟩
  refine ⟨_, rfl, hb, ?_⟩
  replace E := hid (E.out.trans hb)
  replace NA := hid (NA.out.up hb)
  replace NB := hid (NB.out.up hb)
  clear hb
  simp only [Act.put, List.setIfInBounds_toArray, List.set_cons_zero, List.set_cons_succ]
  refine WE.pure (d := some 9) rfl rfl (by rfl) (v := (.bool false)) (fun w' hk => ?_) ?_
  · go_simp
  simp only [Act.put, List.setIfInBounds_toArray, List.set_cons_zero, List.set_cons_succ]
  refine WE.done ?_
  go_upto_region 3 with (fail)
  refine wp_region_T [(0, 0), (1, 0), (2, 0), (3, 0), (4, 0), (5, 0), (6, 0), (7, 0), (8, 0), (9, 0), (10, 1), (11, 0), (12, 0), (13, 0), (14, 0), (15, 1), (16, 0), (17, 0)] (by kernel_rfl) fun wd hb => ?_
  replace E := hid (E.out.trans hb)
  replace NA := hid (NA.out.up hb)
  replace NB := hid (NB.out.up hb)
  clear hb
  refine WE.pure (d := some 10) rfl rfl (by rfl) (v := (.slice A n c)) (fun w' hk => ?_) ?_
  · go_simp
  simp only [Act.put, List.setIfInBounds_toArray, List.set_cons_zero, List.set_cons_succ]
  refine WE.pure (d := some 11) rfl rfl (by rfl) (v := (.int .i64 (n : Int))) (fun w' hk => ?_) ?_
  · go_simp
  simp only [Act.put, List.setIfInBounds_toArray, List.set_cons_zero, List.set_cons_succ]
  refine WE.pure (d := some 12) rfl rfl (by rfl) (v := (.bool false)) (fun w' hk => ?_) ?_
  · have q := f1.out; go_simp
  simp only [Act.put, List.setIfInBounds_toArray, List.set_cons_zero, List.set_cons_succ]
  refine WE.pure (d := some 13) rfl rfl (by rfl) (v := (.bool false)) (fun w' hk => ?_) ?_
  · go_simp
  simp only [Act.put, List.setIfInBounds_toArray, List.set_cons_zero, List.set_cons_succ]
  refine WE.pure (d := some 14) rfl rfl (by rfl) (v := (.slice A' n' c')) (fun w' hk => ?_) ?_
  · go_simp
  simp only [Act.put, List.setIfInBounds_toArray, List.set_cons_zero, List.set_cons_succ]
  refine WE.pure (d := some 15) rfl rfl (by rfl) (v := (.int .i64 (n' : Int))) (fun w' hk => ?_) ?_
  · go_simp
  simp only [Act.put, List.setIfInBounds_toArray, List.set_cons_zero, List.set_cons_succ]
  refine WE.pure (d := some 16) rfl rfl (by rfl) (v := (.bool false)) (fun w' hk => ?_) ?_
  · have q := f2.out; go_simp
  simp only [Act.put, List.setIfInBounds_toArray, List.set_cons_zero, List.set_cons_succ]
  refine WE.pure (d := some 17) rfl rfl (by rfl) (v := (.bool false)) (fun w' hk => ?_) ?_
  · go_simp
  simp only [Act.put, List.setIfInBounds_toArray, List.set_cons_zero, List.set_cons_succ]
  refine WE.pure (d := some 18) rfl rfl (by rfl) (v := (.bool false)) (fun w' hk => ?_) ?_
  · go_simp
  simp only [Act.put, List.setIfInBounds_toArray, List.set_cons_zero, List.set_cons_succ]
  refine WE.pure (d := some 19) rfl rfl (by rfl) (v := (.slice A n c)) (fun w' hk => ?_) ?_
  · go_simp
  simp only [Act.put, List.setIfInBounds_toArray, List.set_cons_zero, List.set_cons_succ]
  refine WE.call (d := some 20) rfl rfl (by rfl) (f := 23) (args := #[(.slice A n c)]) (by go_simp) ?_
  refine (isR_l NA.out f3.out).mono ?_
  rintro e wq ⟨rfl, rfl⟩
  refine ⟨_, rfl, Ext.refl _, ?_⟩
  simp only [Act.put, List.setIfInBounds_toArray, List.set_cons_zero, List.set_cons_succ]
  refine WE.pure (d := some 21) rfl rfl (by rfl) (v := (.bool true)) (fun w' hk => ?_) ?_
  · go_simp
  simp only [Act.put, List.setIfInBounds_toArray, List.set_cons_zero, List.set_cons_succ]
  refine WE.pure (d := some 22) rfl rfl (by rfl) (v := (.bool true)) (fun w' hk => ?_) ?_
  · go_simp
  simp only [Act.put, List.setIfInBounds_toArray, List.set_cons_zero, List.set_cons_succ]
  refine WE.pure (d := some 23) rfl rfl (by rfl) (v := (.bool true)) (fun w' hk => ?_) ?_
  · go_simp
  simp only [Act.put, List.setIfInBounds_toArray, List.set_cons_zero, List.set_cons_succ]
  refine WE.skip (d := some 24) rfl rfl (by rfl) ?_
  simp only [Act.put, List.setIfInBounds_toArray, List.set_cons_zero, List.set_cons_succ]
  refine WE.pass (d := some 25) rfl rfl (by rfl) ?_
  simp only [Act.put, List.setIfInBounds_toArray, List.set_cons_zero, List.set_cons_succ]
  refine WE.skip (d := some 26) rfl rfl (by rfl) ?_
  simp only [Act.put, List.setIfInBounds_toArray, List.set_cons_zero, List.set_cons_succ]
  refine WE.pure (d := some 27) rfl rfl (by rfl) (v := (.bool true)) (fun w' hk => ?_) ?_
  · go_simp
  simp only [Act.put, List.setIfInBounds_toArray, List.set_cons_zero, List.set_cons_succ]
  refine WE.done ?_
  go_wp2
  go_ret
  exact ⟨rfl, E.out⟩

set_option maxRecDepth 100000 in
set_option maxHeartbeats 1000000 in
theorem digitsOrder_skip3 (W : World) (ht : Tab W) (A : Option Addr) (n c : Nat) (l : List Nat) (h : Num W W.heap.size (.slice A n c) l) (A' : Option Addr) (n' c' : Nat) (l' : List Nat) (h' : Num W W.heap.size (.slice A' n' c') l') (f1 : Hid (decide (8 < (n : Int)) = false)) (f2 : Hid (decide (8 < (n' : Int)) = false)) (f3 : Hid (M.isNat l = true)) (f4 : Hid (M.isNat l' = false)) :
    Calls Tryd.prog 6 #[.slice A n c, .slice A' n' c'] W (fun e w' => e = .returned (.bool true) ∧ Ext W w') := by
  have HT := hid ht
  have NA := hid h
  have NB := hid h'
  clear ht h h'
  go_enter Tryd.func6, Tryd.ntmps6
  go_upto_region 1 with (fail)
  have E := hid (Ext.refl W)
  refine wp_region_T [(0, 1), (1, 0)] (by kernel_rfl) fun wd hb => ?_
  replace E := hid (E.out.trans hb)
  replace NA := hid (NA.out.up hb)
  replace NB := hid (NB.out.up hb)
  clear hb
  refine WE.call (d := some 8) rfl rfl (by rfl) (f := 8) (args := #[]) (by go_simp) ?_
  refine (known3 _ (HT.out.up E.out)).mono ?_
  rintro e wn ⟨rfl, hb⟩
  refine ⟨_, rfl, hb, ?_⟩
  replace E := hid (E.out.trans hb)
  replace NA := hid (NA.out.up hb)
  replace NB := hid (NB.out.up hb)
  clear hb
  simp only [Act.put, List.setIfInBounds_toArray, List.set_cons_zero, List.set_cons_succ]
  refine WE.pure (d := some 9) rfl rfl (by rfl) (v := (.bool false)) (fun w' hk => ?_) ?_
  · go_simp
  simp only [Act.put, List.setIfInBounds_toArray, List.set_cons_zero, List.set_cons_succ]
  refine WE.done ?_
  go_upto_region 3 with (fail)
  refine wp_region_T [(0, 0), (1, 0), (2, 0), (3, 0), (4, 0), (5, 0), (6, 0), (7, 0), (8, 0), (9, 0), (10, 1), (11, 0), (12, 0), (13, 0), (14, 0), (15, 1), (16, 0), (17, 0)] (by kernel_rfl) fun wd hb => ?_
  replace E := hid (E.out.trans hb)
  replace NA := hid (NA.out.up hb)
  replace NB := hid (NB.out.up hb)
  clear hb
  refine WE.pure (d := some 10) rfl rfl (by rfl) (v := (.slice A n c)) (fun w' hk => ?_) ?_
  · go_simp
  simp only [Act.put, List.setIfInBounds_toArray, List.set_cons_zero, List.set_cons_succ]
  refine WE.pure (d := some 11) rfl rfl (by rfl) (v := (.int .i64 (n : Int))) (fun w' hk => ?_) ?_
  · go_simp
  simp only [Act.put, List.setIfInBounds_toArray, List.set_cons_zero, List.set_cons_succ]
  refine WE.pure (d := some 12) rfl rfl (by rfl) (v := (.bool false)) (fun w' hk => ?_) ?_
  · have q := f1.out; go_simp
  simp only [Act.put, List.setIfInBounds_toArray, List.set_cons_zero, List.set_cons_succ]
  refine WE.pure (d := some 13) rfl rfl (by rfl) (v := (.bool false)) (fun w' hk => ?_) ?_
  · go_simp
  simp only [Act.put, List.setIfInBounds_toArray, List.set_cons_zero, List.set_cons_succ]
  refine WE.pure (d := some 14) rfl rfl (by rfl) (v := (.slice A' n' c')) (fun w' hk => ?_) ?_
  · go_simp
  simp only [Act.put, List.setIfInBounds_toArray, List.set_cons_zero, List.set_cons_succ]
  refine WE.pure (d := some 15) rfl rfl (by rfl) (v := (.int .i64 (n' : Int))) (fun w' hk => ?_) ?_
  · go_simp
  simp only [Act.put, List.setIfInBounds_toArray, List.set_cons_zero, List.set_cons_succ]
  refine WE.pure (d := some 16) rfl rfl (by rfl) (v := (.bool false)) (fun w' hk => ?_) ?_
  · have q := f2.out; go_simp
  simp only [Act.put, List.setIfInBounds_toArray, List.set_cons_zero, List.set_cons_succ]
  refine WE.pure (d := some 17) rfl rfl (by rfl) (v := (.bool false)) (fun w' hk => ?_) ?_
  · go_simp
  simp only [Act.put, List.setIfInBounds_toArray, List.set_cons_zero, List.set_cons_succ]
  refine WE.pure (d := some 18) rfl rfl (by rfl) (v := (.bool false)) (fun w' hk => ?_) ?_
  · go_simp
  simp only [Act.put, List.setIfInBounds_toArray, List.set_cons_zero, List.set_cons_succ]
  refine WE.pure (d := some 19) rfl rfl (by rfl) (v := (.slice A n c)) (fun w' hk => ?_) ?_
  · go_simp
  simp only [Act.put, List.setIfInBounds_toArray, List.set_cons_zero, List.set_cons_succ]
  refine WE.call (d := some 20) rfl rfl (by rfl) (f := 23) (args := #[(.slice A n c)]) (by go_simp) ?_
  refine (isR_l NA.out f3.out).mono ?_
  rintro e wq ⟨rfl, rfl⟩
  refine ⟨_, rfl, Ext.refl _, ?_⟩
  simp only [Act.put, List.setIfInBounds_toArray, List.set_cons_zero, List.set_cons_succ]
  refine WE.pure (d := some 21) rfl rfl (by rfl) (v := (.bool false)) (fun w' hk => ?_) ?_
  · go_simp
  simp only [Act.put, List.setIfInBounds_toArray, List.set_cons_zero, List.set_cons_succ]
  refine WE.pure (d := some 22) rfl rfl (by rfl) (v := (.bool false)) (fun w' hk => ?_) ?_
  · go_simp
  simp only [Act.put, List.setIfInBounds_toArray, List.set_cons_zero, List.set_cons_succ]
  refine WE.pure (d := some 23) rfl rfl (by rfl) (v := (.bool false)) (fun w' hk => ?_) ?_
  · go_simp
  simp only [Act.put, List.setIfInBounds_toArray, List.set_cons_zero, List.set_cons_succ]
  refine WE.pure (d := some 24) rfl rfl (by rfl) (v := (.slice A' n' c')) (fun w' hk => ?_) ?_
  · go_simp
  simp only [Act.put, List.setIfInBounds_toArray, List.set_cons_zero, List.set_cons_succ]
  refine WE.call (d := some 25) rfl rfl (by rfl) (f := 23) (args := #[(.slice A' n' c')]) (by go_simp) ?_
  refine (isR_l NB.out f4.out).mono ?_
  rintro e wq ⟨rfl, rfl⟩
  refine ⟨_, rfl, Ext.refl _, ?_⟩
  simp only [Act.put, List.setIfInBounds_toArray, List.set_cons_zero, List.set_cons_succ]
  refine WE.pure (d := some 26) rfl rfl (by rfl) (v := (.bool true)) (fun w' hk => ?_) ?_
  · go_simp
  simp only [Act.put, List.setIfInBounds_toArray, List.set_cons_zero, List.set_cons_succ]
  refine WE.pure (d := some 27) rfl rfl (by rfl) (v := (.bool true)) (fun w' hk => ?_) ?_
  · go_simp
  simp only [Act.put, List.setIfInBounds_toArray, List.set_cons_zero, List.set_cons_succ]
  refine WE.done ?_
  go_wp2
  go_ret
  exact ⟨rfl, E.out⟩

end Go.Proofs.YthlafkbldlmmaaaDoor
