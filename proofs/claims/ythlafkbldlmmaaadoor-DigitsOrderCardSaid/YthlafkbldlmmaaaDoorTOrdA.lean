/-
  DigitsOrder, a part of its walk.
-/
import Derived.Test.YthlafkbldlmmaaaDoorTLaid
import Derived.Test.YthlafkbldlmmaaaDoorTOrdS
namespace Go.Proofs.YthlafkbldlmmaaaDoor
open Go.ChangeShapes Go.WideShapes Go.ChangeAt Go.RowKit
set_option linter.unusedSimpArgs false
set_option linter.unusedVariables false

set_option maxRecDepth 100000 in
set_option maxHeartbeats 4000000 in
theorem digitsOrder_ll (W : World) (ht : Tab W) (A : Option Addr) (n c : Nat) (l : List Nat) (h : Num W W.heap.size (.slice A n c) l) (A' : Option Addr) (n' c' : Nat) (l' : List Nat) (h' : Num W W.heap.size (.slice A' n' c') l') (f1 : Hid (decide (8 < (n : Int)) = false)) (f2 : Hid (decide (8 < (n' : Int)) = false)) (f3 : Hid (M.isNat l = true)) (f4 : Hid (M.isNat l' = true)) (s t : List UInt8) (hs : Lib.decDigits (M.nv l) = s) (hu : Lib.decDigits (M.nv l') = t) (hc : s.length < t.length) (hz : M.cmp (M.nv l) (M.nv l') = (-1)) :
    Calls Tryd.prog 6 #[.slice A n c, .slice A' n' c'] W (fun e w' => e = .returned (.bool true) ∧ Ext W w') := by
  have HT := hid ht
  have NA := hid h
  have NB := hid h'
  have HS := hid hs
  have HU := hid hu
  have HC := hid hc
  have HZ := hid hz
  clear hs hu hc hz
  clear ht h h'
  go_enter Tryd.func6, Tryd.ntmps6
  go_upto_region 1 with (fail)
  have E := hid (Ext.refl W)
  refine wp_region_T [(0, 1), (1, 0)] (by kernel_rfl) fun wd hb => ?_
  replace E := hid (E.out.trans hb)
  replace NA := hid (NA.out.up hb)
  replace NB := hid (NB.out.up hb)
  clear hb
  refine WE.call (d := some 8) rfl rfl (by rfl) (f := 8) (args := #[]) (by go_simp) ?_
  refine (known3 _ (HT.out.up E.out)).mono ?_
  rintro e wn ⟨rfl, hb⟩
  refine ⟨_, rfl, hb, ?_⟩
  replace E := hid (E.out.trans hb)
  replace NA := hid (NA.out.up hb)
  replace NB := hid (NB.out.up hb)
  clear hb
  simp only [Act.put, List.setIfInBounds_toArray, List.set_cons_zero, List.set_cons_succ]
  refine WE.pure (d := some 9) rfl rfl (by rfl) (v := (.bool false)) (fun w' hk => ?_) ?_
  · go_simp
  simp only [Act.put, List.setIfInBounds_toArray, List.set_cons_zero, List.set_cons_succ]
  refine WE.done ?_
  go_upto_region 3 with (fail)
  refine wp_region_T [(0, 0), (1, 0), (2, 0), (3, 0), (4, 0), (5, 0), (6, 0), (7, 0), (8, 0), (9, 0), (10, 1), (11, 0), (12, 0), (13, 0), (14, 0), (15, 1), (16, 0), (17, 0)] (by kernel_rfl) fun wd hb => ?_
  replace E := hid (E.out.trans hb)
  replace NA := hid (NA.out.up hb)
  replace NB := hid (NB.out.up hb)
  clear hb
  refine WE.pure (d := some 10) rfl rfl (by rfl) (v := (.slice A n c)) (fun w' hk => ?_) ?_
  · go_simp
  simp only [Act.put, List.setIfInBounds_toArray, List.set_cons_zero, List.set_cons_succ]
  refine WE.pure (d := some 11) rfl rfl (by rfl) (v := (.int .i64 (n : Int))) (fun w' hk => ?_) ?_
  · go_simp
  simp only [Act.put, List.setIfInBounds_toArray, List.set_cons_zero, List.set_cons_succ]
  refine WE.pure (d := some 12) rfl rfl (by rfl) (v := (.bool false)) (fun w' hk => ?_) ?_
  · have q := f1.out; go_simp
  simp only [Act.put, List.setIfInBounds_toArray, List.set_cons_zero, List.set_cons_succ]
  refine WE.pure (d := some 13) rfl rfl (by rfl) (v := (.bool false)) (fun w' hk => ?_) ?_
  · go_simp
  simp only [Act.put, List.setIfInBounds_toArray, List.set_cons_zero, List.set_cons_succ]
  refine WE.pure (d := some 14) rfl rfl (by rfl) (v := (.slice A' n' c')) (fun w' hk => ?_) ?_
  · go_simp
  simp only [Act.put, List.setIfInBounds_toArray, List.set_cons_zero, List.set_cons_succ]
  refine WE.pure (d := some 15) rfl rfl (by rfl) (v := (.int .i64 (n' : Int))) (fun w' hk => ?_) ?_
  · go_simp
  simp only [Act.put, List.setIfInBounds_toArray, List.set_cons_zero, List.set_cons_succ]
  refine WE.pure (d := some 16) rfl rfl (by rfl) (v := (.bool false)) (fun w' hk => ?_) ?_
  · have q := f2.out; go_simp
  simp only [Act.put, List.setIfInBounds_toArray, List.set_cons_zero, List.set_cons_succ]
  refine WE.pure (d := some 17) rfl rfl (by rfl) (v := (.bool false)) (fun w' hk => ?_) ?_
  · go_simp
  simp only [Act.put, List.setIfInBounds_toArray, List.set_cons_zero, List.set_cons_succ]
  refine WE.pure (d := some 18) rfl rfl (by rfl) (v := (.bool false)) (fun w' hk => ?_) ?_
  · go_simp
  simp only [Act.put, List.setIfInBounds_toArray, List.set_cons_zero, List.set_cons_succ]
  refine WE.pure (d := some 19) rfl rfl (by rfl) (v := (.slice A n c)) (fun w' hk => ?_) ?_
  · go_simp
  simp only [Act.put, List.setIfInBounds_toArray, List.set_cons_zero, List.set_cons_succ]
  refine WE.call (d := some 20) rfl rfl (by rfl) (f := 23) (args := #[(.slice A n c)]) (by go_simp) ?_
  refine (isR_l NA.out f3.out).mono ?_
  rintro e wq ⟨rfl, rfl⟩
  refine ⟨_, rfl, Ext.refl _, ?_⟩
  simp only [Act.put, List.setIfInBounds_toArray, List.set_cons_zero, List.set_cons_succ]
  refine WE.pure (d := some 21) rfl rfl (by rfl) (v := (.bool false)) (fun w' hk => ?_) ?_
  · go_simp
  simp only [Act.put, List.setIfInBounds_toArray, List.set_cons_zero, List.set_cons_succ]
  refine WE.pure (d := some 22) rfl rfl (by rfl) (v := (.bool false)) (fun w' hk => ?_) ?_
  · go_simp
  simp only [Act.put, List.setIfInBounds_toArray, List.set_cons_zero, List.set_cons_succ]
  refine WE.pure (d := some 23) rfl rfl (by rfl) (v := (.bool false)) (fun w' hk => ?_) ?_
  · go_simp
  simp only [Act.put, List.setIfInBounds_toArray, List.set_cons_zero, List.set_cons_succ]
  refine WE.pure (d := some 24) rfl rfl (by rfl) (v := (.slice A' n' c')) (fun w' hk => ?_) ?_
  · go_simp
  simp only [Act.put, List.setIfInBounds_toArray, List.set_cons_zero, List.set_cons_succ]
  refine WE.call (d := some 25) rfl rfl (by rfl) (f := 23) (args := #[(.slice A' n' c')]) (by go_simp) ?_
  refine (isR_l NB.out f4.out).mono ?_
  rintro e wq ⟨rfl, rfl⟩
  refine ⟨_, rfl, Ext.refl _, ?_⟩
  simp only [Act.put, List.setIfInBounds_toArray, List.set_cons_zero, List.set_cons_succ]
  refine WE.pure (d := some 26) rfl rfl (by rfl) (v := (.bool false)) (fun w' hk => ?_) ?_
  · go_simp
  simp only [Act.put, List.setIfInBounds_toArray, List.set_cons_zero, List.set_cons_succ]
  refine WE.pure (d := some 27) rfl rfl (by rfl) (v := (.bool false)) (fun w' hk => ?_) ?_
  · go_simp
  simp only [Act.put, List.setIfInBounds_toArray, List.set_cons_zero, List.set_cons_succ]
  refine WE.done ?_
  go_upto_region 5 with (fail)
  refine wp_region_T [(0, 0), (1, 1), (2, 0), (3, 1), (4, 0), (5, 0)] (by kernel_rfl) fun wd hb => ?_
  replace E := hid (E.out.trans hb)
  replace NA := hid (NA.out.up hb)
  replace NB := hid (NB.out.up hb)
  clear hb
  refine WE.pure (d := some 28) rfl rfl (by rfl) (v := (.slice A n c)) (fun w' hk => ?_) ?_
  · go_simp
  simp only [Act.put, List.setIfInBounds_toArray, List.set_cons_zero, List.set_cons_succ]
  refine WE.call (d := some 29) rfl rfl (by rfl) (f := 13) (args := #[(.slice A n c)]) (by go_simp) ?_
  refine (digitsNat_to NA.out (by have h1 := NA.out.row.2; have h2 := f1.out; simp at h2; omega) (HT.out.up E.out) HS.out).mono ?_
  rintro e wn ⟨rfl, hb⟩
  refine ⟨_, rfl, hb, ?_⟩
  replace E := hid (E.out.trans hb)
  replace NA := hid (NA.out.up hb)
  replace NB := hid (NB.out.up hb)
  clear hb
  simp only [Act.put, List.setIfInBounds_toArray, List.set_cons_zero, List.set_cons_succ]
  refine WE.pure (d := some 30) rfl rfl (by rfl) (v := (.slice A' n' c')) (fun w' hk => ?_) ?_
  · go_simp
  simp only [Act.put, List.setIfInBounds_toArray, List.set_cons_zero, List.set_cons_succ]
  refine WE.call (d := some 31) rfl rfl (by rfl) (f := 13) (args := #[(.slice A' n' c')]) (by go_simp) ?_
  refine (digitsNat_to NB.out (by have h1 := NB.out.row.2; have h2 := f2.out; simp at h2; omega) (HT.out.up E.out) HU.out).mono ?_
  rintro e wn ⟨rfl, hb⟩
  refine ⟨_, rfl, hb, ?_⟩
  replace E := hid (E.out.trans hb)
  replace NA := hid (NA.out.up hb)
  replace NB := hid (NB.out.up hb)
  clear hb
  simp only [Act.put, List.setIfInBounds_toArray, List.set_cons_zero, List.set_cons_succ]
  refine WE.pure (d := some 5) rfl rfl (by rfl) (v := (str s)) (fun w' hk => ?_) ?_
  · go_simp
  simp only [Act.put, List.setIfInBounds_toArray, List.set_cons_zero, List.set_cons_succ]
  refine WE.pure (d := some 6) rfl rfl (by rfl) (v := (str t)) (fun w' hk => ?_) ?_
  · go_simp
  simp only [Act.put, List.setIfInBounds_toArray, List.set_cons_zero, List.set_cons_succ]
  refine WE.done ?_
  go_upto_region 7 with (fail)
  refine wp_region_T [(0, 0), (1, 0), (2, 0), (3, 0), (4, 0), (5, 0), (6, 0), (7, 0), (8, 0), (9, 0), (10, 0), (11, 0), (12, 0), (13, 0), (14, 0), (15, 0), (16, 0), (17, 0)] (by kernel_rfl) fun wd hb => ?_
  replace E := hid (E.out.trans hb)
  replace NA := hid (NA.out.up hb)
  replace NB := hid (NB.out.up hb)
  clear hb
  refine WE.pure (d := some 33) rfl rfl (by rfl) (v := (str s)) (fun w' hk => ?_) ?_
  · go_simp
  simp only [Act.put, List.setIfInBounds_toArray, List.set_cons_zero, List.set_cons_succ]
  refine WE.pure (d := some 34) rfl rfl (by rfl) (v := (.int .i64 (s.length : Int))) (fun w' hk => ?_) ?_
  · go_simp
  simp only [Act.put, List.setIfInBounds_toArray, List.set_cons_zero, List.set_cons_succ]
  refine WE.pure (d := some 35) rfl rfl (by rfl) (v := (str t)) (fun w' hk => ?_) ?_
  · go_simp
  simp only [Act.put, List.setIfInBounds_toArray, List.set_cons_zero, List.set_cons_succ]
  refine WE.pure (d := some 36) rfl rfl (by rfl) (v := (.int .i64 (t.length : Int))) (fun w' hk => ?_) ?_
  · go_simp
  simp only [Act.put, List.setIfInBounds_toArray, List.set_cons_zero, List.set_cons_succ]
  refine WE.pure (d := some 37) rfl rfl (by rfl) (v := (.bool true)) (fun w' hk => ?_) ?_
  · have hc := HC.out; have q : decide ((s.length : Int) < (t.length : Int)) = true := (by simp; omega); have q2 : s.length < t.length := (by first | omega | (subst hc; simp) | (subst hc; rfl)); go_simp
  simp only [Act.put, List.setIfInBounds_toArray, List.set_cons_zero, List.set_cons_succ]
  refine WE.pure (d := some 38) rfl rfl (by rfl) (v := (.bool true)) (fun w' hk => ?_) ?_
  · go_simp
  simp only [Act.put, List.setIfInBounds_toArray, List.set_cons_zero, List.set_cons_succ]
  refine WE.skip (d := some 39) rfl rfl (by rfl) ?_
  simp only [Act.put, List.setIfInBounds_toArray, List.set_cons_zero, List.set_cons_succ]
  refine WE.skip (d := some 40) rfl rfl (by rfl) ?_
  simp only [Act.put, List.setIfInBounds_toArray, List.set_cons_zero, List.set_cons_succ]
  refine WE.skip (d := some 41) rfl rfl (by rfl) ?_
  simp only [Act.put, List.setIfInBounds_toArray, List.set_cons_zero, List.set_cons_succ]
  refine WE.skip (d := some 42) rfl rfl (by rfl) ?_
  simp only [Act.put, List.setIfInBounds_toArray, List.set_cons_zero, List.set_cons_succ]
  refine WE.skip (d := some 43) rfl rfl (by rfl) ?_
  simp only [Act.put, List.setIfInBounds_toArray, List.set_cons_zero, List.set_cons_succ]
  refine WE.skip (d := some 44) rfl rfl (by rfl) ?_
  simp only [Act.put, List.setIfInBounds_toArray, List.set_cons_zero, List.set_cons_succ]
  refine WE.skip (d := some 45) rfl rfl (by rfl) ?_
  simp only [Act.put, List.setIfInBounds_toArray, List.set_cons_zero, List.set_cons_succ]
  refine WE.skip (d := some 46) rfl rfl (by rfl) ?_
  simp only [Act.put, List.setIfInBounds_toArray, List.set_cons_zero, List.set_cons_succ]
  refine WE.skip (d := some 47) rfl rfl (by rfl) ?_
  simp only [Act.put, List.setIfInBounds_toArray, List.set_cons_zero, List.set_cons_succ]
  refine WE.skip (d := some 48) rfl rfl (by rfl) ?_
  simp only [Act.put, List.setIfInBounds_toArray, List.set_cons_zero, List.set_cons_succ]
  refine WE.pure (d := some 49) rfl rfl (by rfl) (v := (.bool true)) (fun w' hk => ?_) ?_
  · go_simp
  simp only [Act.put, List.setIfInBounds_toArray, List.set_cons_zero, List.set_cons_succ]
  refine WE.pure (d := some 32) rfl rfl (by rfl) (v := (.bool true)) (fun w' hk => ?_) ?_
  · go_simp
  simp only [Act.put, List.setIfInBounds_toArray, List.set_cons_zero, List.set_cons_succ]
  refine WE.done ?_
  go_upto_region 11 with (fail)
  refine wp_region_T [(0, 0), (1, 0), (2, 0), (3, 1), (4, 0), (5, 0)] (by kernel_rfl) fun wd hb => ?_
  replace E := hid (E.out.trans hb)
  replace NA := hid (NA.out.up hb)
  replace NB := hid (NB.out.up hb)
  clear hb
  refine WE.pure (d := some 61) rfl rfl (by rfl) (v := (.int .i64 (-1))) (fun w' hk => ?_) ?_
  · go_simp
  simp only [Act.put, List.setIfInBounds_toArray, List.set_cons_zero, List.set_cons_succ]
  refine WE.pure (d := some 62) rfl rfl (by rfl) (v := (.slice A n c)) (fun w' hk => ?_) ?_
  · go_simp
  simp only [Act.put, List.setIfInBounds_toArray, List.set_cons_zero, List.set_cons_succ]
  refine WE.pure (d := some 63) rfl rfl (by rfl) (v := (.slice A' n' c')) (fun w' hk => ?_) ?_
  · go_simp
  simp only [Act.put, List.setIfInBounds_toArray, List.set_cons_zero, List.set_cons_succ]
  refine WE.call (d := some 64) rfl rfl (by rfl) (f := 24) (args := #[(.slice A n c), (.slice A' n' c')]) (by go_simp) ?_
  refine (rcmp_l NA.out NB.out (z := (-1)) HZ.out).mono ?_
  rintro e wn ⟨rfl, hb⟩
  refine ⟨_, rfl, hb, ?_⟩
  replace E := hid (E.out.trans hb)
  replace NA := hid (NA.out.up hb)
  replace NB := hid (NB.out.up hb)
  clear hb
  simp only [Act.put, List.setIfInBounds_toArray, List.set_cons_zero, List.set_cons_succ]
  refine WE.pure (d := some 65) rfl rfl (by rfl) (v := (.bool true)) (fun w' hk => ?_) ?_
  · go_simp
  simp only [Act.put, List.setIfInBounds_toArray, List.set_cons_zero, List.set_cons_succ]
  refine WE.pure (d := some 4) rfl rfl (by rfl) (v := (.bool true)) (fun w' hk => ?_) ?_
  · go_simp
  simp only [Act.put, List.setIfInBounds_toArray, List.set_cons_zero, List.set_cons_succ]
  refine WE.done ?_
  go_wp2
  go_ret
  exact ⟨rfl, E.out⟩

set_option maxRecDepth 100000 in
set_option maxHeartbeats 4000000 in
theorem digitsOrder_el (W : World) (ht : Tab W) (A : Option Addr) (n c : Nat) (l : List Nat) (h : Num W W.heap.size (.slice A n c) l) (A' : Option Addr) (n' c' : Nat) (l' : List Nat) (h' : Num W W.heap.size (.slice A' n' c') l') (f1 : Hid (decide (8 < (n : Int)) = false)) (f2 : Hid (decide (8 < (n' : Int)) = false)) (f3 : Hid (M.isNat l = true)) (f4 : Hid (M.isNat l' = true)) (s t : List UInt8) (hs : Lib.decDigits (M.nv l) = s) (hu : Lib.decDigits (M.nv l') = t) (hc : s.length = t.length ∧ s < t) (hz : M.cmp (M.nv l) (M.nv l') = (-1)) :
    Calls Tryd.prog 6 #[.slice A n c, .slice A' n' c'] W (fun e w' => e = .returned (.bool true) ∧ Ext W w') := by
  have HT := hid ht
  have NA := hid h
  have NB := hid h'
  have HS := hid hs
  have HU := hid hu
  have HC := hid hc
  have HZ := hid hz
  clear hs hu hc hz
  clear ht h h'
  go_enter Tryd.func6, Tryd.ntmps6
  go_upto_region 1 with (fail)
  have E := hid (Ext.refl W)
  refine wp_region_T [(0, 1), (1, 0)] (by kernel_rfl) fun wd hb => ?_
  replace E := hid (E.out.trans hb)
  replace NA := hid (NA.out.up hb)
  replace NB := hid (NB.out.up hb)
  clear hb
  refine WE.call (d := some 8) rfl rfl (by rfl) (f := 8) (args := #[]) (by go_simp) ?_
  refine (known3 _ (HT.out.up E.out)).mono ?_
  rintro e wn ⟨rfl, hb⟩
  refine ⟨_, rfl, hb, ?_⟩
  replace E := hid (E.out.trans hb)
  replace NA := hid (NA.out.up hb)
  replace NB := hid (NB.out.up hb)
  clear hb
  simp only [Act.put, List.setIfInBounds_toArray, List.set_cons_zero, List.set_cons_succ]
  refine WE.pure (d := some 9) rfl rfl (by rfl) (v := (.bool false)) (fun w' hk => ?_) ?_
  · go_simp
  simp only [Act.put, List.setIfInBounds_toArray, List.set_cons_zero, List.set_cons_succ]
  refine WE.done ?_
  go_upto_region 3 with (fail)
  refine wp_region_T [(0, 0), (1, 0), (2, 0), (3, 0), (4, 0), (5, 0), (6, 0), (7, 0), (8, 0), (9, 0), (10, 1), (11, 0), (12, 0), (13, 0), (14, 0), (15, 1), (16, 0), (17, 0)] (by kernel_rfl) fun wd hb => ?_
  replace E := hid (E.out.trans hb)
  replace NA := hid (NA.out.up hb)
  replace NB := hid (NB.out.up hb)
  clear hb
  refine WE.pure (d := some 10) rfl rfl (by rfl) (v := (.slice A n c)) (fun w' hk => ?_) ?_
  · go_simp
  simp only [Act.put, List.setIfInBounds_toArray, List.set_cons_zero, List.set_cons_succ]
  refine WE.pure (d := some 11) rfl rfl (by rfl) (v := (.int .i64 (n : Int))) (fun w' hk => ?_) ?_
  · go_simp
  simp only [Act.put, List.setIfInBounds_toArray, List.set_cons_zero, List.set_cons_succ]
  refine WE.pure (d := some 12) rfl rfl (by rfl) (v := (.bool false)) (fun w' hk => ?_) ?_
  · have q := f1.out; go_simp
  simp only [Act.put, List.setIfInBounds_toArray, List.set_cons_zero, List.set_cons_succ]
  refine WE.pure (d := some 13) rfl rfl (by rfl) (v := (.bool false)) (fun w' hk => ?_) ?_
  · go_simp
  simp only [Act.put, List.setIfInBounds_toArray, List.set_cons_zero, List.set_cons_succ]
  refine WE.pure (d := some 14) rfl rfl (by rfl) (v := (.slice A' n' c')) (fun w' hk => ?_) ?_
  · go_simp
  simp only [Act.put, List.setIfInBounds_toArray, List.set_cons_zero, List.set_cons_succ]
  refine WE.pure (d := some 15) rfl rfl (by rfl) (v := (.int .i64 (n' : Int))) (fun w' hk => ?_) ?_
  · go_simp
  simp only [Act.put, List.setIfInBounds_toArray, List.set_cons_zero, List.set_cons_succ]
  refine WE.pure (d := some 16) rfl rfl (by rfl) (v := (.bool false)) (fun w' hk => ?_) ?_
  · have q := f2.out; go_simp
  simp only [Act.put, List.setIfInBounds_toArray, List.set_cons_zero, List.set_cons_succ]
  refine WE.pure (d := some 17) rfl rfl (by rfl) (v := (.bool false)) (fun w' hk => ?_) ?_
  · go_simp
  simp only [Act.put, List.setIfInBounds_toArray, List.set_cons_zero, List.set_cons_succ]
  refine WE.pure (d := some 18) rfl rfl (by rfl) (v := (.bool false)) (fun w' hk => ?_) ?_
  · go_simp
  simp only [Act.put, List.setIfInBounds_toArray, List.set_cons_zero, List.set_cons_succ]
  refine WE.pure (d := some 19) rfl rfl (by rfl) (v := (.slice A n c)) (fun w' hk => ?_) ?_
  · go_simp
  simp only [Act.put, List.setIfInBounds_toArray, List.set_cons_zero, List.set_cons_succ]
  refine WE.call (d := some 20) rfl rfl (by rfl) (f := 23) (args := #[(.slice A n c)]) (by go_simp) ?_
  refine (isR_l NA.out f3.out).mono ?_
  rintro e wq ⟨rfl, rfl⟩
  refine ⟨_, rfl, Ext.refl _, ?_⟩
  simp only [Act.put, List.setIfInBounds_toArray, List.set_cons_zero, List.set_cons_succ]
  refine WE.pure (d := some 21) rfl rfl (by rfl) (v := (.bool false)) (fun w' hk => ?_) ?_
  · go_simp
  simp only [Act.put, List.setIfInBounds_toArray, List.set_cons_zero, List.set_cons_succ]
  refine WE.pure (d := some 22) rfl rfl (by rfl) (v := (.bool false)) (fun w' hk => ?_) ?_
  · go_simp
  simp only [Act.put, List.setIfInBounds_toArray, List.set_cons_zero, List.set_cons_succ]
  refine WE.pure (d := some 23) rfl rfl (by rfl) (v := (.bool false)) (fun w' hk => ?_) ?_
  · go_simp
  simp only [Act.put, List.setIfInBounds_toArray, List.set_cons_zero, List.set_cons_succ]
  refine WE.pure (d := some 24) rfl rfl (by rfl) (v := (.slice A' n' c')) (fun w' hk => ?_) ?_
  · go_simp
  simp only [Act.put, List.setIfInBounds_toArray, List.set_cons_zero, List.set_cons_succ]
  refine WE.call (d := some 25) rfl rfl (by rfl) (f := 23) (args := #[(.slice A' n' c')]) (by go_simp) ?_
  refine (isR_l NB.out f4.out).mono ?_
  rintro e wq ⟨rfl, rfl⟩
  refine ⟨_, rfl, Ext.refl _, ?_⟩
  simp only [Act.put, List.setIfInBounds_toArray, List.set_cons_zero, List.set_cons_succ]
  refine WE.pure (d := some 26) rfl rfl (by rfl) (v := (.bool false)) (fun w' hk => ?_) ?_
  · go_simp
  simp only [Act.put, List.setIfInBounds_toArray, List.set_cons_zero, List.set_cons_succ]
  refine WE.pure (d := some 27) rfl rfl (by rfl) (v := (.bool false)) (fun w' hk => ?_) ?_
  · go_simp
  simp only [Act.put, List.setIfInBounds_toArray, List.set_cons_zero, List.set_cons_succ]
  refine WE.done ?_
  go_upto_region 5 with (fail)
  refine wp_region_T [(0, 0), (1, 1), (2, 0), (3, 1), (4, 0), (5, 0)] (by kernel_rfl) fun wd hb => ?_
  replace E := hid (E.out.trans hb)
  replace NA := hid (NA.out.up hb)
  replace NB := hid (NB.out.up hb)
  clear hb
  refine WE.pure (d := some 28) rfl rfl (by rfl) (v := (.slice A n c)) (fun w' hk => ?_) ?_
  · go_simp
  simp only [Act.put, List.setIfInBounds_toArray, List.set_cons_zero, List.set_cons_succ]
  refine WE.call (d := some 29) rfl rfl (by rfl) (f := 13) (args := #[(.slice A n c)]) (by go_simp) ?_
  refine (digitsNat_to NA.out (by have h1 := NA.out.row.2; have h2 := f1.out; simp at h2; omega) (HT.out.up E.out) HS.out).mono ?_
  rintro e wn ⟨rfl, hb⟩
  refine ⟨_, rfl, hb, ?_⟩
  replace E := hid (E.out.trans hb)
  replace NA := hid (NA.out.up hb)
  replace NB := hid (NB.out.up hb)
  clear hb
  simp only [Act.put, List.setIfInBounds_toArray, List.set_cons_zero, List.set_cons_succ]
  refine WE.pure (d := some 30) rfl rfl (by rfl) (v := (.slice A' n' c')) (fun w' hk => ?_) ?_
  · go_simp
  simp only [Act.put, List.setIfInBounds_toArray, List.set_cons_zero, List.set_cons_succ]
  refine WE.call (d := some 31) rfl rfl (by rfl) (f := 13) (args := #[(.slice A' n' c')]) (by go_simp) ?_
  refine (digitsNat_to NB.out (by have h1 := NB.out.row.2; have h2 := f2.out; simp at h2; omega) (HT.out.up E.out) HU.out).mono ?_
  rintro e wn ⟨rfl, hb⟩
  refine ⟨_, rfl, hb, ?_⟩
  replace E := hid (E.out.trans hb)
  replace NA := hid (NA.out.up hb)
  replace NB := hid (NB.out.up hb)
  clear hb
  simp only [Act.put, List.setIfInBounds_toArray, List.set_cons_zero, List.set_cons_succ]
  refine WE.pure (d := some 5) rfl rfl (by rfl) (v := (str s)) (fun w' hk => ?_) ?_
  · go_simp
  simp only [Act.put, List.setIfInBounds_toArray, List.set_cons_zero, List.set_cons_succ]
  refine WE.pure (d := some 6) rfl rfl (by rfl) (v := (str t)) (fun w' hk => ?_) ?_
  · go_simp
  simp only [Act.put, List.setIfInBounds_toArray, List.set_cons_zero, List.set_cons_succ]
  refine WE.done ?_
  go_upto_region 7 with (fail)
  refine wp_region_T [(0, 0), (1, 0), (2, 0), (3, 0), (4, 0), (5, 0), (6, 0), (7, 0), (8, 0), (9, 0), (10, 0), (11, 0), (12, 0), (13, 0), (14, 0), (15, 0), (16, 0), (17, 0)] (by kernel_rfl) fun wd hb => ?_
  replace E := hid (E.out.trans hb)
  replace NA := hid (NA.out.up hb)
  replace NB := hid (NB.out.up hb)
  clear hb
  refine WE.pure (d := some 33) rfl rfl (by rfl) (v := (str s)) (fun w' hk => ?_) ?_
  · go_simp
  simp only [Act.put, List.setIfInBounds_toArray, List.set_cons_zero, List.set_cons_succ]
  refine WE.pure (d := some 34) rfl rfl (by rfl) (v := (.int .i64 (s.length : Int))) (fun w' hk => ?_) ?_
  · go_simp
  simp only [Act.put, List.setIfInBounds_toArray, List.set_cons_zero, List.set_cons_succ]
  refine WE.pure (d := some 35) rfl rfl (by rfl) (v := (str t)) (fun w' hk => ?_) ?_
  · go_simp
  simp only [Act.put, List.setIfInBounds_toArray, List.set_cons_zero, List.set_cons_succ]
  refine WE.pure (d := some 36) rfl rfl (by rfl) (v := (.int .i64 (t.length : Int))) (fun w' hk => ?_) ?_
  · go_simp
  simp only [Act.put, List.setIfInBounds_toArray, List.set_cons_zero, List.set_cons_succ]
  refine WE.pure (d := some 37) rfl rfl (by rfl) (v := (.bool false)) (fun w' hk => ?_) ?_
  · have hc := HC.out; have q : decide ((s.length : Int) < (t.length : Int)) = false := (by simp; omega); have q2 : t.length ≤ s.length := (by first | omega | (subst hc; simp) | (subst hc; rfl)); go_simp
  simp only [Act.put, List.setIfInBounds_toArray, List.set_cons_zero, List.set_cons_succ]
  refine WE.pure (d := some 38) rfl rfl (by rfl) (v := (.bool false)) (fun w' hk => ?_) ?_
  · go_simp
  simp only [Act.put, List.setIfInBounds_toArray, List.set_cons_zero, List.set_cons_succ]
  refine WE.pure (d := some 39) rfl rfl (by rfl) (v := (str s)) (fun w' hk => ?_) ?_
  · go_simp
  simp only [Act.put, List.setIfInBounds_toArray, List.set_cons_zero, List.set_cons_succ]
  refine WE.pure (d := some 40) rfl rfl (by rfl) (v := (.int .i64 (s.length : Int))) (fun w' hk => ?_) ?_
  · go_simp
  simp only [Act.put, List.setIfInBounds_toArray, List.set_cons_zero, List.set_cons_succ]
  refine WE.pure (d := some 41) rfl rfl (by rfl) (v := (str t)) (fun w' hk => ?_) ?_
  · go_simp
  simp only [Act.put, List.setIfInBounds_toArray, List.set_cons_zero, List.set_cons_succ]
  refine WE.pure (d := some 42) rfl rfl (by rfl) (v := (.int .i64 (t.length : Int))) (fun w' hk => ?_) ?_
  · go_simp
  simp only [Act.put, List.setIfInBounds_toArray, List.set_cons_zero, List.set_cons_succ]
  refine WE.pure (d := some 43) rfl rfl (by rfl) (v := (.bool true)) (fun w' hk => ?_) ?_
  · have hc := HC.out; have q : ((s.length : Int) == (t.length : Int)) = true := (by simp; omega); have q2 : s.length = t.length := (by first | omega | (subst hc; simp) | (subst hc; rfl)); go_simp
  simp only [Act.put, List.setIfInBounds_toArray, List.set_cons_zero, List.set_cons_succ]
  refine WE.pure (d := some 44) rfl rfl (by rfl) (v := (.bool true)) (fun w' hk => ?_) ?_
  · go_simp
  simp only [Act.put, List.setIfInBounds_toArray, List.set_cons_zero, List.set_cons_succ]
  refine WE.pure (d := some 45) rfl rfl (by rfl) (v := (str s)) (fun w' hk => ?_) ?_
  · go_simp
  simp only [Act.put, List.setIfInBounds_toArray, List.set_cons_zero, List.set_cons_succ]
  refine WE.pure (d := some 46) rfl rfl (by rfl) (v := (str t)) (fun w' hk => ?_) ?_
  · go_simp
  simp only [Act.put, List.setIfInBounds_toArray, List.set_cons_zero, List.set_cons_succ]
  refine WE.pure (d := some 47) rfl rfl (by rfl) (v := (.bool true)) (fun w' hk => ?_) ?_
  · have hc := HC.out; have q : Op.bytesLess s t = true := (by rw [Proofs.bytesLess_eq]; simpa using hc.2); go_simp
  simp only [Act.put, List.setIfInBounds_toArray, List.set_cons_zero, List.set_cons_succ]
  refine WE.pure (d := some 48) rfl rfl (by rfl) (v := (.bool true)) (fun w' hk => ?_) ?_
  · go_simp
  simp only [Act.put, List.setIfInBounds_toArray, List.set_cons_zero, List.set_cons_succ]
  refine WE.pure (d := some 49) rfl rfl (by rfl) (v := (.bool true)) (fun w' hk => ?_) ?_
  · go_simp
  simp only [Act.put, List.setIfInBounds_toArray, List.set_cons_zero, List.set_cons_succ]
  refine WE.pure (d := some 32) rfl rfl (by rfl) (v := (.bool true)) (fun w' hk => ?_) ?_
  · go_simp
  simp only [Act.put, List.setIfInBounds_toArray, List.set_cons_zero, List.set_cons_succ]
  refine WE.done ?_
  go_upto_region 11 with (fail)
  refine wp_region_T [(0, 0), (1, 0), (2, 0), (3, 1), (4, 0), (5, 0)] (by kernel_rfl) fun wd hb => ?_
  replace E := hid (E.out.trans hb)
  replace NA := hid (NA.out.up hb)
  replace NB := hid (NB.out.up hb)
  clear hb
  refine WE.pure (d := some 61) rfl rfl (by rfl) (v := (.int .i64 (-1))) (fun w' hk => ?_) ?_
  · go_simp
  simp only [Act.put, List.setIfInBounds_toArray, List.set_cons_zero, List.set_cons_succ]
  refine WE.pure (d := some 62) rfl rfl (by rfl) (v := (.slice A n c)) (fun w' hk => ?_) ?_
  · go_simp
  simp only [Act.put, List.setIfInBounds_toArray, List.set_cons_zero, List.set_cons_succ]
  refine WE.pure (d := some 63) rfl rfl (by rfl) (v := (.slice A' n' c')) (fun w' hk => ?_) ?_
  · go_simp
  simp only [Act.put, List.setIfInBounds_toArray, List.set_cons_zero, List.set_cons_succ]
  refine WE.call (d := some 64) rfl rfl (by rfl) (f := 24) (args := #[(.slice A n c), (.slice A' n' c')]) (by go_simp) ?_
  refine (rcmp_l NA.out NB.out (z := (-1)) HZ.out).mono ?_
  rintro e wn ⟨rfl, hb⟩
  refine ⟨_, rfl, hb, ?_⟩
  replace E := hid (E.out.trans hb)
  replace NA := hid (NA.out.up hb)
  replace NB := hid (NB.out.up hb)
  clear hb
  simp only [Act.put, List.setIfInBounds_toArray, List.set_cons_zero, List.set_cons_succ]
  refine WE.pure (d := some 65) rfl rfl (by rfl) (v := (.bool true)) (fun w' hk => ?_) ?_
  · go_simp
  simp only [Act.put, List.setIfInBounds_toArray, List.set_cons_zero, List.set_cons_succ]
  refine WE.pure (d := some 4) rfl rfl (by rfl) (v := (.bool true)) (fun w' hk => ?_) ?_
  · go_simp
  simp only [Act.put, List.setIfInBounds_toArray, List.set_cons_zero, List.set_cons_succ]
  refine WE.done ?_
  go_wp2
  go_ret
  exact ⟨rfl, E.out⟩

end Go.Proofs.YthlafkbldlmmaaaDoor
