/-
  DigitsBack, its shorter walks and its drawn statement.
-/
import Derived.Test.YthlafkbldlmmaaaDoorTLaid
import Derived.Test.YthlafkbldlmmaaaDoorTBackM
import Derived.Test.YthlafkbldlmmaaaDoorRZA
import Derived.Deep.RegionWith
namespace Go.Proofs.YthlafkbldlmmaaaDoor
open Go.ChangeShapes Go.WideShapes Go.ChangeAt Go.RowKit
set_option linter.unusedSimpArgs false
set_option linter.unusedVariables false

theorem region_via {P : Program} {c : Code} {Q : Exit → Act → World → Prop} {a : Act} {w : World} (R : Act → Act → World → Prop) (h : c.wp P (fun e a' w' => match e with | .normal => Hid (R a a' w') | _ => False) a w) (hq : ∀ a' w', R a a' w' → Q .normal a' w') : c.wp P Q a w :=
  wp_mono h fun e a' w' hh => by cases e <;> first | exact hq _ _ hh | exact hh.elim

set_option maxRecDepth 100000 in
set_option maxHeartbeats 1000000 in
theorem digitsBack_skip0 (W : World) (ht : Tab W) (g : Bool) (A : Option Addr) (n c : Nat) (l : List Nat) (h : Num W W.heap.size (.slice A n c) l) (d : Int) (hd0 : 0 ≤ d) (f1 : Hid (decide (20 < (n : Int)) = true)) :
    Calls Tryd.prog 4 #[.agg #[.bool g, .slice A n c], .int .u8 d] W (fun e w' => e = .returned (.bool true) ∧ Ext W w') := by
  have HT := hid ht
  have NA := hid h
  have HD0 := hid hd0
  clear ht h hd0
  go_enter Tryd.func4, Tryd.ntmps4
  go_upto_region 1 with (fail)
  have E := hid ((Ext.refl W).alloc' (.cells #[.bool g, .slice A n c] 24))
  have B : Hid (Box (W.alloc (.cells #[.bool g, .slice A n c] 24)) (W.heap.size) #[.bool g, .slice A n c] 24) := hid (Box.at_ (w := W) #[.bool g, .slice A n c] 24 (by simp))
  replace NA := hid (NA.out.up E.out)
  refine wp_region_T [(0, 1), (1, 0)] (by kernel_rfl) fun wd hb => ?_
  replace E := hid (E.out.trans hb)
  replace B := hid (B.out.up hb)
  replace NA := hid (NA.out.up hb)
  clear hb
  refine WE.call (d := some 14) rfl rfl (by rfl) (f := 8) (args := #[]) (by go_simp) ?_
  refine (known3 _ (HT.out.up E.out)).mono ?_
  rintro e wn ⟨rfl, hb⟩
  refine ⟨_, rfl, hb, ?_⟩
  replace E := hid (E.out.trans hb)
  replace B := hid (B.out.up hb)
  replace NA := hid (NA.out.up hb)
  clear hb
  simp only [Act.put, List.setIfInBounds_toArray, List.set_cons_zero, List.set_cons_succ]
  refine WE.pure (d := some 15) rfl rfl (by rfl) (v := (.bool false)) (fun w' hk => ?_) ?_
  · go_simp
  simp only [Act.put, List.setIfInBounds_toArray, List.set_cons_zero, List.set_cons_succ]
  refine WE.done ?_
  go_upto_region 3 with (fail)
  refine wp_region_T [(0, 0), (1, 0), (2, 0), (3, 0), (4, 0), (5, 0), (6, 1), (7, 0), (8, 0)] (by kernel_rfl) fun wd hb => ?_
  replace E := hid (E.out.trans hb)
  replace B := hid (B.out.up hb)
  replace NA := hid (NA.out.up hb)
  clear hb
  refine WE.pure (d := some 16) rfl rfl (by rfl) (v := (.pointer (some ⟨(W.heap.size), 1, none⟩))) (fun w' hk => ?_) ?_
  · go_simp
  simp only [Act.put, List.setIfInBounds_toArray, List.set_cons_zero, List.set_cons_succ]
  refine WE.pure (d := some 17) rfl rfl (by rfl) (v := (.slice A n c)) (fun w' hk => ?_) ?_
  · have c1 := hk.cell (B.out.cell (o := 1) (v := .slice A n c) rfl); go_simp
  simp only [Act.put, List.setIfInBounds_toArray, List.set_cons_zero, List.set_cons_succ]
  refine WE.pure (d := some 18) rfl rfl (by rfl) (v := (.int .i64 (n : Int))) (fun w' hk => ?_) ?_
  · go_simp
  simp only [Act.put, List.setIfInBounds_toArray, List.set_cons_zero, List.set_cons_succ]
  refine WE.pure (d := some 19) rfl rfl (by rfl) (v := (.bool true)) (fun w' hk => ?_) ?_
  · have q := f1.out; go_simp
  simp only [Act.put, List.setIfInBounds_toArray, List.set_cons_zero, List.set_cons_succ]
  refine WE.pure (d := some 20) rfl rfl (by rfl) (v := (.bool true)) (fun w' hk => ?_) ?_
  · go_simp
  simp only [Act.put, List.setIfInBounds_toArray, List.set_cons_zero, List.set_cons_succ]
  refine WE.skip (d := some 21) rfl rfl (by rfl) ?_
  simp only [Act.put, List.setIfInBounds_toArray, List.set_cons_zero, List.set_cons_succ]
  refine WE.pass (d := some 22) rfl rfl (by rfl) ?_
  simp only [Act.put, List.setIfInBounds_toArray, List.set_cons_zero, List.set_cons_succ]
  refine WE.skip (d := some 23) rfl rfl (by rfl) ?_
  simp only [Act.put, List.setIfInBounds_toArray, List.set_cons_zero, List.set_cons_succ]
  refine WE.pure (d := some 24) rfl rfl (by rfl) (v := (.bool true)) (fun w' hk => ?_) ?_
  · go_simp
  simp only [Act.put, List.setIfInBounds_toArray, List.set_cons_zero, List.set_cons_succ]
  refine WE.done ?_
  go_wp2
  go_ret
  exact ⟨rfl, E.out⟩

set_option maxRecDepth 100000 in
set_option maxHeartbeats 1000000 in
theorem digitsBack_skip1 (W : World) (ht : Tab W) (g : Bool) (A : Option Addr) (n c : Nat) (l : List Nat) (h : Num W W.heap.size (.slice A n c) l) (d : Int) (hd0 : 0 ≤ d) (f1 : Hid (decide (20 < (n : Int)) = false)) (f2 : Hid (M.isZ g l = false)) :
    Calls Tryd.prog 4 #[.agg #[.bool g, .slice A n c], .int .u8 d] W (fun e w' => e = .returned (.bool true) ∧ Ext W w') := by
  have HT := hid ht
  have NA := hid h
  have HD0 := hid hd0
  clear ht h hd0
  go_enter Tryd.func4, Tryd.ntmps4
  go_upto_region 1 with (fail)
  have E := hid ((Ext.refl W).alloc' (.cells #[.bool g, .slice A n c] 24))
  have B : Hid (Box (W.alloc (.cells #[.bool g, .slice A n c] 24)) (W.heap.size) #[.bool g, .slice A n c] 24) := hid (Box.at_ (w := W) #[.bool g, .slice A n c] 24 (by simp))
  replace NA := hid (NA.out.up E.out)
  refine wp_region_T [(0, 1), (1, 0)] (by kernel_rfl) fun wd hb => ?_
  replace E := hid (E.out.trans hb)
  replace B := hid (B.out.up hb)
  replace NA := hid (NA.out.up hb)
  clear hb
  refine WE.call (d := some 14) rfl rfl (by rfl) (f := 8) (args := #[]) (by go_simp) ?_
  refine (known3 _ (HT.out.up E.out)).mono ?_
  rintro e wn ⟨rfl, hb⟩
  refine ⟨_, rfl, hb, ?_⟩
  replace E := hid (E.out.trans hb)
  replace B := hid (B.out.up hb)
  replace NA := hid (NA.out.up hb)
  clear hb
  simp only [Act.put, List.setIfInBounds_toArray, List.set_cons_zero, List.set_cons_succ]
  refine WE.pure (d := some 15) rfl rfl (by rfl) (v := (.bool false)) (fun w' hk => ?_) ?_
  · go_simp
  simp only [Act.put, List.setIfInBounds_toArray, List.set_cons_zero, List.set_cons_succ]
  refine WE.done ?_
  go_upto_region 3 with (fail)
  refine wp_region_T [(0, 0), (1, 0), (2, 0), (3, 0), (4, 0), (5, 0), (6, 1), (7, 0), (8, 0)] (by kernel_rfl) fun wd hb => ?_
  replace E := hid (E.out.trans hb)
  replace B := hid (B.out.up hb)
  replace NA := hid (NA.out.up hb)
  clear hb
  refine WE.pure (d := some 16) rfl rfl (by rfl) (v := (.pointer (some ⟨(W.heap.size), 1, none⟩))) (fun w' hk => ?_) ?_
  · go_simp
  simp only [Act.put, List.setIfInBounds_toArray, List.set_cons_zero, List.set_cons_succ]
  refine WE.pure (d := some 17) rfl rfl (by rfl) (v := (.slice A n c)) (fun w' hk => ?_) ?_
  · have c1 := hk.cell (B.out.cell (o := 1) (v := .slice A n c) rfl); go_simp
  simp only [Act.put, List.setIfInBounds_toArray, List.set_cons_zero, List.set_cons_succ]
  refine WE.pure (d := some 18) rfl rfl (by rfl) (v := (.int .i64 (n : Int))) (fun w' hk => ?_) ?_
  · go_simp
  simp only [Act.put, List.setIfInBounds_toArray, List.set_cons_zero, List.set_cons_succ]
  refine WE.pure (d := some 19) rfl rfl (by rfl) (v := (.bool false)) (fun w' hk => ?_) ?_
  · have q := f1.out; go_simp
  simp only [Act.put, List.setIfInBounds_toArray, List.set_cons_zero, List.set_cons_succ]
  refine WE.pure (d := some 20) rfl rfl (by rfl) (v := (.bool false)) (fun w' hk => ?_) ?_
  · go_simp
  simp only [Act.put, List.setIfInBounds_toArray, List.set_cons_zero, List.set_cons_succ]
  refine WE.pure (d := some 21) rfl rfl (by rfl) (v := (.agg #[.bool g, .slice A n c])) (fun w' hk => ?_) ?_
  · have c0 := hk.cell (B.out.cell (o := 0) (v := .bool g) rfl); have c1 := hk.cell (B.out.cell (o := 1) (v := .slice A n c) rfl); go_simp
  simp only [Act.put, List.setIfInBounds_toArray, List.set_cons_zero, List.set_cons_succ]
  refine WE.call (d := some 22) rfl rfl (by rfl) (f := 18) (args := #[(.agg #[.bool g, .slice A n c])]) (by go_simp) ?_
  refine (rzIs_any NA.out f2.out).mono ?_
  rintro e wn ⟨rfl, hb⟩
  refine ⟨_, rfl, hb, ?_⟩
  replace E := hid (E.out.trans hb)
  replace B := hid (B.out.up hb)
  replace NA := hid (NA.out.up hb)
  clear hb
  simp only [Act.put, List.setIfInBounds_toArray, List.set_cons_zero, List.set_cons_succ]
  refine WE.pure (d := some 23) rfl rfl (by rfl) (v := (.bool true)) (fun w' hk => ?_) ?_
  · go_simp
  simp only [Act.put, List.setIfInBounds_toArray, List.set_cons_zero, List.set_cons_succ]
  refine WE.pure (d := some 24) rfl rfl (by rfl) (v := (.bool true)) (fun w' hk => ?_) ?_
  · go_simp
  simp only [Act.put, List.setIfInBounds_toArray, List.set_cons_zero, List.set_cons_succ]
  refine WE.done ?_
  go_wp2
  go_ret
  exact ⟨rfl, E.out⟩

end Go.Proofs.YthlafkbldlmmaaaDoor
