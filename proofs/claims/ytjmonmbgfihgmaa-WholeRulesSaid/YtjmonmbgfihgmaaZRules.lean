/-
  WholeRules: whatever three integers, or what is none: true, and the input reads as it did. No conditions.
-/
import Derived.Test.YtjmonmbgfihgmaaZKnown
namespace Go.Proofs.Ytjmonmbgfihgmaa
open Go.ChangeShapes Go.WideShapes Go.ChangeAt Go.RowKit
set_option linter.unusedSimpArgs false
set_option linter.unusedVariables false

set_option maxRecDepth 100000 in
set_option maxHeartbeats 1000000 in
theorem wholeRules_skip0 (W : World) (ga : Bool) (Aa : Option Addr) (na ca : Nat) (la : List Nat) (ha : Num W W.heap.size (.slice Aa na ca) la) (gb : Bool) (Ab : Option Addr) (nb cb : Nat) (lb : List Nat) (hb : Num W W.heap.size (.slice Ab nb cb) lb) (gc : Bool) (Ac : Option Addr) (nc cc : Nat) (lc : List Nat) (hc : Num W W.heap.size (.slice Ac nc cc) lc) (fa : Hid (decide (la.length ≤ 8) = false)) :
    Calls Try.prog 4 #[.agg #[.bool ga, .slice Aa na ca], .agg #[.bool gb, .slice Ab nb cb], .agg #[.bool gc, .slice Ac nc cc]] W (fun e w' => e = .returned (.bool true) ∧ Ext W w') := by
  have Na := hid ha
  have Nb := hid hb
  have Nc := hid hc
  clear ha hb hc
  go_enter Try.func4, Try.ntmps4
  go_upto_region 1 with (fail)
  have E := hid ((((Ext.refl W).alloc' (.cells #[.bool ga, .slice Aa na ca] 24)).alloc' (.cells #[.bool gb, .slice Ab nb cb] 24)).alloc' (.cells #[.bool gc, .slice Ac nc cc] 24))
  have Ba : Hid (Box (((W.alloc (.cells #[.bool ga, .slice Aa na ca] 24)).alloc (.cells #[.bool gb, .slice Ab nb cb] 24)).alloc (.cells #[.bool gc, .slice Ac nc cc] 24)) (W.heap.size) #[.bool ga, .slice Aa na ca] 24) := hid (((Box.at_ (w := W) #[.bool ga, .slice Aa na ca] 24 (by simp)).alloc (.cells #[.bool gb, .slice Ab nb cb] 24)).alloc (.cells #[.bool gc, .slice Ac nc cc] 24))
  have Bb : Hid (Box (((W.alloc (.cells #[.bool ga, .slice Aa na ca] 24)).alloc (.cells #[.bool gb, .slice Ab nb cb] 24)).alloc (.cells #[.bool gc, .slice Ac nc cc] 24)) (W.heap.size + 1) #[.bool gb, .slice Ab nb cb] 24) := hid ((Box.at_ (w := (W.alloc (.cells #[.bool ga, .slice Aa na ca] 24))) #[.bool gb, .slice Ab nb cb] 24 (by simp)).alloc (.cells #[.bool gc, .slice Ac nc cc] 24))
  have Bc : Hid (Box (((W.alloc (.cells #[.bool ga, .slice Aa na ca] 24)).alloc (.cells #[.bool gb, .slice Ab nb cb] 24)).alloc (.cells #[.bool gc, .slice Ac nc cc] 24)) (W.heap.size + 2) #[.bool gc, .slice Ac nc cc] 24) := hid (Box.at_ (w := ((W.alloc (.cells #[.bool ga, .slice Aa na ca] 24)).alloc (.cells #[.bool gb, .slice Ab nb cb] 24))) #[.bool gc, .slice Ac nc cc] 24 (by simp))
  replace Na := hid (Na.out.up E.out)
  replace Nb := hid (Nb.out.up E.out)
  replace Nc := hid (Nc.out.up E.out)
  go_upto_region 1 with (fail)
  refine wp_region_T [(0, 1), (1, 0)] (by kernel_rfl) fun wd hb => ?_
  replace E := hid (E.out.trans hb)
  replace Ba := hid (Ba.out.up hb)
  replace Bb := hid (Bb.out.up hb)
  replace Bc := hid (Bc.out.up hb)
  replace Na := hid (Na.out.up hb)
  replace Nb := hid (Nb.out.up hb)
  replace Nc := hid (Nc.out.up hb)
  clear hb
  refine WE.call (d := some 9) rfl rfl (by rfl) (f := 11) (args := #[]) (by go_simp) ?_
  refine (known2 _).mono ?_
  rintro e wn ⟨rfl, hb⟩
  refine ⟨_, rfl, hb, ?_⟩
  replace E := hid (E.out.trans hb)
  replace Ba := hid (Ba.out.up hb)
  replace Bb := hid (Bb.out.up hb)
  replace Bc := hid (Bc.out.up hb)
  replace Na := hid (Na.out.up hb)
  replace Nb := hid (Nb.out.up hb)
  replace Nc := hid (Nc.out.up hb)
  clear hb
  simp only [Act.put, List.setIfInBounds_toArray, List.set_cons_zero, List.set_cons_succ]
  refine WE.pure (d := some 10) rfl rfl (by rfl) (v := (.bool false)) (fun w' hk => ?_) ?_
  · go_simp
  simp only [Act.put, List.setIfInBounds_toArray, List.set_cons_zero, List.set_cons_succ]
  refine WE.done ?_
  go_upto_region 3 with (fail)
  refine wp_region_T [(0, 0), (1, 1), (2, 0), (3, 0), (4, 0), (5, 1), (6, 0), (7, 0), (8, 0), (9, 0), (10, 1), (11, 0), (12, 0), (13, 0), (14, 0), (15, 1), (16, 0), (17, 0), (18, 0), (19, 0), (20, 1), (21, 0), (22, 0), (23, 0), (24, 0), (25, 1), (26, 0), (27, 0)] (by kernel_rfl) fun wd hb => ?_
  replace E := hid (E.out.trans hb)
  replace Ba := hid (Ba.out.up hb)
  replace Bb := hid (Bb.out.up hb)
  replace Bc := hid (Bc.out.up hb)
  replace Na := hid (Na.out.up hb)
  replace Nb := hid (Nb.out.up hb)
  replace Nc := hid (Nc.out.up hb)
  clear hb
  refine WE.pure (d := some 11) rfl rfl (by rfl) (v := (.agg #[.bool ga, .slice Aa na ca])) (fun w' hk => ?_) ?_
  · have c0 := hk.cell (Ba.out.cell (o := 0) (v := .bool ga) rfl); have c1 := hk.cell (Ba.out.cell (o := 1) (v := .slice Aa na ca) rfl); go_simp
  simp only [Act.put, List.setIfInBounds_toArray, List.set_cons_zero, List.set_cons_succ]
  refine WE.call (d := some 12) rfl rfl (by rfl) (f := 12) (args := #[(.agg #[.bool ga, .slice Aa na ca])]) (by go_simp) ?_
  refine (few_z Na.out fa.out).mono ?_
  rintro e wn ⟨rfl, hb⟩
  refine ⟨_, rfl, hb, ?_⟩
  replace E := hid (E.out.trans hb)
  replace Ba := hid (Ba.out.up hb)
  replace Bb := hid (Bb.out.up hb)
  replace Bc := hid (Bc.out.up hb)
  replace Na := hid (Na.out.up hb)
  replace Nb := hid (Nb.out.up hb)
  replace Nc := hid (Nc.out.up hb)
  clear hb
  simp only [Act.put, List.setIfInBounds_toArray, List.set_cons_zero, List.set_cons_succ]
  refine WE.pure (d := some 13) rfl rfl (by rfl) (v := (.bool true)) (fun w' hk => ?_) ?_
  · go_simp
  simp only [Act.put, List.setIfInBounds_toArray, List.set_cons_zero, List.set_cons_succ]
  refine WE.pure (d := some 14) rfl rfl (by rfl) (v := (.bool true)) (fun w' hk => ?_) ?_
  · go_simp
  simp only [Act.put, List.setIfInBounds_toArray, List.set_cons_zero, List.set_cons_succ]
  refine WE.skip (d := some 15) rfl rfl (by rfl) ?_
  simp only [Act.put, List.setIfInBounds_toArray, List.set_cons_zero, List.set_cons_succ]
  refine WE.pass (d := some 16) rfl rfl (by rfl) ?_
  simp only [Act.put, List.setIfInBounds_toArray, List.set_cons_zero, List.set_cons_succ]
  refine WE.skip (d := some 17) rfl rfl (by rfl) ?_
  simp only [Act.put, List.setIfInBounds_toArray, List.set_cons_zero, List.set_cons_succ]
  refine WE.pure (d := some 18) rfl rfl (by rfl) (v := (.bool true)) (fun w' hk => ?_) ?_
  · go_simp
  simp only [Act.put, List.setIfInBounds_toArray, List.set_cons_zero, List.set_cons_succ]
  refine WE.pure (d := some 19) rfl rfl (by rfl) (v := (.bool true)) (fun w' hk => ?_) ?_
  · go_simp
  simp only [Act.put, List.setIfInBounds_toArray, List.set_cons_zero, List.set_cons_succ]
  refine WE.skip (d := some 20) rfl rfl (by rfl) ?_
  simp only [Act.put, List.setIfInBounds_toArray, List.set_cons_zero, List.set_cons_succ]
  refine WE.pass (d := some 21) rfl rfl (by rfl) ?_
  simp only [Act.put, List.setIfInBounds_toArray, List.set_cons_zero, List.set_cons_succ]
  refine WE.skip (d := some 22) rfl rfl (by rfl) ?_
  simp only [Act.put, List.setIfInBounds_toArray, List.set_cons_zero, List.set_cons_succ]
  refine WE.pure (d := some 23) rfl rfl (by rfl) (v := (.bool true)) (fun w' hk => ?_) ?_
  · go_simp
  simp only [Act.put, List.setIfInBounds_toArray, List.set_cons_zero, List.set_cons_succ]
  refine WE.pure (d := some 24) rfl rfl (by rfl) (v := (.bool true)) (fun w' hk => ?_) ?_
  · go_simp
  simp only [Act.put, List.setIfInBounds_toArray, List.set_cons_zero, List.set_cons_succ]
  refine WE.skip (d := some 25) rfl rfl (by rfl) ?_
  simp only [Act.put, List.setIfInBounds_toArray, List.set_cons_zero, List.set_cons_succ]
  refine WE.pass (d := some 26) rfl rfl (by rfl) ?_
  simp only [Act.put, List.setIfInBounds_toArray, List.set_cons_zero, List.set_cons_succ]
  refine WE.skip (d := some 27) rfl rfl (by rfl) ?_
  simp only [Act.put, List.setIfInBounds_toArray, List.set_cons_zero, List.set_cons_succ]
  refine WE.pure (d := some 28) rfl rfl (by rfl) (v := (.bool true)) (fun w' hk => ?_) ?_
  · go_simp
  simp only [Act.put, List.setIfInBounds_toArray, List.set_cons_zero, List.set_cons_succ]
  refine WE.pure (d := some 29) rfl rfl (by rfl) (v := (.bool true)) (fun w' hk => ?_) ?_
  · go_simp
  simp only [Act.put, List.setIfInBounds_toArray, List.set_cons_zero, List.set_cons_succ]
  refine WE.skip (d := some 30) rfl rfl (by rfl) ?_
  simp only [Act.put, List.setIfInBounds_toArray, List.set_cons_zero, List.set_cons_succ]
  refine WE.pass (d := some 31) rfl rfl (by rfl) ?_
  simp only [Act.put, List.setIfInBounds_toArray, List.set_cons_zero, List.set_cons_succ]
  refine WE.skip (d := some 32) rfl rfl (by rfl) ?_
  simp only [Act.put, List.setIfInBounds_toArray, List.set_cons_zero, List.set_cons_succ]
  refine WE.pure (d := some 33) rfl rfl (by rfl) (v := (.bool true)) (fun w' hk => ?_) ?_
  · go_simp
  simp only [Act.put, List.setIfInBounds_toArray, List.set_cons_zero, List.set_cons_succ]
  refine WE.pure (d := some 34) rfl rfl (by rfl) (v := (.bool true)) (fun w' hk => ?_) ?_
  · go_simp
  simp only [Act.put, List.setIfInBounds_toArray, List.set_cons_zero, List.set_cons_succ]
  refine WE.skip (d := some 35) rfl rfl (by rfl) ?_
  simp only [Act.put, List.setIfInBounds_toArray, List.set_cons_zero, List.set_cons_succ]
  refine WE.pass (d := some 36) rfl rfl (by rfl) ?_
  simp only [Act.put, List.setIfInBounds_toArray, List.set_cons_zero, List.set_cons_succ]
  refine WE.skip (d := some 37) rfl rfl (by rfl) ?_
  simp only [Act.put, List.setIfInBounds_toArray, List.set_cons_zero, List.set_cons_succ]
  refine WE.pure (d := some 38) rfl rfl (by rfl) (v := (.bool true)) (fun w' hk => ?_) ?_
  · go_simp
  simp only [Act.put, List.setIfInBounds_toArray, List.set_cons_zero, List.set_cons_succ]
  refine WE.done ?_
  go_wp2
  go_ret
  exact ⟨rfl, E.out⟩

set_option maxRecDepth 100000 in
set_option maxHeartbeats 1000000 in
theorem wholeRules_skip1 (W : World) (ga : Bool) (Aa : Option Addr) (na ca : Nat) (la : List Nat) (ha : Num W W.heap.size (.slice Aa na ca) la) (gb : Bool) (Ab : Option Addr) (nb cb : Nat) (lb : List Nat) (hb : Num W W.heap.size (.slice Ab nb cb) lb) (gc : Bool) (Ac : Option Addr) (nc cc : Nat) (lc : List Nat) (hc : Num W W.heap.size (.slice Ac nc cc) lc) (fa : Hid (decide (la.length ≤ 8) = true)) (fb : Hid (decide (lb.length ≤ 8) = false)) :
    Calls Try.prog 4 #[.agg #[.bool ga, .slice Aa na ca], .agg #[.bool gb, .slice Ab nb cb], .agg #[.bool gc, .slice Ac nc cc]] W (fun e w' => e = .returned (.bool true) ∧ Ext W w') := by
  have Na := hid ha
  have Nb := hid hb
  have Nc := hid hc
  clear ha hb hc
  go_enter Try.func4, Try.ntmps4
  go_upto_region 1 with (fail)
  have E := hid ((((Ext.refl W).alloc' (.cells #[.bool ga, .slice Aa na ca] 24)).alloc' (.cells #[.bool gb, .slice Ab nb cb] 24)).alloc' (.cells #[.bool gc, .slice Ac nc cc] 24))
  have Ba : Hid (Box (((W.alloc (.cells #[.bool ga, .slice Aa na ca] 24)).alloc (.cells #[.bool gb, .slice Ab nb cb] 24)).alloc (.cells #[.bool gc, .slice Ac nc cc] 24)) (W.heap.size) #[.bool ga, .slice Aa na ca] 24) := hid (((Box.at_ (w := W) #[.bool ga, .slice Aa na ca] 24 (by simp)).alloc (.cells #[.bool gb, .slice Ab nb cb] 24)).alloc (.cells #[.bool gc, .slice Ac nc cc] 24))
  have Bb : Hid (Box (((W.alloc (.cells #[.bool ga, .slice Aa na ca] 24)).alloc (.cells #[.bool gb, .slice Ab nb cb] 24)).alloc (.cells #[.bool gc, .slice Ac nc cc] 24)) (W.heap.size + 1) #[.bool gb, .slice Ab nb cb] 24) := hid ((Box.at_ (w := (W.alloc (.cells #[.bool ga, .slice Aa na ca] 24))) #[.bool gb, .slice Ab nb cb] 24 (by simp)).alloc (.cells #[.bool gc, .slice Ac nc cc] 24))
  have Bc : Hid (Box (((W.alloc (.cells #[.bool ga, .slice Aa na ca] 24)).alloc (.cells #[.bool gb, .slice Ab nb cb] 24)).alloc (.cells #[.bool gc, .slice Ac nc cc] 24)) (W.heap.size + 2) #[.bool gc, .slice Ac nc cc] 24) := hid (Box.at_ (w := ((W.alloc (.cells #[.bool ga, .slice Aa na ca] 24)).alloc (.cells #[.bool gb, .slice Ab nb cb] 24))) #[.bool gc, .slice Ac nc cc] 24 (by simp))
  replace Na := hid (Na.out.up E.out)
  replace Nb := hid (Nb.out.up E.out)
  replace Nc := hid (Nc.out.up E.out)
  go_upto_region 1 with (fail)
  refine wp_region_T [(0, 1), (1, 0)] (by kernel_rfl) fun wd hb => ?_
  replace E := hid (E.out.trans hb)
  replace Ba := hid (Ba.out.up hb)
  replace Bb := hid (Bb.out.up hb)
  replace Bc := hid (Bc.out.up hb)
  replace Na := hid (Na.out.up hb)
  replace Nb := hid (Nb.out.up hb)
  replace Nc := hid (Nc.out.up hb)
  clear hb
  refine WE.call (d := some 9) rfl rfl (by rfl) (f := 11) (args := #[]) (by go_simp) ?_
  refine (known2 _).mono ?_
  rintro e wn ⟨rfl, hb⟩
  refine ⟨_, rfl, hb, ?_⟩
  replace E := hid (E.out.trans hb)
  replace Ba := hid (Ba.out.up hb)
  replace Bb := hid (Bb.out.up hb)
  replace Bc := hid (Bc.out.up hb)
  replace Na := hid (Na.out.up hb)
  replace Nb := hid (Nb.out.up hb)
  replace Nc := hid (Nc.out.up hb)
  clear hb
  simp only [Act.put, List.setIfInBounds_toArray, List.set_cons_zero, List.set_cons_succ]
  refine WE.pure (d := some 10) rfl rfl (by rfl) (v := (.bool false)) (fun w' hk => ?_) ?_
  · go_simp
  simp only [Act.put, List.setIfInBounds_toArray, List.set_cons_zero, List.set_cons_succ]
  refine WE.done ?_
  go_upto_region 3 with (fail)
  refine wp_region_T [(0, 0), (1, 1), (2, 0), (3, 0), (4, 0), (5, 1), (6, 0), (7, 0), (8, 0), (9, 0), (10, 1), (11, 0), (12, 0), (13, 0), (14, 0), (15, 1), (16, 0), (17, 0), (18, 0), (19, 0), (20, 1), (21, 0), (22, 0), (23, 0), (24, 0), (25, 1), (26, 0), (27, 0)] (by kernel_rfl) fun wd hb => ?_
  replace E := hid (E.out.trans hb)
  replace Ba := hid (Ba.out.up hb)
  replace Bb := hid (Bb.out.up hb)
  replace Bc := hid (Bc.out.up hb)
  replace Na := hid (Na.out.up hb)
  replace Nb := hid (Nb.out.up hb)
  replace Nc := hid (Nc.out.up hb)
  clear hb
  refine WE.pure (d := some 11) rfl rfl (by rfl) (v := (.agg #[.bool ga, .slice Aa na ca])) (fun w' hk => ?_) ?_
  · have c0 := hk.cell (Ba.out.cell (o := 0) (v := .bool ga) rfl); have c1 := hk.cell (Ba.out.cell (o := 1) (v := .slice Aa na ca) rfl); go_simp
  simp only [Act.put, List.setIfInBounds_toArray, List.set_cons_zero, List.set_cons_succ]
  refine WE.call (d := some 12) rfl rfl (by rfl) (f := 12) (args := #[(.agg #[.bool ga, .slice Aa na ca])]) (by go_simp) ?_
  refine (few_z Na.out fa.out).mono ?_
  rintro e wn ⟨rfl, hb⟩
  refine ⟨_, rfl, hb, ?_⟩
  replace E := hid (E.out.trans hb)
  replace Ba := hid (Ba.out.up hb)
  replace Bb := hid (Bb.out.up hb)
  replace Bc := hid (Bc.out.up hb)
  replace Na := hid (Na.out.up hb)
  replace Nb := hid (Nb.out.up hb)
  replace Nc := hid (Nc.out.up hb)
  clear hb
  simp only [Act.put, List.setIfInBounds_toArray, List.set_cons_zero, List.set_cons_succ]
  refine WE.pure (d := some 13) rfl rfl (by rfl) (v := (.bool false)) (fun w' hk => ?_) ?_
  · go_simp
  simp only [Act.put, List.setIfInBounds_toArray, List.set_cons_zero, List.set_cons_succ]
  refine WE.pure (d := some 14) rfl rfl (by rfl) (v := (.bool false)) (fun w' hk => ?_) ?_
  · go_simp
  simp only [Act.put, List.setIfInBounds_toArray, List.set_cons_zero, List.set_cons_succ]
  refine WE.pure (d := some 15) rfl rfl (by rfl) (v := (.agg #[.bool gb, .slice Ab nb cb])) (fun w' hk => ?_) ?_
  · have c0 := hk.cell (Bb.out.cell (o := 0) (v := .bool gb) rfl); have c1 := hk.cell (Bb.out.cell (o := 1) (v := .slice Ab nb cb) rfl); go_simp
  simp only [Act.put, List.setIfInBounds_toArray, List.set_cons_zero, List.set_cons_succ]
  refine WE.call (d := some 16) rfl rfl (by rfl) (f := 12) (args := #[(.agg #[.bool gb, .slice Ab nb cb])]) (by go_simp) ?_
  refine (few_z Nb.out fb.out).mono ?_
  rintro e wn ⟨rfl, hb⟩
  refine ⟨_, rfl, hb, ?_⟩
  replace E := hid (E.out.trans hb)
  replace Ba := hid (Ba.out.up hb)
  replace Bb := hid (Bb.out.up hb)
  replace Bc := hid (Bc.out.up hb)
  replace Na := hid (Na.out.up hb)
  replace Nb := hid (Nb.out.up hb)
  replace Nc := hid (Nc.out.up hb)
  clear hb
  simp only [Act.put, List.setIfInBounds_toArray, List.set_cons_zero, List.set_cons_succ]
  refine WE.pure (d := some 17) rfl rfl (by rfl) (v := (.bool true)) (fun w' hk => ?_) ?_
  · go_simp
  simp only [Act.put, List.setIfInBounds_toArray, List.set_cons_zero, List.set_cons_succ]
  refine WE.pure (d := some 18) rfl rfl (by rfl) (v := (.bool true)) (fun w' hk => ?_) ?_
  · go_simp
  simp only [Act.put, List.setIfInBounds_toArray, List.set_cons_zero, List.set_cons_succ]
  refine WE.pure (d := some 19) rfl rfl (by rfl) (v := (.bool true)) (fun w' hk => ?_) ?_
  · go_simp
  simp only [Act.put, List.setIfInBounds_toArray, List.set_cons_zero, List.set_cons_succ]
  refine WE.skip (d := some 20) rfl rfl (by rfl) ?_
  simp only [Act.put, List.setIfInBounds_toArray, List.set_cons_zero, List.set_cons_succ]
  refine WE.pass (d := some 21) rfl rfl (by rfl) ?_
  simp only [Act.put, List.setIfInBounds_toArray, List.set_cons_zero, List.set_cons_succ]
  refine WE.skip (d := some 22) rfl rfl (by rfl) ?_
  simp only [Act.put, List.setIfInBounds_toArray, List.set_cons_zero, List.set_cons_succ]
  refine WE.pure (d := some 23) rfl rfl (by rfl) (v := (.bool true)) (fun w' hk => ?_) ?_
  · go_simp
  simp only [Act.put, List.setIfInBounds_toArray, List.set_cons_zero, List.set_cons_succ]
  refine WE.pure (d := some 24) rfl rfl (by rfl) (v := (.bool true)) (fun w' hk => ?_) ?_
  · go_simp
  simp only [Act.put, List.setIfInBounds_toArray, List.set_cons_zero, List.set_cons_succ]
  refine WE.skip (d := some 25) rfl rfl (by rfl) ?_
  simp only [Act.put, List.setIfInBounds_toArray, List.set_cons_zero, List.set_cons_succ]
  refine WE.pass (d := some 26) rfl rfl (by rfl) ?_
  simp only [Act.put, List.setIfInBounds_toArray, List.set_cons_zero, List.set_cons_succ]
  refine WE.skip (d := some 27) rfl rfl (by rfl) ?_
  simp only [Act.put, List.setIfInBounds_toArray, List.set_cons_zero, List.set_cons_succ]
  refine WE.pure (d := some 28) rfl rfl (by rfl) (v := (.bool true)) (fun w' hk => ?_) ?_
  · go_simp
  simp only [Act.put, List.setIfInBounds_toArray, List.set_cons_zero, List.set_cons_succ]
  refine WE.pure (d := some 29) rfl rfl (by rfl) (v := (.bool true)) (fun w' hk => ?_) ?_
  · go_simp
  simp only [Act.put, List.setIfInBounds_toArray, List.set_cons_zero, List.set_cons_succ]
  refine WE.skip (d := some 30) rfl rfl (by rfl) ?_
  simp only [Act.put, List.setIfInBounds_toArray, List.set_cons_zero, List.set_cons_succ]
  refine WE.pass (d := some 31) rfl rfl (by rfl) ?_
  simp only [Act.put, List.setIfInBounds_toArray, List.set_cons_zero, List.set_cons_succ]
  refine WE.skip (d := some 32) rfl rfl (by rfl) ?_
  simp only [Act.put, List.setIfInBounds_toArray, List.set_cons_zero, List.set_cons_succ]
  refine WE.pure (d := some 33) rfl rfl (by rfl) (v := (.bool true)) (fun w' hk => ?_) ?_
  · go_simp
  simp only [Act.put, List.setIfInBounds_toArray, List.set_cons_zero, List.set_cons_succ]
  refine WE.pure (d := some 34) rfl rfl (by rfl) (v := (.bool true)) (fun w' hk => ?_) ?_
  · go_simp
  simp only [Act.put, List.setIfInBounds_toArray, List.set_cons_zero, List.set_cons_succ]
  refine WE.skip (d := some 35) rfl rfl (by rfl) ?_
  simp only [Act.put, List.setIfInBounds_toArray, List.set_cons_zero, List.set_cons_succ]
  refine WE.pass (d := some 36) rfl rfl (by rfl) ?_
  simp only [Act.put, List.setIfInBounds_toArray, List.set_cons_zero, List.set_cons_succ]
  refine WE.skip (d := some 37) rfl rfl (by rfl) ?_
  simp only [Act.put, List.setIfInBounds_toArray, List.set_cons_zero, List.set_cons_succ]
  refine WE.pure (d := some 38) rfl rfl (by rfl) (v := (.bool true)) (fun w' hk => ?_) ?_
  · go_simp
  simp only [Act.put, List.setIfInBounds_toArray, List.set_cons_zero, List.set_cons_succ]
  refine WE.done ?_
  go_wp2
  go_ret
  exact ⟨rfl, E.out⟩

set_option maxRecDepth 100000 in
set_option maxHeartbeats 1000000 in
theorem wholeRules_skip2 (W : World) (ga : Bool) (Aa : Option Addr) (na ca : Nat) (la : List Nat) (ha : Num W W.heap.size (.slice Aa na ca) la) (gb : Bool) (Ab : Option Addr) (nb cb : Nat) (lb : List Nat) (hb : Num W W.heap.size (.slice Ab nb cb) lb) (gc : Bool) (Ac : Option Addr) (nc cc : Nat) (lc : List Nat) (hc : Num W W.heap.size (.slice Ac nc cc) lc) (fa : Hid (decide (la.length ≤ 8) = true)) (fb : Hid (decide (lb.length ≤ 8) = true)) (fc : Hid (decide (lc.length ≤ 8) = false)) :
    Calls Try.prog 4 #[.agg #[.bool ga, .slice Aa na ca], .agg #[.bool gb, .slice Ab nb cb], .agg #[.bool gc, .slice Ac nc cc]] W (fun e w' => e = .returned (.bool true) ∧ Ext W w') := by
  have Na := hid ha
  have Nb := hid hb
  have Nc := hid hc
  clear ha hb hc
  go_enter Try.func4, Try.ntmps4
  go_upto_region 1 with (fail)
  have E := hid ((((Ext.refl W).alloc' (.cells #[.bool ga, .slice Aa na ca] 24)).alloc' (.cells #[.bool gb, .slice Ab nb cb] 24)).alloc' (.cells #[.bool gc, .slice Ac nc cc] 24))
  have Ba : Hid (Box (((W.alloc (.cells #[.bool ga, .slice Aa na ca] 24)).alloc (.cells #[.bool gb, .slice Ab nb cb] 24)).alloc (.cells #[.bool gc, .slice Ac nc cc] 24)) (W.heap.size) #[.bool ga, .slice Aa na ca] 24) := hid (((Box.at_ (w := W) #[.bool ga, .slice Aa na ca] 24 (by simp)).alloc (.cells #[.bool gb, .slice Ab nb cb] 24)).alloc (.cells #[.bool gc, .slice Ac nc cc] 24))
  have Bb : Hid (Box (((W.alloc (.cells #[.bool ga, .slice Aa na ca] 24)).alloc (.cells #[.bool gb, .slice Ab nb cb] 24)).alloc (.cells #[.bool gc, .slice Ac nc cc] 24)) (W.heap.size + 1) #[.bool gb, .slice Ab nb cb] 24) := hid ((Box.at_ (w := (W.alloc (.cells #[.bool ga, .slice Aa na ca] 24))) #[.bool gb, .slice Ab nb cb] 24 (by simp)).alloc (.cells #[.bool gc, .slice Ac nc cc] 24))
  have Bc : Hid (Box (((W.alloc (.cells #[.bool ga, .slice Aa na ca] 24)).alloc (.cells #[.bool gb, .slice Ab nb cb] 24)).alloc (.cells #[.bool gc, .slice Ac nc cc] 24)) (W.heap.size + 2) #[.bool gc, .slice Ac nc cc] 24) := hid (Box.at_ (w := ((W.alloc (.cells #[.bool ga, .slice Aa na ca] 24)).alloc (.cells #[.bool gb, .slice Ab nb cb] 24))) #[.bool gc, .slice Ac nc cc] 24 (by simp))
  replace Na := hid (Na.out.up E.out)
  replace Nb := hid (Nb.out.up E.out)
  replace Nc := hid (Nc.out.up E.out)
  go_upto_region 1 with (fail)
  refine wp_region_T [(0, 1), (1, 0)] (by kernel_rfl) fun wd hb => ?_
  replace E := hid (E.out.trans hb)
  replace Ba := hid (Ba.out.up hb)
  replace Bb := hid (Bb.out.up hb)
  replace Bc := hid (Bc.out.up hb)
  replace Na := hid (Na.out.up hb)
  replace Nb := hid (Nb.out.up hb)
  replace Nc := hid (Nc.out.up hb)
  clear hb
  refine WE.call (d := some 9) rfl rfl (by rfl) (f := 11) (args := #[]) (by go_simp) ?_
  refine (known2 _).mono ?_
  rintro e wn ⟨rfl, hb⟩
  refine ⟨_, rfl, hb, ?_⟩
  replace E := hid (E.out.trans hb)
  replace Ba := hid (Ba.out.up hb)
  replace Bb := hid (Bb.out.up hb)
  replace Bc := hid (Bc.out.up hb)
  replace Na := hid (Na.out.up hb)
  replace Nb := hid (Nb.out.up hb)
  replace Nc := hid (Nc.out.up hb)
  clear hb
  simp only [Act.put, List.setIfInBounds_toArray, List.set_cons_zero, List.set_cons_succ]
  refine WE.pure (d := some 10) rfl rfl (by rfl) (v := (.bool false)) (fun w' hk => ?_) ?_
  · go_simp
  simp only [Act.put, List.setIfInBounds_toArray, List.set_cons_zero, List.set_cons_succ]
  refine WE.done ?_
  go_upto_region 3 with (fail)
  refine wp_region_T [(0, 0), (1, 1), (2, 0), (3, 0), (4, 0), (5, 1), (6, 0), (7, 0), (8, 0), (9, 0), (10, 1), (11, 0), (12, 0), (13, 0), (14, 0), (15, 1), (16, 0), (17, 0), (18, 0), (19, 0), (20, 1), (21, 0), (22, 0), (23, 0), (24, 0), (25, 1), (26, 0), (27, 0)] (by kernel_rfl) fun wd hb => ?_
  replace E := hid (E.out.trans hb)
  replace Ba := hid (Ba.out.up hb)
  replace Bb := hid (Bb.out.up hb)
  replace Bc := hid (Bc.out.up hb)
  replace Na := hid (Na.out.up hb)
  replace Nb := hid (Nb.out.up hb)
  replace Nc := hid (Nc.out.up hb)
  clear hb
  refine WE.pure (d := some 11) rfl rfl (by rfl) (v := (.agg #[.bool ga, .slice Aa na ca])) (fun w' hk => ?_) ?_
  · have c0 := hk.cell (Ba.out.cell (o := 0) (v := .bool ga) rfl); have c1 := hk.cell (Ba.out.cell (o := 1) (v := .slice Aa na ca) rfl); go_simp
  simp only [Act.put, List.setIfInBounds_toArray, List.set_cons_zero, List.set_cons_succ]
  refine WE.call (d := some 12) rfl rfl (by rfl) (f := 12) (args := #[(.agg #[.bool ga, .slice Aa na ca])]) (by go_simp) ?_
  refine (few_z Na.out fa.out).mono ?_
  rintro e wn ⟨rfl, hb⟩
  refine ⟨_, rfl, hb, ?_⟩
  replace E := hid (E.out.trans hb)
  replace Ba := hid (Ba.out.up hb)
  replace Bb := hid (Bb.out.up hb)
  replace Bc := hid (Bc.out.up hb)
  replace Na := hid (Na.out.up hb)
  replace Nb := hid (Nb.out.up hb)
  replace Nc := hid (Nc.out.up hb)
  clear hb
  simp only [Act.put, List.setIfInBounds_toArray, List.set_cons_zero, List.set_cons_succ]
  refine WE.pure (d := some 13) rfl rfl (by rfl) (v := (.bool false)) (fun w' hk => ?_) ?_
  · go_simp
  simp only [Act.put, List.setIfInBounds_toArray, List.set_cons_zero, List.set_cons_succ]
  refine WE.pure (d := some 14) rfl rfl (by rfl) (v := (.bool false)) (fun w' hk => ?_) ?_
  · go_simp
  simp only [Act.put, List.setIfInBounds_toArray, List.set_cons_zero, List.set_cons_succ]
  refine WE.pure (d := some 15) rfl rfl (by rfl) (v := (.agg #[.bool gb, .slice Ab nb cb])) (fun w' hk => ?_) ?_
  · have c0 := hk.cell (Bb.out.cell (o := 0) (v := .bool gb) rfl); have c1 := hk.cell (Bb.out.cell (o := 1) (v := .slice Ab nb cb) rfl); go_simp
  simp only [Act.put, List.setIfInBounds_toArray, List.set_cons_zero, List.set_cons_succ]
  refine WE.call (d := some 16) rfl rfl (by rfl) (f := 12) (args := #[(.agg #[.bool gb, .slice Ab nb cb])]) (by go_simp) ?_
  refine (few_z Nb.out fb.out).mono ?_
  rintro e wn ⟨rfl, hb⟩
  refine ⟨_, rfl, hb, ?_⟩
  replace E := hid (E.out.trans hb)
  replace Ba := hid (Ba.out.up hb)
  replace Bb := hid (Bb.out.up hb)
  replace Bc := hid (Bc.out.up hb)
  replace Na := hid (Na.out.up hb)
  replace Nb := hid (Nb.out.up hb)
  replace Nc := hid (Nc.out.up hb)
  clear hb
  simp only [Act.put, List.setIfInBounds_toArray, List.set_cons_zero, List.set_cons_succ]
  refine WE.pure (d := some 17) rfl rfl (by rfl) (v := (.bool false)) (fun w' hk => ?_) ?_
  · go_simp
  simp only [Act.put, List.setIfInBounds_toArray, List.set_cons_zero, List.set_cons_succ]
  refine WE.pure (d := some 18) rfl rfl (by rfl) (v := (.bool false)) (fun w' hk => ?_) ?_
  · go_simp
  simp only [Act.put, List.setIfInBounds_toArray, List.set_cons_zero, List.set_cons_succ]
  refine WE.pure (d := some 19) rfl rfl (by rfl) (v := (.bool false)) (fun w' hk => ?_) ?_
  · go_simp
  simp only [Act.put, List.setIfInBounds_toArray, List.set_cons_zero, List.set_cons_succ]
  refine WE.pure (d := some 20) rfl rfl (by rfl) (v := (.agg #[.bool gc, .slice Ac nc cc])) (fun w' hk => ?_) ?_
  · have c0 := hk.cell (Bc.out.cell (o := 0) (v := .bool gc) rfl); have c1 := hk.cell (Bc.out.cell (o := 1) (v := .slice Ac nc cc) rfl); go_simp
  simp only [Act.put, List.setIfInBounds_toArray, List.set_cons_zero, List.set_cons_succ]
  refine WE.call (d := some 21) rfl rfl (by rfl) (f := 12) (args := #[(.agg #[.bool gc, .slice Ac nc cc])]) (by go_simp) ?_
  refine (few_z Nc.out fc.out).mono ?_
  rintro e wn ⟨rfl, hb⟩
  refine ⟨_, rfl, hb, ?_⟩
  replace E := hid (E.out.trans hb)
  replace Ba := hid (Ba.out.up hb)
  replace Bb := hid (Bb.out.up hb)
  replace Bc := hid (Bc.out.up hb)
  replace Na := hid (Na.out.up hb)
  replace Nb := hid (Nb.out.up hb)
  replace Nc := hid (Nc.out.up hb)
  clear hb
  simp only [Act.put, List.setIfInBounds_toArray, List.set_cons_zero, List.set_cons_succ]
  refine WE.pure (d := some 22) rfl rfl (by rfl) (v := (.bool true)) (fun w' hk => ?_) ?_
  · go_simp
  simp only [Act.put, List.setIfInBounds_toArray, List.set_cons_zero, List.set_cons_succ]
  refine WE.pure (d := some 23) rfl rfl (by rfl) (v := (.bool true)) (fun w' hk => ?_) ?_
  · go_simp
  simp only [Act.put, List.setIfInBounds_toArray, List.set_cons_zero, List.set_cons_succ]
  refine WE.pure (d := some 24) rfl rfl (by rfl) (v := (.bool true)) (fun w' hk => ?_) ?_
  · go_simp
  simp only [Act.put, List.setIfInBounds_toArray, List.set_cons_zero, List.set_cons_succ]
  refine WE.skip (d := some 25) rfl rfl (by rfl) ?_
  simp only [Act.put, List.setIfInBounds_toArray, List.set_cons_zero, List.set_cons_succ]
  refine WE.pass (d := some 26) rfl rfl (by rfl) ?_
  simp only [Act.put, List.setIfInBounds_toArray, List.set_cons_zero, List.set_cons_succ]
  refine WE.skip (d := some 27) rfl rfl (by rfl) ?_
  simp only [Act.put, List.setIfInBounds_toArray, List.set_cons_zero, List.set_cons_succ]
  refine WE.pure (d := some 28) rfl rfl (by rfl) (v := (.bool true)) (fun w' hk => ?_) ?_
  · go_simp
  simp only [Act.put, List.setIfInBounds_toArray, List.set_cons_zero, List.set_cons_succ]
  refine WE.pure (d := some 29) rfl rfl (by rfl) (v := (.bool true)) (fun w' hk => ?_) ?_
  · go_simp
  simp only [Act.put, List.setIfInBounds_toArray, List.set_cons_zero, List.set_cons_succ]
  refine WE.skip (d := some 30) rfl rfl (by rfl) ?_
  simp only [Act.put, List.setIfInBounds_toArray, List.set_cons_zero, List.set_cons_succ]
  refine WE.pass (d := some 31) rfl rfl (by rfl) ?_
  simp only [Act.put, List.setIfInBounds_toArray, List.set_cons_zero, List.set_cons_succ]
  refine WE.skip (d := some 32) rfl rfl (by rfl) ?_
  simp only [Act.put, List.setIfInBounds_toArray, List.set_cons_zero, List.set_cons_succ]
  refine WE.pure (d := some 33) rfl rfl (by rfl) (v := (.bool true)) (fun w' hk => ?_) ?_
  · go_simp
  simp only [Act.put, List.setIfInBounds_toArray, List.set_cons_zero, List.set_cons_succ]
  refine WE.pure (d := some 34) rfl rfl (by rfl) (v := (.bool true)) (fun w' hk => ?_) ?_
  · go_simp
  simp only [Act.put, List.setIfInBounds_toArray, List.set_cons_zero, List.set_cons_succ]
  refine WE.skip (d := some 35) rfl rfl (by rfl) ?_
  simp only [Act.put, List.setIfInBounds_toArray, List.set_cons_zero, List.set_cons_succ]
  refine WE.pass (d := some 36) rfl rfl (by rfl) ?_
  simp only [Act.put, List.setIfInBounds_toArray, List.set_cons_zero, List.set_cons_succ]
  refine WE.skip (d := some 37) rfl rfl (by rfl) ?_
  simp only [Act.put, List.setIfInBounds_toArray, List.set_cons_zero, List.set_cons_succ]
  refine WE.pure (d := some 38) rfl rfl (by rfl) (v := (.bool true)) (fun w' hk => ?_) ?_
  · go_simp
  simp only [Act.put, List.setIfInBounds_toArray, List.set_cons_zero, List.set_cons_succ]
  refine WE.done ?_
  go_wp2
  go_ret
  exact ⟨rfl, E.out⟩

set_option maxRecDepth 100000 in
set_option maxHeartbeats 1000000 in
theorem wholeRules_skip3 (W : World) (ga : Bool) (Aa : Option Addr) (na ca : Nat) (la : List Nat) (ha : Num W W.heap.size (.slice Aa na ca) la) (gb : Bool) (Ab : Option Addr) (nb cb : Nat) (lb : List Nat) (hb : Num W W.heap.size (.slice Ab nb cb) lb) (gc : Bool) (Ac : Option Addr) (nc cc : Nat) (lc : List Nat) (hc : Num W W.heap.size (.slice Ac nc cc) lc) (fa : Hid (decide (la.length ≤ 8) = true)) (fb : Hid (decide (lb.length ≤ 8) = true)) (fc : Hid (decide (lc.length ≤ 8) = true)) (ia : Hid (M.isZ ga la = false)) :
    Calls Try.prog 4 #[.agg #[.bool ga, .slice Aa na ca], .agg #[.bool gb, .slice Ab nb cb], .agg #[.bool gc, .slice Ac nc cc]] W (fun e w' => e = .returned (.bool true) ∧ Ext W w') := by
  have Na := hid ha
  have Nb := hid hb
  have Nc := hid hc
  clear ha hb hc
  go_enter Try.func4, Try.ntmps4
  go_upto_region 1 with (fail)
  have E := hid ((((Ext.refl W).alloc' (.cells #[.bool ga, .slice Aa na ca] 24)).alloc' (.cells #[.bool gb, .slice Ab nb cb] 24)).alloc' (.cells #[.bool gc, .slice Ac nc cc] 24))
  have Ba : Hid (Box (((W.alloc (.cells #[.bool ga, .slice Aa na ca] 24)).alloc (.cells #[.bool gb, .slice Ab nb cb] 24)).alloc (.cells #[.bool gc, .slice Ac nc cc] 24)) (W.heap.size) #[.bool ga, .slice Aa na ca] 24) := hid (((Box.at_ (w := W) #[.bool ga, .slice Aa na ca] 24 (by simp)).alloc (.cells #[.bool gb, .slice Ab nb cb] 24)).alloc (.cells #[.bool gc, .slice Ac nc cc] 24))
  have Bb : Hid (Box (((W.alloc (.cells #[.bool ga, .slice Aa na ca] 24)).alloc (.cells #[.bool gb, .slice Ab nb cb] 24)).alloc (.cells #[.bool gc, .slice Ac nc cc] 24)) (W.heap.size + 1) #[.bool gb, .slice Ab nb cb] 24) := hid ((Box.at_ (w := (W.alloc (.cells #[.bool ga, .slice Aa na ca] 24))) #[.bool gb, .slice Ab nb cb] 24 (by simp)).alloc (.cells #[.bool gc, .slice Ac nc cc] 24))
  have Bc : Hid (Box (((W.alloc (.cells #[.bool ga, .slice Aa na ca] 24)).alloc (.cells #[.bool gb, .slice Ab nb cb] 24)).alloc (.cells #[.bool gc, .slice Ac nc cc] 24)) (W.heap.size + 2) #[.bool gc, .slice Ac nc cc] 24) := hid (Box.at_ (w := ((W.alloc (.cells #[.bool ga, .slice Aa na ca] 24)).alloc (.cells #[.bool gb, .slice Ab nb cb] 24))) #[.bool gc, .slice Ac nc cc] 24 (by simp))
  replace Na := hid (Na.out.up E.out)
  replace Nb := hid (Nb.out.up E.out)
  replace Nc := hid (Nc.out.up E.out)
  go_upto_region 1 with (fail)
  refine wp_region_T [(0, 1), (1, 0)] (by kernel_rfl) fun wd hb => ?_
  replace E := hid (E.out.trans hb)
  replace Ba := hid (Ba.out.up hb)
  replace Bb := hid (Bb.out.up hb)
  replace Bc := hid (Bc.out.up hb)
  replace Na := hid (Na.out.up hb)
  replace Nb := hid (Nb.out.up hb)
  replace Nc := hid (Nc.out.up hb)
  clear hb
  refine WE.call (d := some 9) rfl rfl (by rfl) (f := 11) (args := #[]) (by go_simp) ?_
  refine (known2 _).mono ?_
  rintro e wn ⟨rfl, hb⟩
  refine ⟨_, rfl, hb, ?_⟩
  replace E := hid (E.out.trans hb)
  replace Ba := hid (Ba.out.up hb)
  replace Bb := hid (Bb.out.up hb)
  replace Bc := hid (Bc.out.up hb)
  replace Na := hid (Na.out.up hb)
  replace Nb := hid (Nb.out.up hb)
  replace Nc := hid (Nc.out.up hb)
  clear hb
  simp only [Act.put, List.setIfInBounds_toArray, List.set_cons_zero, List.set_cons_succ]
  refine WE.pure (d := some 10) rfl rfl (by rfl) (v := (.bool false)) (fun w' hk => ?_) ?_
  · go_simp
  simp only [Act.put, List.setIfInBounds_toArray, List.set_cons_zero, List.set_cons_succ]
  refine WE.done ?_
  go_upto_region 3 with (fail)
  refine wp_region_T [(0, 0), (1, 1), (2, 0), (3, 0), (4, 0), (5, 1), (6, 0), (7, 0), (8, 0), (9, 0), (10, 1), (11, 0), (12, 0), (13, 0), (14, 0), (15, 1), (16, 0), (17, 0), (18, 0), (19, 0), (20, 1), (21, 0), (22, 0), (23, 0), (24, 0), (25, 1), (26, 0), (27, 0)] (by kernel_rfl) fun wd hb => ?_
  replace E := hid (E.out.trans hb)
  replace Ba := hid (Ba.out.up hb)
  replace Bb := hid (Bb.out.up hb)
  replace Bc := hid (Bc.out.up hb)
  replace Na := hid (Na.out.up hb)
  replace Nb := hid (Nb.out.up hb)
  replace Nc := hid (Nc.out.up hb)
  clear hb
  refine WE.pure (d := some 11) rfl rfl (by rfl) (v := (.agg #[.bool ga, .slice Aa na ca])) (fun w' hk => ?_) ?_
  · have c0 := hk.cell (Ba.out.cell (o := 0) (v := .bool ga) rfl); have c1 := hk.cell (Ba.out.cell (o := 1) (v := .slice Aa na ca) rfl); go_simp
  simp only [Act.put, List.setIfInBounds_toArray, List.set_cons_zero, List.set_cons_succ]
  refine WE.call (d := some 12) rfl rfl (by rfl) (f := 12) (args := #[(.agg #[.bool ga, .slice Aa na ca])]) (by go_simp) ?_
  refine (few_z Na.out fa.out).mono ?_
  rintro e wn ⟨rfl, hb⟩
  refine ⟨_, rfl, hb, ?_⟩
  replace E := hid (E.out.trans hb)
  replace Ba := hid (Ba.out.up hb)
  replace Bb := hid (Bb.out.up hb)
  replace Bc := hid (Bc.out.up hb)
  replace Na := hid (Na.out.up hb)
  replace Nb := hid (Nb.out.up hb)
  replace Nc := hid (Nc.out.up hb)
  clear hb
  simp only [Act.put, List.setIfInBounds_toArray, List.set_cons_zero, List.set_cons_succ]
  refine WE.pure (d := some 13) rfl rfl (by rfl) (v := (.bool false)) (fun w' hk => ?_) ?_
  · go_simp
  simp only [Act.put, List.setIfInBounds_toArray, List.set_cons_zero, List.set_cons_succ]
  refine WE.pure (d := some 14) rfl rfl (by rfl) (v := (.bool false)) (fun w' hk => ?_) ?_
  · go_simp
  simp only [Act.put, List.setIfInBounds_toArray, List.set_cons_zero, List.set_cons_succ]
  refine WE.pure (d := some 15) rfl rfl (by rfl) (v := (.agg #[.bool gb, .slice Ab nb cb])) (fun w' hk => ?_) ?_
  · have c0 := hk.cell (Bb.out.cell (o := 0) (v := .bool gb) rfl); have c1 := hk.cell (Bb.out.cell (o := 1) (v := .slice Ab nb cb) rfl); go_simp
  simp only [Act.put, List.setIfInBounds_toArray, List.set_cons_zero, List.set_cons_succ]
  refine WE.call (d := some 16) rfl rfl (by rfl) (f := 12) (args := #[(.agg #[.bool gb, .slice Ab nb cb])]) (by go_simp) ?_
  refine (few_z Nb.out fb.out).mono ?_
  rintro e wn ⟨rfl, hb⟩
  refine ⟨_, rfl, hb, ?_⟩
  replace E := hid (E.out.trans hb)
  replace Ba := hid (Ba.out.up hb)
  replace Bb := hid (Bb.out.up hb)
  replace Bc := hid (Bc.out.up hb)
  replace Na := hid (Na.out.up hb)
  replace Nb := hid (Nb.out.up hb)
  replace Nc := hid (Nc.out.up hb)
  clear hb
  simp only [Act.put, List.setIfInBounds_toArray, List.set_cons_zero, List.set_cons_succ]
  refine WE.pure (d := some 17) rfl rfl (by rfl) (v := (.bool false)) (fun w' hk => ?_) ?_
  · go_simp
  simp only [Act.put, List.setIfInBounds_toArray, List.set_cons_zero, List.set_cons_succ]
  refine WE.pure (d := some 18) rfl rfl (by rfl) (v := (.bool false)) (fun w' hk => ?_) ?_
  · go_simp
  simp only [Act.put, List.setIfInBounds_toArray, List.set_cons_zero, List.set_cons_succ]
  refine WE.pure (d := some 19) rfl rfl (by rfl) (v := (.bool false)) (fun w' hk => ?_) ?_
  · go_simp
  simp only [Act.put, List.setIfInBounds_toArray, List.set_cons_zero, List.set_cons_succ]
  refine WE.pure (d := some 20) rfl rfl (by rfl) (v := (.agg #[.bool gc, .slice Ac nc cc])) (fun w' hk => ?_) ?_
  · have c0 := hk.cell (Bc.out.cell (o := 0) (v := .bool gc) rfl); have c1 := hk.cell (Bc.out.cell (o := 1) (v := .slice Ac nc cc) rfl); go_simp
  simp only [Act.put, List.setIfInBounds_toArray, List.set_cons_zero, List.set_cons_succ]
  refine WE.call (d := some 21) rfl rfl (by rfl) (f := 12) (args := #[(.agg #[.bool gc, .slice Ac nc cc])]) (by go_simp) ?_
  refine (few_z Nc.out fc.out).mono ?_
  rintro e wn ⟨rfl, hb⟩
  refine ⟨_, rfl, hb, ?_⟩
  replace E := hid (E.out.trans hb)
  replace Ba := hid (Ba.out.up hb)
  replace Bb := hid (Bb.out.up hb)
  replace Bc := hid (Bc.out.up hb)
  replace Na := hid (Na.out.up hb)
  replace Nb := hid (Nb.out.up hb)
  replace Nc := hid (Nc.out.up hb)
  clear hb
  simp only [Act.put, List.setIfInBounds_toArray, List.set_cons_zero, List.set_cons_succ]
  refine WE.pure (d := some 22) rfl rfl (by rfl) (v := (.bool false)) (fun w' hk => ?_) ?_
  · go_simp
  simp only [Act.put, List.setIfInBounds_toArray, List.set_cons_zero, List.set_cons_succ]
  refine WE.pure (d := some 23) rfl rfl (by rfl) (v := (.bool false)) (fun w' hk => ?_) ?_
  · go_simp
  simp only [Act.put, List.setIfInBounds_toArray, List.set_cons_zero, List.set_cons_succ]
  refine WE.pure (d := some 24) rfl rfl (by rfl) (v := (.bool false)) (fun w' hk => ?_) ?_
  · go_simp
  simp only [Act.put, List.setIfInBounds_toArray, List.set_cons_zero, List.set_cons_succ]
  refine WE.pure (d := some 25) rfl rfl (by rfl) (v := (.agg #[.bool ga, .slice Aa na ca])) (fun w' hk => ?_) ?_
  · have c0 := hk.cell (Ba.out.cell (o := 0) (v := .bool ga) rfl); have c1 := hk.cell (Ba.out.cell (o := 1) (v := .slice Aa na ca) rfl); go_simp
  simp only [Act.put, List.setIfInBounds_toArray, List.set_cons_zero, List.set_cons_succ]
  refine WE.call (d := some 26) rfl rfl (by rfl) (f := 19) (args := #[(.agg #[.bool ga, .slice Aa na ca])]) (by go_simp) ?_
  refine (wIs_any Na.out ia.out).mono ?_
  rintro e wn ⟨rfl, hb⟩
  refine ⟨_, rfl, hb, ?_⟩
  replace E := hid (E.out.trans hb)
  replace Ba := hid (Ba.out.up hb)
  replace Bb := hid (Bb.out.up hb)
  replace Bc := hid (Bc.out.up hb)
  replace Na := hid (Na.out.up hb)
  replace Nb := hid (Nb.out.up hb)
  replace Nc := hid (Nc.out.up hb)
  clear hb
  simp only [Act.put, List.setIfInBounds_toArray, List.set_cons_zero, List.set_cons_succ]
  refine WE.pure (d := some 27) rfl rfl (by rfl) (v := (.bool true)) (fun w' hk => ?_) ?_
  · go_simp
  simp only [Act.put, List.setIfInBounds_toArray, List.set_cons_zero, List.set_cons_succ]
  refine WE.pure (d := some 28) rfl rfl (by rfl) (v := (.bool true)) (fun w' hk => ?_) ?_
  · go_simp
  simp only [Act.put, List.setIfInBounds_toArray, List.set_cons_zero, List.set_cons_succ]
  refine WE.pure (d := some 29) rfl rfl (by rfl) (v := (.bool true)) (fun w' hk => ?_) ?_
  · go_simp
  simp only [Act.put, List.setIfInBounds_toArray, List.set_cons_zero, List.set_cons_succ]
  refine WE.skip (d := some 30) rfl rfl (by rfl) ?_
  simp only [Act.put, List.setIfInBounds_toArray, List.set_cons_zero, List.set_cons_succ]
  refine WE.pass (d := some 31) rfl rfl (by rfl) ?_
  simp only [Act.put, List.setIfInBounds_toArray, List.set_cons_zero, List.set_cons_succ]
  refine WE.skip (d := some 32) rfl rfl (by rfl) ?_
  simp only [Act.put, List.setIfInBounds_toArray, List.set_cons_zero, List.set_cons_succ]
  refine WE.pure (d := some 33) rfl rfl (by rfl) (v := (.bool true)) (fun w' hk => ?_) ?_
  · go_simp
  simp only [Act.put, List.setIfInBounds_toArray, List.set_cons_zero, List.set_cons_succ]
  refine WE.pure (d := some 34) rfl rfl (by rfl) (v := (.bool true)) (fun w' hk => ?_) ?_
  · go_simp
  simp only [Act.put, List.setIfInBounds_toArray, List.set_cons_zero, List.set_cons_succ]
  refine WE.skip (d := some 35) rfl rfl (by rfl) ?_
  simp only [Act.put, List.setIfInBounds_toArray, List.set_cons_zero, List.set_cons_succ]
  refine WE.pass (d := some 36) rfl rfl (by rfl) ?_
  simp only [Act.put, List.setIfInBounds_toArray, List.set_cons_zero, List.set_cons_succ]
  refine WE.skip (d := some 37) rfl rfl (by rfl) ?_
  simp only [Act.put, List.setIfInBounds_toArray, List.set_cons_zero, List.set_cons_succ]
  refine WE.pure (d := some 38) rfl rfl (by rfl) (v := (.bool true)) (fun w' hk => ?_) ?_
  · go_simp
  simp only [Act.put, List.setIfInBounds_toArray, List.set_cons_zero, List.set_cons_succ]
  refine WE.done ?_
  go_wp2
  go_ret
  exact ⟨rfl, E.out⟩

set_option maxRecDepth 100000 in
set_option maxHeartbeats 1000000 in
theorem wholeRules_skip4 (W : World) (ga : Bool) (Aa : Option Addr) (na ca : Nat) (la : List Nat) (ha : Num W W.heap.size (.slice Aa na ca) la) (gb : Bool) (Ab : Option Addr) (nb cb : Nat) (lb : List Nat) (hb : Num W W.heap.size (.slice Ab nb cb) lb) (gc : Bool) (Ac : Option Addr) (nc cc : Nat) (lc : List Nat) (hc : Num W W.heap.size (.slice Ac nc cc) lc) (fa : Hid (decide (la.length ≤ 8) = true)) (fb : Hid (decide (lb.length ≤ 8) = true)) (fc : Hid (decide (lc.length ≤ 8) = true)) (ia : Hid (M.isZ ga la = true)) (ib : Hid (M.isZ gb lb = false)) :
    Calls Try.prog 4 #[.agg #[.bool ga, .slice Aa na ca], .agg #[.bool gb, .slice Ab nb cb], .agg #[.bool gc, .slice Ac nc cc]] W (fun e w' => e = .returned (.bool true) ∧ Ext W w') := by
  have Na := hid ha
  have Nb := hid hb
  have Nc := hid hc
  clear ha hb hc
  go_enter Try.func4, Try.ntmps4
  go_upto_region 1 with (fail)
  have E := hid ((((Ext.refl W).alloc' (.cells #[.bool ga, .slice Aa na ca] 24)).alloc' (.cells #[.bool gb, .slice Ab nb cb] 24)).alloc' (.cells #[.bool gc, .slice Ac nc cc] 24))
  have Ba : Hid (Box (((W.alloc (.cells #[.bool ga, .slice Aa na ca] 24)).alloc (.cells #[.bool gb, .slice Ab nb cb] 24)).alloc (.cells #[.bool gc, .slice Ac nc cc] 24)) (W.heap.size) #[.bool ga, .slice Aa na ca] 24) := hid (((Box.at_ (w := W) #[.bool ga, .slice Aa na ca] 24 (by simp)).alloc (.cells #[.bool gb, .slice Ab nb cb] 24)).alloc (.cells #[.bool gc, .slice Ac nc cc] 24))
  have Bb : Hid (Box (((W.alloc (.cells #[.bool ga, .slice Aa na ca] 24)).alloc (.cells #[.bool gb, .slice Ab nb cb] 24)).alloc (.cells #[.bool gc, .slice Ac nc cc] 24)) (W.heap.size + 1) #[.bool gb, .slice Ab nb cb] 24) := hid ((Box.at_ (w := (W.alloc (.cells #[.bool ga, .slice Aa na ca] 24))) #[.bool gb, .slice Ab nb cb] 24 (by simp)).alloc (.cells #[.bool gc, .slice Ac nc cc] 24))
  have Bc : Hid (Box (((W.alloc (.cells #[.bool ga, .slice Aa na ca] 24)).alloc (.cells #[.bool gb, .slice Ab nb cb] 24)).alloc (.cells #[.bool gc, .slice Ac nc cc] 24)) (W.heap.size + 2) #[.bool gc, .slice Ac nc cc] 24) := hid (Box.at_ (w := ((W.alloc (.cells #[.bool ga, .slice Aa na ca] 24)).alloc (.cells #[.bool gb, .slice Ab nb cb] 24))) #[.bool gc, .slice Ac nc cc] 24 (by simp))
  replace Na := hid (Na.out.up E.out)
  replace Nb := hid (Nb.out.up E.out)
  replace Nc := hid (Nc.out.up E.out)
  go_upto_region 1 with (fail)
  refine wp_region_T [(0, 1), (1, 0)] (by kernel_rfl) fun wd hb => ?_
  replace E := hid (E.out.trans hb)
  replace Ba := hid (Ba.out.up hb)
  replace Bb := hid (Bb.out.up hb)
  replace Bc := hid (Bc.out.up hb)
  replace Na := hid (Na.out.up hb)
  replace Nb := hid (Nb.out.up hb)
  replace Nc := hid (Nc.out.up hb)
  clear hb
  refine WE.call (d := some 9) rfl rfl (by rfl) (f := 11) (args := #[]) (by go_simp) ?_
  refine (known2 _).mono ?_
  rintro e wn ⟨rfl, hb⟩
  refine ⟨_, rfl, hb, ?_⟩
  replace E := hid (E.out.trans hb)
  replace Ba := hid (Ba.out.up hb)
  replace Bb := hid (Bb.out.up hb)
  replace Bc := hid (Bc.out.up hb)
  replace Na := hid (Na.out.up hb)
  replace Nb := hid (Nb.out.up hb)
  replace Nc := hid (Nc.out.up hb)
  clear hb
  simp only [Act.put, List.setIfInBounds_toArray, List.set_cons_zero, List.set_cons_succ]
  refine WE.pure (d := some 10) rfl rfl (by rfl) (v := (.bool false)) (fun w' hk => ?_) ?_
  · go_simp
  simp only [Act.put, List.setIfInBounds_toArray, List.set_cons_zero, List.set_cons_succ]
  refine WE.done ?_
  go_upto_region 3 with (fail)
  refine wp_region_T [(0, 0), (1, 1), (2, 0), (3, 0), (4, 0), (5, 1), (6, 0), (7, 0), (8, 0), (9, 0), (10, 1), (11, 0), (12, 0), (13, 0), (14, 0), (15, 1), (16, 0), (17, 0), (18, 0), (19, 0), (20, 1), (21, 0), (22, 0), (23, 0), (24, 0), (25, 1), (26, 0), (27, 0)] (by kernel_rfl) fun wd hb => ?_
  replace E := hid (E.out.trans hb)
  replace Ba := hid (Ba.out.up hb)
  replace Bb := hid (Bb.out.up hb)
  replace Bc := hid (Bc.out.up hb)
  replace Na := hid (Na.out.up hb)
  replace Nb := hid (Nb.out.up hb)
  replace Nc := hid (Nc.out.up hb)
  clear hb
  refine WE.pure (d := some 11) rfl rfl (by rfl) (v := (.agg #[.bool ga, .slice Aa na ca])) (fun w' hk => ?_) ?_
  · have c0 := hk.cell (Ba.out.cell (o := 0) (v := .bool ga) rfl); have c1 := hk.cell (Ba.out.cell (o := 1) (v := .slice Aa na ca) rfl); go_simp
  simp only [Act.put, List.setIfInBounds_toArray, List.set_cons_zero, List.set_cons_succ]
  refine WE.call (d := some 12) rfl rfl (by rfl) (f := 12) (args := #[(.agg #[.bool ga, .slice Aa na ca])]) (by go_simp) ?_
  refine (few_z Na.out fa.out).mono ?_
  rintro e wn ⟨rfl, hb⟩
  refine ⟨_, rfl, hb, ?_⟩
  replace E := hid (E.out.trans hb)
  replace Ba := hid (Ba.out.up hb)
  replace Bb := hid (Bb.out.up hb)
  replace Bc := hid (Bc.out.up hb)
  replace Na := hid (Na.out.up hb)
  replace Nb := hid (Nb.out.up hb)
  replace Nc := hid (Nc.out.up hb)
  clear hb
  simp only [Act.put, List.setIfInBounds_toArray, List.set_cons_zero, List.set_cons_succ]
  refine WE.pure (d := some 13) rfl rfl (by rfl) (v := (.bool false)) (fun w' hk => ?_) ?_
  · go_simp
  simp only [Act.put, List.setIfInBounds_toArray, List.set_cons_zero, List.set_cons_succ]
  refine WE.pure (d := some 14) rfl rfl (by rfl) (v := (.bool false)) (fun w' hk => ?_) ?_
  · go_simp
  simp only [Act.put, List.setIfInBounds_toArray, List.set_cons_zero, List.set_cons_succ]
  refine WE.pure (d := some 15) rfl rfl (by rfl) (v := (.agg #[.bool gb, .slice Ab nb cb])) (fun w' hk => ?_) ?_
  · have c0 := hk.cell (Bb.out.cell (o := 0) (v := .bool gb) rfl); have c1 := hk.cell (Bb.out.cell (o := 1) (v := .slice Ab nb cb) rfl); go_simp
  simp only [Act.put, List.setIfInBounds_toArray, List.set_cons_zero, List.set_cons_succ]
  refine WE.call (d := some 16) rfl rfl (by rfl) (f := 12) (args := #[(.agg #[.bool gb, .slice Ab nb cb])]) (by go_simp) ?_
  refine (few_z Nb.out fb.out).mono ?_
  rintro e wn ⟨rfl, hb⟩
  refine ⟨_, rfl, hb, ?_⟩
  replace E := hid (E.out.trans hb)
  replace Ba := hid (Ba.out.up hb)
  replace Bb := hid (Bb.out.up hb)
  replace Bc := hid (Bc.out.up hb)
  replace Na := hid (Na.out.up hb)
  replace Nb := hid (Nb.out.up hb)
  replace Nc := hid (Nc.out.up hb)
  clear hb
  simp only [Act.put, List.setIfInBounds_toArray, List.set_cons_zero, List.set_cons_succ]
  refine WE.pure (d := some 17) rfl rfl (by rfl) (v := (.bool false)) (fun w' hk => ?_) ?_
  · go_simp
  simp only [Act.put, List.setIfInBounds_toArray, List.set_cons_zero, List.set_cons_succ]
  refine WE.pure (d := some 18) rfl rfl (by rfl) (v := (.bool false)) (fun w' hk => ?_) ?_
  · go_simp
  simp only [Act.put, List.setIfInBounds_toArray, List.set_cons_zero, List.set_cons_succ]
  refine WE.pure (d := some 19) rfl rfl (by rfl) (v := (.bool false)) (fun w' hk => ?_) ?_
  · go_simp
  simp only [Act.put, List.setIfInBounds_toArray, List.set_cons_zero, List.set_cons_succ]
  refine WE.pure (d := some 20) rfl rfl (by rfl) (v := (.agg #[.bool gc, .slice Ac nc cc])) (fun w' hk => ?_) ?_
  · have c0 := hk.cell (Bc.out.cell (o := 0) (v := .bool gc) rfl); have c1 := hk.cell (Bc.out.cell (o := 1) (v := .slice Ac nc cc) rfl); go_simp
  simp only [Act.put, List.setIfInBounds_toArray, List.set_cons_zero, List.set_cons_succ]
  refine WE.call (d := some 21) rfl rfl (by rfl) (f := 12) (args := #[(.agg #[.bool gc, .slice Ac nc cc])]) (by go_simp) ?_
  refine (few_z Nc.out fc.out).mono ?_
  rintro e wn ⟨rfl, hb⟩
  refine ⟨_, rfl, hb, ?_⟩
  replace E := hid (E.out.trans hb)
  replace Ba := hid (Ba.out.up hb)
  replace Bb := hid (Bb.out.up hb)
  replace Bc := hid (Bc.out.up hb)
  replace Na := hid (Na.out.up hb)
  replace Nb := hid (Nb.out.up hb)
  replace Nc := hid (Nc.out.up hb)
  clear hb
  simp only [Act.put, List.setIfInBounds_toArray, List.set_cons_zero, List.set_cons_succ]
  refine WE.pure (d := some 22) rfl rfl (by rfl) (v := (.bool false)) (fun w' hk => ?_) ?_
  · go_simp
  simp only [Act.put, List.setIfInBounds_toArray, List.set_cons_zero, List.set_cons_succ]
  refine WE.pure (d := some 23) rfl rfl (by rfl) (v := (.bool false)) (fun w' hk => ?_) ?_
  · go_simp
  simp only [Act.put, List.setIfInBounds_toArray, List.set_cons_zero, List.set_cons_succ]
  refine WE.pure (d := some 24) rfl rfl (by rfl) (v := (.bool false)) (fun w' hk => ?_) ?_
  · go_simp
  simp only [Act.put, List.setIfInBounds_toArray, List.set_cons_zero, List.set_cons_succ]
  refine WE.pure (d := some 25) rfl rfl (by rfl) (v := (.agg #[.bool ga, .slice Aa na ca])) (fun w' hk => ?_) ?_
  · have c0 := hk.cell (Ba.out.cell (o := 0) (v := .bool ga) rfl); have c1 := hk.cell (Ba.out.cell (o := 1) (v := .slice Aa na ca) rfl); go_simp
  simp only [Act.put, List.setIfInBounds_toArray, List.set_cons_zero, List.set_cons_succ]
  refine WE.call (d := some 26) rfl rfl (by rfl) (f := 19) (args := #[(.agg #[.bool ga, .slice Aa na ca])]) (by go_simp) ?_
  refine (wIs_any Na.out ia.out).mono ?_
  rintro e wn ⟨rfl, hb⟩
  refine ⟨_, rfl, hb, ?_⟩
  replace E := hid (E.out.trans hb)
  replace Ba := hid (Ba.out.up hb)
  replace Bb := hid (Bb.out.up hb)
  replace Bc := hid (Bc.out.up hb)
  replace Na := hid (Na.out.up hb)
  replace Nb := hid (Nb.out.up hb)
  replace Nc := hid (Nc.out.up hb)
  clear hb
  simp only [Act.put, List.setIfInBounds_toArray, List.set_cons_zero, List.set_cons_succ]
  refine WE.pure (d := some 27) rfl rfl (by rfl) (v := (.bool false)) (fun w' hk => ?_) ?_
  · go_simp
  simp only [Act.put, List.setIfInBounds_toArray, List.set_cons_zero, List.set_cons_succ]
  refine WE.pure (d := some 28) rfl rfl (by rfl) (v := (.bool false)) (fun w' hk => ?_) ?_
  · go_simp
  simp only [Act.put, List.setIfInBounds_toArray, List.set_cons_zero, List.set_cons_succ]
  refine WE.pure (d := some 29) rfl rfl (by rfl) (v := (.bool false)) (fun w' hk => ?_) ?_
  · go_simp
  simp only [Act.put, List.setIfInBounds_toArray, List.set_cons_zero, List.set_cons_succ]
  refine WE.pure (d := some 30) rfl rfl (by rfl) (v := (.agg #[.bool gb, .slice Ab nb cb])) (fun w' hk => ?_) ?_
  · have c0 := hk.cell (Bb.out.cell (o := 0) (v := .bool gb) rfl); have c1 := hk.cell (Bb.out.cell (o := 1) (v := .slice Ab nb cb) rfl); go_simp
  simp only [Act.put, List.setIfInBounds_toArray, List.set_cons_zero, List.set_cons_succ]
  refine WE.call (d := some 31) rfl rfl (by rfl) (f := 19) (args := #[(.agg #[.bool gb, .slice Ab nb cb])]) (by go_simp) ?_
  refine (wIs_any Nb.out ib.out).mono ?_
  rintro e wn ⟨rfl, hb⟩
  refine ⟨_, rfl, hb, ?_⟩
  replace E := hid (E.out.trans hb)
  replace Ba := hid (Ba.out.up hb)
  replace Bb := hid (Bb.out.up hb)
  replace Bc := hid (Bc.out.up hb)
  replace Na := hid (Na.out.up hb)
  replace Nb := hid (Nb.out.up hb)
  replace Nc := hid (Nc.out.up hb)
  clear hb
  simp only [Act.put, List.setIfInBounds_toArray, List.set_cons_zero, List.set_cons_succ]
  refine WE.pure (d := some 32) rfl rfl (by rfl) (v := (.bool true)) (fun w' hk => ?_) ?_
  · go_simp
  simp only [Act.put, List.setIfInBounds_toArray, List.set_cons_zero, List.set_cons_succ]
  refine WE.pure (d := some 33) rfl rfl (by rfl) (v := (.bool true)) (fun w' hk => ?_) ?_
  · go_simp
  simp only [Act.put, List.setIfInBounds_toArray, List.set_cons_zero, List.set_cons_succ]
  refine WE.pure (d := some 34) rfl rfl (by rfl) (v := (.bool true)) (fun w' hk => ?_) ?_
  · go_simp
  simp only [Act.put, List.setIfInBounds_toArray, List.set_cons_zero, List.set_cons_succ]
  refine WE.skip (d := some 35) rfl rfl (by rfl) ?_
  simp only [Act.put, List.setIfInBounds_toArray, List.set_cons_zero, List.set_cons_succ]
  refine WE.pass (d := some 36) rfl rfl (by rfl) ?_
  simp only [Act.put, List.setIfInBounds_toArray, List.set_cons_zero, List.set_cons_succ]
  refine WE.skip (d := some 37) rfl rfl (by rfl) ?_
  simp only [Act.put, List.setIfInBounds_toArray, List.set_cons_zero, List.set_cons_succ]
  refine WE.pure (d := some 38) rfl rfl (by rfl) (v := (.bool true)) (fun w' hk => ?_) ?_
  · go_simp
  simp only [Act.put, List.setIfInBounds_toArray, List.set_cons_zero, List.set_cons_succ]
  refine WE.done ?_
  go_wp2
  go_ret
  exact ⟨rfl, E.out⟩

set_option maxRecDepth 100000 in
set_option maxHeartbeats 1000000 in
theorem wholeRules_skip5 (W : World) (ga : Bool) (Aa : Option Addr) (na ca : Nat) (la : List Nat) (ha : Num W W.heap.size (.slice Aa na ca) la) (gb : Bool) (Ab : Option Addr) (nb cb : Nat) (lb : List Nat) (hb : Num W W.heap.size (.slice Ab nb cb) lb) (gc : Bool) (Ac : Option Addr) (nc cc : Nat) (lc : List Nat) (hc : Num W W.heap.size (.slice Ac nc cc) lc) (fa : Hid (decide (la.length ≤ 8) = true)) (fb : Hid (decide (lb.length ≤ 8) = true)) (fc : Hid (decide (lc.length ≤ 8) = true)) (ia : Hid (M.isZ ga la = true)) (ib : Hid (M.isZ gb lb = true)) (ic : Hid (M.isZ gc lc = false)) :
    Calls Try.prog 4 #[.agg #[.bool ga, .slice Aa na ca], .agg #[.bool gb, .slice Ab nb cb], .agg #[.bool gc, .slice Ac nc cc]] W (fun e w' => e = .returned (.bool true) ∧ Ext W w') := by
  have Na := hid ha
  have Nb := hid hb
  have Nc := hid hc
  clear ha hb hc
  go_enter Try.func4, Try.ntmps4
  go_upto_region 1 with (fail)
  have E := hid ((((Ext.refl W).alloc' (.cells #[.bool ga, .slice Aa na ca] 24)).alloc' (.cells #[.bool gb, .slice Ab nb cb] 24)).alloc' (.cells #[.bool gc, .slice Ac nc cc] 24))
  have Ba : Hid (Box (((W.alloc (.cells #[.bool ga, .slice Aa na ca] 24)).alloc (.cells #[.bool gb, .slice Ab nb cb] 24)).alloc (.cells #[.bool gc, .slice Ac nc cc] 24)) (W.heap.size) #[.bool ga, .slice Aa na ca] 24) := hid (((Box.at_ (w := W) #[.bool ga, .slice Aa na ca] 24 (by simp)).alloc (.cells #[.bool gb, .slice Ab nb cb] 24)).alloc (.cells #[.bool gc, .slice Ac nc cc] 24))
  have Bb : Hid (Box (((W.alloc (.cells #[.bool ga, .slice Aa na ca] 24)).alloc (.cells #[.bool gb, .slice Ab nb cb] 24)).alloc (.cells #[.bool gc, .slice Ac nc cc] 24)) (W.heap.size + 1) #[.bool gb, .slice Ab nb cb] 24) := hid ((Box.at_ (w := (W.alloc (.cells #[.bool ga, .slice Aa na ca] 24))) #[.bool gb, .slice Ab nb cb] 24 (by simp)).alloc (.cells #[.bool gc, .slice Ac nc cc] 24))
  have Bc : Hid (Box (((W.alloc (.cells #[.bool ga, .slice Aa na ca] 24)).alloc (.cells #[.bool gb, .slice Ab nb cb] 24)).alloc (.cells #[.bool gc, .slice Ac nc cc] 24)) (W.heap.size + 2) #[.bool gc, .slice Ac nc cc] 24) := hid (Box.at_ (w := ((W.alloc (.cells #[.bool ga, .slice Aa na ca] 24)).alloc (.cells #[.bool gb, .slice Ab nb cb] 24))) #[.bool gc, .slice Ac nc cc] 24 (by simp))
  replace Na := hid (Na.out.up E.out)
  replace Nb := hid (Nb.out.up E.out)
  replace Nc := hid (Nc.out.up E.out)
  go_upto_region 1 with (fail)
  refine wp_region_T [(0, 1), (1, 0)] (by kernel_rfl) fun wd hb => ?_
  replace E := hid (E.out.trans hb)
  replace Ba := hid (Ba.out.up hb)
  replace Bb := hid (Bb.out.up hb)
  replace Bc := hid (Bc.out.up hb)
  replace Na := hid (Na.out.up hb)
  replace Nb := hid (Nb.out.up hb)
  replace Nc := hid (Nc.out.up hb)
  clear hb
  refine WE.call (d := some 9) rfl rfl (by rfl) (f := 11) (args := #[]) (by go_simp) ?_
  refine (known2 _).mono ?_
  rintro e wn ⟨rfl, hb⟩
  refine ⟨_, rfl, hb, ?_⟩
  replace E := hid (E.out.trans hb)
  replace Ba := hid (Ba.out.up hb)
  replace Bb := hid (Bb.out.up hb)
  replace Bc := hid (Bc.out.up hb)
  replace Na := hid (Na.out.up hb)
  replace Nb := hid (Nb.out.up hb)
  replace Nc := hid (Nc.out.up hb)
  clear hb
  simp only [Act.put, List.setIfInBounds_toArray, List.set_cons_zero, List.set_cons_succ]
  refine WE.pure (d := some 10) rfl rfl (by rfl) (v := (.bool false)) (fun w' hk => ?_) ?_
  · go_simp
  simp only [Act.put, List.setIfInBounds_toArray, List.set_cons_zero, List.set_cons_succ]
  refine WE.done ?_
  go_upto_region 3 with (fail)
  refine wp_region_T [(0, 0), (1, 1), (2, 0), (3, 0), (4, 0), (5, 1), (6, 0), (7, 0), (8, 0), (9, 0), (10, 1), (11, 0), (12, 0), (13, 0), (14, 0), (15, 1), (16, 0), (17, 0), (18, 0), (19, 0), (20, 1), (21, 0), (22, 0), (23, 0), (24, 0), (25, 1), (26, 0), (27, 0)] (by kernel_rfl) fun wd hb => ?_
  replace E := hid (E.out.trans hb)
  replace Ba := hid (Ba.out.up hb)
  replace Bb := hid (Bb.out.up hb)
  replace Bc := hid (Bc.out.up hb)
  replace Na := hid (Na.out.up hb)
  replace Nb := hid (Nb.out.up hb)
  replace Nc := hid (Nc.out.up hb)
  clear hb
  refine WE.pure (d := some 11) rfl rfl (by rfl) (v := (.agg #[.bool ga, .slice Aa na ca])) (fun w' hk => ?_) ?_
  · have c0 := hk.cell (Ba.out.cell (o := 0) (v := .bool ga) rfl); have c1 := hk.cell (Ba.out.cell (o := 1) (v := .slice Aa na ca) rfl); go_simp
  simp only [Act.put, List.setIfInBounds_toArray, List.set_cons_zero, List.set_cons_succ]
  refine WE.call (d := some 12) rfl rfl (by rfl) (f := 12) (args := #[(.agg #[.bool ga, .slice Aa na ca])]) (by go_simp) ?_
  refine (few_z Na.out fa.out).mono ?_
  rintro e wn ⟨rfl, hb⟩
  refine ⟨_, rfl, hb, ?_⟩
  replace E := hid (E.out.trans hb)
  replace Ba := hid (Ba.out.up hb)
  replace Bb := hid (Bb.out.up hb)
  replace Bc := hid (Bc.out.up hb)
  replace Na := hid (Na.out.up hb)
  replace Nb := hid (Nb.out.up hb)
  replace Nc := hid (Nc.out.up hb)
  clear hb
  simp only [Act.put, List.setIfInBounds_toArray, List.set_cons_zero, List.set_cons_succ]
  refine WE.pure (d := some 13) rfl rfl (by rfl) (v := (.bool false)) (fun w' hk => ?_) ?_
  · go_simp
  simp only [Act.put, List.setIfInBounds_toArray, List.set_cons_zero, List.set_cons_succ]
  refine WE.pure (d := some 14) rfl rfl (by rfl) (v := (.bool false)) (fun w' hk => ?_) ?_
  · go_simp
  simp only [Act.put, List.setIfInBounds_toArray, List.set_cons_zero, List.set_cons_succ]
  refine WE.pure (d := some 15) rfl rfl (by rfl) (v := (.agg #[.bool gb, .slice Ab nb cb])) (fun w' hk => ?_) ?_
  · have c0 := hk.cell (Bb.out.cell (o := 0) (v := .bool gb) rfl); have c1 := hk.cell (Bb.out.cell (o := 1) (v := .slice Ab nb cb) rfl); go_simp
  simp only [Act.put, List.setIfInBounds_toArray, List.set_cons_zero, List.set_cons_succ]
  refine WE.call (d := some 16) rfl rfl (by rfl) (f := 12) (args := #[(.agg #[.bool gb, .slice Ab nb cb])]) (by go_simp) ?_
  refine (few_z Nb.out fb.out).mono ?_
  rintro e wn ⟨rfl, hb⟩
  refine ⟨_, rfl, hb, ?_⟩
  replace E := hid (E.out.trans hb)
  replace Ba := hid (Ba.out.up hb)
  replace Bb := hid (Bb.out.up hb)
  replace Bc := hid (Bc.out.up hb)
  replace Na := hid (Na.out.up hb)
  replace Nb := hid (Nb.out.up hb)
  replace Nc := hid (Nc.out.up hb)
  clear hb
  simp only [Act.put, List.setIfInBounds_toArray, List.set_cons_zero, List.set_cons_succ]
  refine WE.pure (d := some 17) rfl rfl (by rfl) (v := (.bool false)) (fun w' hk => ?_) ?_
  · go_simp
  simp only [Act.put, List.setIfInBounds_toArray, List.set_cons_zero, List.set_cons_succ]
  refine WE.pure (d := some 18) rfl rfl (by rfl) (v := (.bool false)) (fun w' hk => ?_) ?_
  · go_simp
  simp only [Act.put, List.setIfInBounds_toArray, List.set_cons_zero, List.set_cons_succ]
  refine WE.pure (d := some 19) rfl rfl (by rfl) (v := (.bool false)) (fun w' hk => ?_) ?_
  · go_simp
  simp only [Act.put, List.setIfInBounds_toArray, List.set_cons_zero, List.set_cons_succ]
  refine WE.pure (d := some 20) rfl rfl (by rfl) (v := (.agg #[.bool gc, .slice Ac nc cc])) (fun w' hk => ?_) ?_
  · have c0 := hk.cell (Bc.out.cell (o := 0) (v := .bool gc) rfl); have c1 := hk.cell (Bc.out.cell (o := 1) (v := .slice Ac nc cc) rfl); go_simp
  simp only [Act.put, List.setIfInBounds_toArray, List.set_cons_zero, List.set_cons_succ]
  refine WE.call (d := some 21) rfl rfl (by rfl) (f := 12) (args := #[(.agg #[.bool gc, .slice Ac nc cc])]) (by go_simp) ?_
  refine (few_z Nc.out fc.out).mono ?_
  rintro e wn ⟨rfl, hb⟩
  refine ⟨_, rfl, hb, ?_⟩
  replace E := hid (E.out.trans hb)
  replace Ba := hid (Ba.out.up hb)
  replace Bb := hid (Bb.out.up hb)
  replace Bc := hid (Bc.out.up hb)
  replace Na := hid (Na.out.up hb)
  replace Nb := hid (Nb.out.up hb)
  replace Nc := hid (Nc.out.up hb)
  clear hb
  simp only [Act.put, List.setIfInBounds_toArray, List.set_cons_zero, List.set_cons_succ]
  refine WE.pure (d := some 22) rfl rfl (by rfl) (v := (.bool false)) (fun w' hk => ?_) ?_
  · go_simp
  simp only [Act.put, List.setIfInBounds_toArray, List.set_cons_zero, List.set_cons_succ]
  refine WE.pure (d := some 23) rfl rfl (by rfl) (v := (.bool false)) (fun w' hk => ?_) ?_
  · go_simp
  simp only [Act.put, List.setIfInBounds_toArray, List.set_cons_zero, List.set_cons_succ]
  refine WE.pure (d := some 24) rfl rfl (by rfl) (v := (.bool false)) (fun w' hk => ?_) ?_
  · go_simp
  simp only [Act.put, List.setIfInBounds_toArray, List.set_cons_zero, List.set_cons_succ]
  refine WE.pure (d := some 25) rfl rfl (by rfl) (v := (.agg #[.bool ga, .slice Aa na ca])) (fun w' hk => ?_) ?_
  · have c0 := hk.cell (Ba.out.cell (o := 0) (v := .bool ga) rfl); have c1 := hk.cell (Ba.out.cell (o := 1) (v := .slice Aa na ca) rfl); go_simp
  simp only [Act.put, List.setIfInBounds_toArray, List.set_cons_zero, List.set_cons_succ]
  refine WE.call (d := some 26) rfl rfl (by rfl) (f := 19) (args := #[(.agg #[.bool ga, .slice Aa na ca])]) (by go_simp) ?_
  refine (wIs_any Na.out ia.out).mono ?_
  rintro e wn ⟨rfl, hb⟩
  refine ⟨_, rfl, hb, ?_⟩
  replace E := hid (E.out.trans hb)
  replace Ba := hid (Ba.out.up hb)
  replace Bb := hid (Bb.out.up hb)
  replace Bc := hid (Bc.out.up hb)
  replace Na := hid (Na.out.up hb)
  replace Nb := hid (Nb.out.up hb)
  replace Nc := hid (Nc.out.up hb)
  clear hb
  simp only [Act.put, List.setIfInBounds_toArray, List.set_cons_zero, List.set_cons_succ]
  refine WE.pure (d := some 27) rfl rfl (by rfl) (v := (.bool false)) (fun w' hk => ?_) ?_
  · go_simp
  simp only [Act.put, List.setIfInBounds_toArray, List.set_cons_zero, List.set_cons_succ]
  refine WE.pure (d := some 28) rfl rfl (by rfl) (v := (.bool false)) (fun w' hk => ?_) ?_
  · go_simp
  simp only [Act.put, List.setIfInBounds_toArray, List.set_cons_zero, List.set_cons_succ]
  refine WE.pure (d := some 29) rfl rfl (by rfl) (v := (.bool false)) (fun w' hk => ?_) ?_
  · go_simp
  simp only [Act.put, List.setIfInBounds_toArray, List.set_cons_zero, List.set_cons_succ]
  refine WE.pure (d := some 30) rfl rfl (by rfl) (v := (.agg #[.bool gb, .slice Ab nb cb])) (fun w' hk => ?_) ?_
  · have c0 := hk.cell (Bb.out.cell (o := 0) (v := .bool gb) rfl); have c1 := hk.cell (Bb.out.cell (o := 1) (v := .slice Ab nb cb) rfl); go_simp
  simp only [Act.put, List.setIfInBounds_toArray, List.set_cons_zero, List.set_cons_succ]
  refine WE.call (d := some 31) rfl rfl (by rfl) (f := 19) (args := #[(.agg #[.bool gb, .slice Ab nb cb])]) (by go_simp) ?_
  refine (wIs_any Nb.out ib.out).mono ?_
  rintro e wn ⟨rfl, hb⟩
  refine ⟨_, rfl, hb, ?_⟩
  replace E := hid (E.out.trans hb)
  replace Ba := hid (Ba.out.up hb)
  replace Bb := hid (Bb.out.up hb)
  replace Bc := hid (Bc.out.up hb)
  replace Na := hid (Na.out.up hb)
  replace Nb := hid (Nb.out.up hb)
  replace Nc := hid (Nc.out.up hb)
  clear hb
  simp only [Act.put, List.setIfInBounds_toArray, List.set_cons_zero, List.set_cons_succ]
  refine WE.pure (d := some 32) rfl rfl (by rfl) (v := (.bool false)) (fun w' hk => ?_) ?_
  · go_simp
  simp only [Act.put, List.setIfInBounds_toArray, List.set_cons_zero, List.set_cons_succ]
  refine WE.pure (d := some 33) rfl rfl (by rfl) (v := (.bool false)) (fun w' hk => ?_) ?_
  · go_simp
  simp only [Act.put, List.setIfInBounds_toArray, List.set_cons_zero, List.set_cons_succ]
  refine WE.pure (d := some 34) rfl rfl (by rfl) (v := (.bool false)) (fun w' hk => ?_) ?_
  · go_simp
  simp only [Act.put, List.setIfInBounds_toArray, List.set_cons_zero, List.set_cons_succ]
  refine WE.pure (d := some 35) rfl rfl (by rfl) (v := (.agg #[.bool gc, .slice Ac nc cc])) (fun w' hk => ?_) ?_
  · have c0 := hk.cell (Bc.out.cell (o := 0) (v := .bool gc) rfl); have c1 := hk.cell (Bc.out.cell (o := 1) (v := .slice Ac nc cc) rfl); go_simp
  simp only [Act.put, List.setIfInBounds_toArray, List.set_cons_zero, List.set_cons_succ]
  refine WE.call (d := some 36) rfl rfl (by rfl) (f := 19) (args := #[(.agg #[.bool gc, .slice Ac nc cc])]) (by go_simp) ?_
  refine (wIs_any Nc.out ic.out).mono ?_
  rintro e wn ⟨rfl, hb⟩
  refine ⟨_, rfl, hb, ?_⟩
  replace E := hid (E.out.trans hb)
  replace Ba := hid (Ba.out.up hb)
  replace Bb := hid (Bb.out.up hb)
  replace Bc := hid (Bc.out.up hb)
  replace Na := hid (Na.out.up hb)
  replace Nb := hid (Nb.out.up hb)
  replace Nc := hid (Nc.out.up hb)
  clear hb
  simp only [Act.put, List.setIfInBounds_toArray, List.set_cons_zero, List.set_cons_succ]
  refine WE.pure (d := some 37) rfl rfl (by rfl) (v := (.bool true)) (fun w' hk => ?_) ?_
  · go_simp
  simp only [Act.put, List.setIfInBounds_toArray, List.set_cons_zero, List.set_cons_succ]
  refine WE.pure (d := some 38) rfl rfl (by rfl) (v := (.bool true)) (fun w' hk => ?_) ?_
  · go_simp
  simp only [Act.put, List.setIfInBounds_toArray, List.set_cons_zero, List.set_cons_succ]
  refine WE.done ?_
  go_wp2
  go_ret
  exact ⟨rfl, E.out⟩

set_option maxRecDepth 100000 in
set_option maxHeartbeats 8000000 in
theorem wholeRules_main (W : World) (ga : Bool) (Aa : Option Addr) (na ca : Nat) (la : List Nat) (ha : Num W W.heap.size (.slice Aa na ca) la) (gb : Bool) (Ab : Option Addr) (nb cb : Nat) (lb : List Nat) (hb : Num W W.heap.size (.slice Ab nb cb) lb) (gc : Bool) (Ac : Option Addr) (nc cc : Nat) (lc : List Nat) (hc : Num W W.heap.size (.slice Ac nc cc) lc) (fa : Hid (decide (la.length ≤ 8) = true)) (fb : Hid (decide (lb.length ≤ 8) = true)) (fc : Hid (decide (lc.length ≤ 8) = true)) (ia : Hid (M.isZ ga la = true)) (ib : Hid (M.isZ gb lb = true)) (ic : Hid (M.isZ gc lc = true)) (x : Int) (HX : Hid (x = M.zv ga la)) (y : Int) (HY : Hid (y = M.zv gb lb)) (z : Int) (HZ : Hid (z = M.zv gc lc)) :
    Calls Try.prog 4 #[.agg #[.bool ga, .slice Aa na ca], .agg #[.bool gb, .slice Ab nb cb], .agg #[.bool gc, .slice Ac nc cc]] W (fun e w' => e = .returned (.bool true) ∧ Ext W w') := by
  obtain ⟨sa, hsa⟩ : ∃ s : Int, x.sign = s := ⟨_, rfl⟩
  obtain ⟨sb, hsb⟩ : ∃ s : Int, y.sign = s := ⟨_, rfl⟩
  obtain ⟨sp, hsp⟩ : ∃ s : Int, (x * y).sign = s := ⟨_, rfl⟩
  obtain ⟨sd, hsd⟩ : ∃ s : Int, (x - y).sign = s := ⟨_, rfl⟩
  obtain ⟨sg, hsg⟩ : ∃ s : Int, ((x.natAbs : Int)).sign = s := ⟨_, rfl⟩
  have HSA := hid hsa
  have HSB := hid hsb
  have HSP := hid hsp
  have HSD := hid hsd
  have HSG := hid hsg
  have hw : IntKind.i64.wrap (sa * sb) = sp := by rw [← hsa, ← hsb, ← hsp, Int.sign_mul]; exact side_mul (side_of x).1 (side_of x).2 (side_of y).1 (side_of y).2
  have hge : decide (0 ≤ sg) = true := by rw [← hsg]; simp [Int.sign_nonneg_iff]
  clear hsa hsb hsp hsd hsg
  have Na := hid ha
  have Nb := hid hb
  have Nc := hid hc
  have Ra := hid (worth_of ha (of_decide_eq_true fa.out) HX.out)
  have Rb := hid (worth_of hb (of_decide_eq_true fb.out) HY.out)
  have Rc := hid (worth_of hc (of_decide_eq_true fc.out) HZ.out)
  clear ha hb hc
  go_enter Try.func4, Try.ntmps4
  go_upto_region 1 with (fail)
  have E := hid ((((Ext.refl W).alloc' (.cells #[.bool ga, .slice Aa na ca] 24)).alloc' (.cells #[.bool gb, .slice Ab nb cb] 24)).alloc' (.cells #[.bool gc, .slice Ac nc cc] 24))
  have Ba : Hid (Box (((W.alloc (.cells #[.bool ga, .slice Aa na ca] 24)).alloc (.cells #[.bool gb, .slice Ab nb cb] 24)).alloc (.cells #[.bool gc, .slice Ac nc cc] 24)) (W.heap.size) #[.bool ga, .slice Aa na ca] 24) := hid (((Box.at_ (w := W) #[.bool ga, .slice Aa na ca] 24 (by simp)).alloc (.cells #[.bool gb, .slice Ab nb cb] 24)).alloc (.cells #[.bool gc, .slice Ac nc cc] 24))
  have Bb : Hid (Box (((W.alloc (.cells #[.bool ga, .slice Aa na ca] 24)).alloc (.cells #[.bool gb, .slice Ab nb cb] 24)).alloc (.cells #[.bool gc, .slice Ac nc cc] 24)) (W.heap.size + 1) #[.bool gb, .slice Ab nb cb] 24) := hid ((Box.at_ (w := (W.alloc (.cells #[.bool ga, .slice Aa na ca] 24))) #[.bool gb, .slice Ab nb cb] 24 (by simp)).alloc (.cells #[.bool gc, .slice Ac nc cc] 24))
  have Bc : Hid (Box (((W.alloc (.cells #[.bool ga, .slice Aa na ca] 24)).alloc (.cells #[.bool gb, .slice Ab nb cb] 24)).alloc (.cells #[.bool gc, .slice Ac nc cc] 24)) (W.heap.size + 2) #[.bool gc, .slice Ac nc cc] 24) := hid (Box.at_ (w := ((W.alloc (.cells #[.bool ga, .slice Aa na ca] 24)).alloc (.cells #[.bool gb, .slice Ab nb cb] 24))) #[.bool gc, .slice Ac nc cc] 24 (by simp))
  replace Na := hid (Na.out.up E.out)
  replace Nb := hid (Nb.out.up E.out)
  replace Nc := hid (Nc.out.up E.out)
  replace Ra := hid (Ra.out.up E.out)
  replace Rb := hid (Rb.out.up E.out)
  replace Rc := hid (Rc.out.up E.out)
  go_upto_region 1 with (fail)
  refine wp_region_T [(0, 1), (1, 0)] (by kernel_rfl) fun wd hb => ?_
  replace E := hid (E.out.trans hb)
  replace Ba := hid (Ba.out.up hb)
  replace Bb := hid (Bb.out.up hb)
  replace Bc := hid (Bc.out.up hb)
  replace Na := hid (Na.out.up hb)
  replace Nb := hid (Nb.out.up hb)
  replace Nc := hid (Nc.out.up hb)
  replace Ra := hid (Ra.out.up hb)
  replace Rb := hid (Rb.out.up hb)
  replace Rc := hid (Rc.out.up hb)
  clear hb
  refine WE.call (d := some 9) rfl rfl (by rfl) (f := 11) (args := #[]) (by go_simp) ?_
  refine (known2 _).mono ?_
  rintro e wn ⟨rfl, hb⟩
  refine ⟨_, rfl, hb, ?_⟩
  replace E := hid (E.out.trans hb)
  replace Ba := hid (Ba.out.up hb)
  replace Bb := hid (Bb.out.up hb)
  replace Bc := hid (Bc.out.up hb)
  replace Na := hid (Na.out.up hb)
  replace Nb := hid (Nb.out.up hb)
  replace Nc := hid (Nc.out.up hb)
  replace Ra := hid (Ra.out.up hb)
  replace Rb := hid (Rb.out.up hb)
  replace Rc := hid (Rc.out.up hb)
  clear hb
  simp only [Act.put, List.setIfInBounds_toArray, List.set_cons_zero, List.set_cons_succ]
  refine WE.pure (d := some 10) rfl rfl (by rfl) (v := (.bool false)) (fun w' hk => ?_) ?_
  · go_simp
  simp only [Act.put, List.setIfInBounds_toArray, List.set_cons_zero, List.set_cons_succ]
  refine WE.done ?_
  go_upto_region 3 with (fail)
  refine wp_region_T [(0, 0), (1, 1), (2, 0), (3, 0), (4, 0), (5, 1), (6, 0), (7, 0), (8, 0), (9, 0), (10, 1), (11, 0), (12, 0), (13, 0), (14, 0), (15, 1), (16, 0), (17, 0), (18, 0), (19, 0), (20, 1), (21, 0), (22, 0), (23, 0), (24, 0), (25, 1), (26, 0), (27, 0)] (by kernel_rfl) fun wd hb => ?_
  replace E := hid (E.out.trans hb)
  replace Ba := hid (Ba.out.up hb)
  replace Bb := hid (Bb.out.up hb)
  replace Bc := hid (Bc.out.up hb)
  replace Na := hid (Na.out.up hb)
  replace Nb := hid (Nb.out.up hb)
  replace Nc := hid (Nc.out.up hb)
  replace Ra := hid (Ra.out.up hb)
  replace Rb := hid (Rb.out.up hb)
  replace Rc := hid (Rc.out.up hb)
  clear hb
  refine WE.pure (d := some 11) rfl rfl (by rfl) (v := (.agg #[.bool ga, .slice Aa na ca])) (fun w' hk => ?_) ?_
  · have c0 := hk.cell (Ba.out.cell (o := 0) (v := .bool ga) rfl); have c1 := hk.cell (Ba.out.cell (o := 1) (v := .slice Aa na ca) rfl); go_simp
  simp only [Act.put, List.setIfInBounds_toArray, List.set_cons_zero, List.set_cons_succ]
  refine WE.call (d := some 12) rfl rfl (by rfl) (f := 12) (args := #[(.agg #[.bool ga, .slice Aa na ca])]) (by go_simp) ?_
  refine (few_z Na.out fa.out).mono ?_
  rintro e wn ⟨rfl, hb⟩
  refine ⟨_, rfl, hb, ?_⟩
  replace E := hid (E.out.trans hb)
  replace Ba := hid (Ba.out.up hb)
  replace Bb := hid (Bb.out.up hb)
  replace Bc := hid (Bc.out.up hb)
  replace Na := hid (Na.out.up hb)
  replace Nb := hid (Nb.out.up hb)
  replace Nc := hid (Nc.out.up hb)
  replace Ra := hid (Ra.out.up hb)
  replace Rb := hid (Rb.out.up hb)
  replace Rc := hid (Rc.out.up hb)
  clear hb
  simp only [Act.put, List.setIfInBounds_toArray, List.set_cons_zero, List.set_cons_succ]
  refine WE.pure (d := some 13) rfl rfl (by rfl) (v := (.bool false)) (fun w' hk => ?_) ?_
  · go_simp
  simp only [Act.put, List.setIfInBounds_toArray, List.set_cons_zero, List.set_cons_succ]
  refine WE.pure (d := some 14) rfl rfl (by rfl) (v := (.bool false)) (fun w' hk => ?_) ?_
  · go_simp
  simp only [Act.put, List.setIfInBounds_toArray, List.set_cons_zero, List.set_cons_succ]
  refine WE.pure (d := some 15) rfl rfl (by rfl) (v := (.agg #[.bool gb, .slice Ab nb cb])) (fun w' hk => ?_) ?_
  · have c0 := hk.cell (Bb.out.cell (o := 0) (v := .bool gb) rfl); have c1 := hk.cell (Bb.out.cell (o := 1) (v := .slice Ab nb cb) rfl); go_simp
  simp only [Act.put, List.setIfInBounds_toArray, List.set_cons_zero, List.set_cons_succ]
  refine WE.call (d := some 16) rfl rfl (by rfl) (f := 12) (args := #[(.agg #[.bool gb, .slice Ab nb cb])]) (by go_simp) ?_
  refine (few_z Nb.out fb.out).mono ?_
  rintro e wn ⟨rfl, hb⟩
  refine ⟨_, rfl, hb, ?_⟩
  replace E := hid (E.out.trans hb)
  replace Ba := hid (Ba.out.up hb)
  replace Bb := hid (Bb.out.up hb)
  replace Bc := hid (Bc.out.up hb)
  replace Na := hid (Na.out.up hb)
  replace Nb := hid (Nb.out.up hb)
  replace Nc := hid (Nc.out.up hb)
  replace Ra := hid (Ra.out.up hb)
  replace Rb := hid (Rb.out.up hb)
  replace Rc := hid (Rc.out.up hb)
  clear hb
  simp only [Act.put, List.setIfInBounds_toArray, List.set_cons_zero, List.set_cons_succ]
  refine WE.pure (d := some 17) rfl rfl (by rfl) (v := (.bool false)) (fun w' hk => ?_) ?_
  · go_simp
  simp only [Act.put, List.setIfInBounds_toArray, List.set_cons_zero, List.set_cons_succ]
  refine WE.pure (d := some 18) rfl rfl (by rfl) (v := (.bool false)) (fun w' hk => ?_) ?_
  · go_simp
  simp only [Act.put, List.setIfInBounds_toArray, List.set_cons_zero, List.set_cons_succ]
  refine WE.pure (d := some 19) rfl rfl (by rfl) (v := (.bool false)) (fun w' hk => ?_) ?_
  · go_simp
  simp only [Act.put, List.setIfInBounds_toArray, List.set_cons_zero, List.set_cons_succ]
  as_aux_lemma =>
    refine WE.pure (d := some 20) rfl rfl (by rfl) (v := (.agg #[.bool gc, .slice Ac nc cc])) (fun w' hk => ?_) ?_
    · have c0 := hk.cell (Bc.out.cell (o := 0) (v := .bool gc) rfl); have c1 := hk.cell (Bc.out.cell (o := 1) (v := .slice Ac nc cc) rfl); go_simp
    simp only [Act.put, List.setIfInBounds_toArray, List.set_cons_zero, List.set_cons_succ]
    refine WE.call (d := some 21) rfl rfl (by rfl) (f := 12) (args := #[(.agg #[.bool gc, .slice Ac nc cc])]) (by go_simp) ?_
    refine (few_z Nc.out fc.out).mono ?_
    rintro e wn ⟨rfl, hb⟩
    refine ⟨_, rfl, hb, ?_⟩
    replace E := hid (E.out.trans hb)
    replace Ba := hid (Ba.out.up hb)
    replace Bb := hid (Bb.out.up hb)
    replace Bc := hid (Bc.out.up hb)
    replace Na := hid (Na.out.up hb)
    replace Nb := hid (Nb.out.up hb)
    replace Nc := hid (Nc.out.up hb)
    replace Ra := hid (Ra.out.up hb)
    replace Rb := hid (Rb.out.up hb)
    replace Rc := hid (Rc.out.up hb)
    clear hb
    simp only [Act.put, List.setIfInBounds_toArray, List.set_cons_zero, List.set_cons_succ]
    refine WE.pure (d := some 22) rfl rfl (by rfl) (v := (.bool false)) (fun w' hk => ?_) ?_
    · go_simp
    simp only [Act.put, List.setIfInBounds_toArray, List.set_cons_zero, List.set_cons_succ]
    refine WE.pure (d := some 23) rfl rfl (by rfl) (v := (.bool false)) (fun w' hk => ?_) ?_
    · go_simp
    simp only [Act.put, List.setIfInBounds_toArray, List.set_cons_zero, List.set_cons_succ]
    refine WE.pure (d := some 24) rfl rfl (by rfl) (v := (.bool false)) (fun w' hk => ?_) ?_
    · go_simp
    simp only [Act.put, List.setIfInBounds_toArray, List.set_cons_zero, List.set_cons_succ]
    refine WE.pure (d := some 25) rfl rfl (by rfl) (v := (.agg #[.bool ga, .slice Aa na ca])) (fun w' hk => ?_) ?_
    · have c0 := hk.cell (Ba.out.cell (o := 0) (v := .bool ga) rfl); have c1 := hk.cell (Ba.out.cell (o := 1) (v := .slice Aa na ca) rfl); go_simp
    simp only [Act.put, List.setIfInBounds_toArray, List.set_cons_zero, List.set_cons_succ]
    refine WE.call (d := some 26) rfl rfl (by rfl) (f := 19) (args := #[(.agg #[.bool ga, .slice Aa na ca])]) (by go_simp) ?_
    refine (wIs_any Na.out ia.out).mono ?_
    rintro e wn ⟨rfl, hb⟩
    refine ⟨_, rfl, hb, ?_⟩
    replace E := hid (E.out.trans hb)
    replace Ba := hid (Ba.out.up hb)
    replace Bb := hid (Bb.out.up hb)
    replace Bc := hid (Bc.out.up hb)
    replace Na := hid (Na.out.up hb)
    replace Nb := hid (Nb.out.up hb)
    replace Nc := hid (Nc.out.up hb)
    replace Ra := hid (Ra.out.up hb)
    replace Rb := hid (Rb.out.up hb)
    replace Rc := hid (Rc.out.up hb)
    clear hb
    simp only [Act.put, List.setIfInBounds_toArray, List.set_cons_zero, List.set_cons_succ]
    refine WE.pure (d := some 27) rfl rfl (by rfl) (v := (.bool false)) (fun w' hk => ?_) ?_
    · go_simp
    simp only [Act.put, List.setIfInBounds_toArray, List.set_cons_zero, List.set_cons_succ]
    refine WE.pure (d := some 28) rfl rfl (by rfl) (v := (.bool false)) (fun w' hk => ?_) ?_
    · go_simp
    simp only [Act.put, List.setIfInBounds_toArray, List.set_cons_zero, List.set_cons_succ]
    refine WE.pure (d := some 29) rfl rfl (by rfl) (v := (.bool false)) (fun w' hk => ?_) ?_
    · go_simp
    simp only [Act.put, List.setIfInBounds_toArray, List.set_cons_zero, List.set_cons_succ]
    refine WE.pure (d := some 30) rfl rfl (by rfl) (v := (.agg #[.bool gb, .slice Ab nb cb])) (fun w' hk => ?_) ?_
    · have c0 := hk.cell (Bb.out.cell (o := 0) (v := .bool gb) rfl); have c1 := hk.cell (Bb.out.cell (o := 1) (v := .slice Ab nb cb) rfl); go_simp
    simp only [Act.put, List.setIfInBounds_toArray, List.set_cons_zero, List.set_cons_succ]
    refine WE.call (d := some 31) rfl rfl (by rfl) (f := 19) (args := #[(.agg #[.bool gb, .slice Ab nb cb])]) (by go_simp) ?_
    refine (wIs_any Nb.out ib.out).mono ?_
    rintro e wn ⟨rfl, hb⟩
    refine ⟨_, rfl, hb, ?_⟩
    replace E := hid (E.out.trans hb)
    replace Ba := hid (Ba.out.up hb)
    replace Bb := hid (Bb.out.up hb)
    replace Bc := hid (Bc.out.up hb)
    replace Na := hid (Na.out.up hb)
    replace Nb := hid (Nb.out.up hb)
    replace Nc := hid (Nc.out.up hb)
    replace Ra := hid (Ra.out.up hb)
    replace Rb := hid (Rb.out.up hb)
    replace Rc := hid (Rc.out.up hb)
    clear hb
    simp only [Act.put, List.setIfInBounds_toArray, List.set_cons_zero, List.set_cons_succ]
    as_aux_lemma =>
      refine WE.pure (d := some 32) rfl rfl (by rfl) (v := (.bool false)) (fun w' hk => ?_) ?_
      · go_simp
      simp only [Act.put, List.setIfInBounds_toArray, List.set_cons_zero, List.set_cons_succ]
      refine WE.pure (d := some 33) rfl rfl (by rfl) (v := (.bool false)) (fun w' hk => ?_) ?_
      · go_simp
      simp only [Act.put, List.setIfInBounds_toArray, List.set_cons_zero, List.set_cons_succ]
      refine WE.pure (d := some 34) rfl rfl (by rfl) (v := (.bool false)) (fun w' hk => ?_) ?_
      · go_simp
      simp only [Act.put, List.setIfInBounds_toArray, List.set_cons_zero, List.set_cons_succ]
      refine WE.pure (d := some 35) rfl rfl (by rfl) (v := (.agg #[.bool gc, .slice Ac nc cc])) (fun w' hk => ?_) ?_
      · have c0 := hk.cell (Bc.out.cell (o := 0) (v := .bool gc) rfl); have c1 := hk.cell (Bc.out.cell (o := 1) (v := .slice Ac nc cc) rfl); go_simp
      simp only [Act.put, List.setIfInBounds_toArray, List.set_cons_zero, List.set_cons_succ]
      refine WE.call (d := some 36) rfl rfl (by rfl) (f := 19) (args := #[(.agg #[.bool gc, .slice Ac nc cc])]) (by go_simp) ?_
      refine (wIs_any Nc.out ic.out).mono ?_
      rintro e wn ⟨rfl, hb⟩
      refine ⟨_, rfl, hb, ?_⟩
      replace E := hid (E.out.trans hb)
      replace Ba := hid (Ba.out.up hb)
      replace Bb := hid (Bb.out.up hb)
      replace Bc := hid (Bc.out.up hb)
      replace Na := hid (Na.out.up hb)
      replace Nb := hid (Nb.out.up hb)
      replace Nc := hid (Nc.out.up hb)
      replace Ra := hid (Ra.out.up hb)
      replace Rb := hid (Rb.out.up hb)
      replace Rc := hid (Rc.out.up hb)
      clear hb
      simp only [Act.put, List.setIfInBounds_toArray, List.set_cons_zero, List.set_cons_succ]
      refine WE.pure (d := some 37) rfl rfl (by rfl) (v := (.bool false)) (fun w' hk => ?_) ?_
      · go_simp
      simp only [Act.put, List.setIfInBounds_toArray, List.set_cons_zero, List.set_cons_succ]
      refine WE.pure (d := some 38) rfl rfl (by rfl) (v := (.bool false)) (fun w' hk => ?_) ?_
      · go_simp
      simp only [Act.put, List.setIfInBounds_toArray, List.set_cons_zero, List.set_cons_succ]
      refine WE.done ?_
      go_upto_region 5 with (fail)
      refine wp_region_E [(0, 0), (1, 0), (3, 0), (4, 0), (2, 2), (5, 2), (6, 3), (7, 3), (8, 4), (9, 4)] (fun _ => (24, #[.bool false, .slice none 0 0])) rfl (by kernel_rfl) (by intro j hj; simp [pend] at hj; rcases hj with rfl | rfl <;> exact ⟨_, rfl, rfl, rfl, fun w => by go_simp⟩) (fun _ _ d _ _ => by cases d <;> exact Iff.rfl) fun wd hb => ?_
      replace E := hid (E.out.trans hb)
      replace Ba := hid (Ba.out.up hb)
      replace Bb := hid (Bb.out.up hb)
      replace Bc := hid (Bc.out.up hb)
      replace Na := hid (Na.out.up hb)
      replace Nb := hid (Nb.out.up hb)
      replace Nc := hid (Nc.out.up hb)
      replace Ra := hid (Ra.out.up hb)
      replace Rb := hid (Rb.out.up hb)
      replace Rc := hid (Rc.out.up hb)
      clear hb
      have HL1Ba := hid Ba.out.lt
      have HL1Bb := hid Bb.out.lt
      have HL1Bc := hid Bc.out.lt
      have HW1 := hid (show W.heap.size ≤ wd.heap.size from E.out.size)
      refine WE.pure (d := some 39) rfl rfl (by rfl) (v := (.agg #[.bool ga, .slice Aa na ca])) (fun w' hk => ?_) ?_
      · have c0 := hk.cell (Ba.out.cell (o := 0) (v := .bool ga) rfl); have c1 := hk.cell (Ba.out.cell (o := 1) (v := .slice Aa na ca) rfl); go_simp
      simp only [Act.put, List.setIfInBounds_toArray, List.set_cons_zero, List.set_cons_succ]
      refine WE.pure (d := some 40) rfl rfl (by rfl) (v := (.agg #[.bool gb, .slice Ab nb cb])) (fun w' hk => ?_) ?_
      · have c0 := hk.cell (Bb.out.cell (o := 0) (v := .bool gb) rfl); have c1 := hk.cell (Bb.out.cell (o := 1) (v := .slice Ab nb cb) rfl); go_simp
      simp only [Act.put, List.setIfInBounds_toArray, List.set_cons_zero, List.set_cons_succ]
      refine WE.pure (d := some 42) rfl rfl (by rfl) (v := (.agg #[.bool ga, .slice Aa na ca])) (fun w' hk => ?_) ?_
      · have c0 := hk.cell (Ba.out.cell (o := 0) (v := .bool ga) rfl); have c1 := hk.cell (Ba.out.cell (o := 1) (v := .slice Aa na ca) rfl); go_simp
      simp only [Act.put, List.setIfInBounds_toArray, List.set_cons_zero, List.set_cons_succ]
      refine WE.pure (d := some 43) rfl rfl (by rfl) (v := (.agg #[.bool gb, .slice Ab nb cb])) (fun w' hk => ?_) ?_
      · have c0 := hk.cell (Bb.out.cell (o := 0) (v := .bool gb) rfl); have c1 := hk.cell (Bb.out.cell (o := 1) (v := .slice Ab nb cb) rfl); go_simp
      simp only [Act.put, List.setIfInBounds_toArray, List.set_cons_zero, List.set_cons_succ]
      refine WE.callR (d := some 41) rfl rfl (by rfl) (f := 34) (args := #[(.agg #[.bool ga, .slice Aa na ca]), (.agg #[.bool gb, .slice Ab nb cb])]) (fun w => by go_simp) (fun wx hx0 => ?_)
      replace E := hid (E.out.trans hx0)
      replace Ba := hid (Ba.out.up hx0)
      replace Bb := hid (Bb.out.up hx0)
      replace Bc := hid (Bc.out.up hx0)
      replace Na := hid (Na.out.up hx0)
      replace Nb := hid (Nb.out.up hx0)
      replace Nc := hid (Nc.out.up hx0)
      replace Ra := hid (Ra.out.up hx0)
      replace Rb := hid (Rb.out.up hx0)
      replace Rc := hid (Rc.out.up hx0)
      clear hx0
      refine (add_w Ra.out Rb.out (by omega) (by omega)).mono ?_
      rintro e wn ⟨v1, rfl, x1, hb⟩
      obtain ⟨g1, A1, n1, c1, rfl⟩ := x1.shape
      refine ⟨_, rfl, hb, ?_⟩
      replace E := hid (E.out.trans hb)
      replace Ba := hid (Ba.out.up hb)
      replace Bb := hid (Bb.out.up hb)
      replace Bc := hid (Bc.out.up hb)
      replace Na := hid (Na.out.up hb)
      replace Nb := hid (Nb.out.up hb)
      replace Nc := hid (Nc.out.up hb)
      replace Ra := hid (Ra.out.up hb)
      replace Rb := hid (Rb.out.up hb)
      replace Rc := hid (Rc.out.up hb)
      have Q1 := hid x1
      clear hb x1
      simp only [Act.put, List.setIfInBounds_toArray, List.set_cons_zero, List.set_cons_succ]
      as_aux_lemma =>
        refine WE.callR (d := some 44) rfl rfl (by rfl) (f := 38) (args := #[(.agg #[.bool ga, .slice Aa na ca]), (.agg #[.bool gb, .slice Ab nb cb])]) (fun w => by go_simp) (fun wx hx0 => ?_)
        replace E := hid (E.out.trans hx0)
        replace Ba := hid (Ba.out.up hx0)
        replace Bb := hid (Bb.out.up hx0)
        replace Bc := hid (Bc.out.up hx0)
        replace Na := hid (Na.out.up hx0)
        replace Nb := hid (Nb.out.up hx0)
        replace Nc := hid (Nc.out.up hx0)
        replace Ra := hid (Ra.out.up hx0)
        replace Rb := hid (Rb.out.up hx0)
        replace Rc := hid (Rc.out.up hx0)
        replace Q1 := hid (Q1.out.up hx0)
        clear hx0
        refine (mul_w Ra.out Rb.out (by omega) (by omega) (by omega)).mono ?_
        rintro e wn ⟨v1, rfl, x1, hb⟩
        obtain ⟨g2, A2, n2, c2, rfl⟩ := x1.shape
        refine ⟨_, rfl, hb, ?_⟩
        replace E := hid (E.out.trans hb)
        replace Ba := hid (Ba.out.up hb)
        replace Bb := hid (Bb.out.up hb)
        replace Bc := hid (Bc.out.up hb)
        replace Na := hid (Na.out.up hb)
        replace Nb := hid (Nb.out.up hb)
        replace Nc := hid (Nc.out.up hb)
        replace Ra := hid (Ra.out.up hb)
        replace Rb := hid (Rb.out.up hb)
        replace Rc := hid (Rc.out.up hb)
        replace Q1 := hid (Q1.out.up hb)
        have Q2 := hid x1
        clear hb x1
        simp only [Act.put, List.setIfInBounds_toArray, List.set_cons_zero, List.set_cons_succ]
        refine WE.var (d := some 7) rfl fun gV7 wv hx0 hbox hge hng => ?_
        have HNV7Ba := hid (show gV7 ≠ (W.heap.size) by have := HL1Ba.out; omega)
        have HNV7Bb := hid (show gV7 ≠ (W.heap.size + 1) by have := HL1Bb.out; omega)
        have HNV7Bc := hid (show gV7 ≠ (W.heap.size + 2) by have := HL1Bc.out; omega)
        have HGV7 := hid (show W.heap.size ≤ gV7 by have := HW1.out; omega)
        replace E := hid (E.out.trans hx0)
        replace Ba := hid (Ba.out.up hx0)
        replace Bb := hid (Bb.out.up hx0)
        replace Bc := hid (Bc.out.up hx0)
        replace Na := hid (Na.out.up hx0)
        replace Nb := hid (Nb.out.up hx0)
        replace Nc := hid (Nc.out.up hx0)
        replace Ra := hid (Ra.out.up hx0)
        replace Rb := hid (Rb.out.up hx0)
        replace Rc := hid (Rc.out.up hx0)
        replace Q1 := hid (Q1.out.up hx0)
        replace Q2 := hid (Q2.out.up hx0)
        have V7 : Hid (Box wv gV7 #[.bool false, .slice none 0 0] 24) := hid hbox
        clear hx0 hbox hge hng
        simp only [Act.put, List.setIfInBounds_toArray, List.set_cons_zero, List.set_cons_succ]
        refine WE.var (d := some 8) rfl fun gV8 wv hx0 hbox hge hng => ?_
        have HNV8Ba := hid (show gV8 ≠ (W.heap.size) by have := HL1Ba.out; omega)
        have HNV8Bb := hid (show gV8 ≠ (W.heap.size + 1) by have := HL1Bb.out; omega)
        have HNV8Bc := hid (show gV8 ≠ (W.heap.size + 2) by have := HL1Bc.out; omega)
        have HNV8V7 := hid (show gV8 ≠ gV7 by intro e; exact hng (by simp [e]))
        have HGV8 := hid (show W.heap.size ≤ gV8 by have := HW1.out; omega)
        replace E := hid (E.out.trans hx0)
        replace Ba := hid (Ba.out.up hx0)
        replace Bb := hid (Bb.out.up hx0)
        replace Bc := hid (Bc.out.up hx0)
        replace V7 := hid (V7.out.up hx0)
        replace Na := hid (Na.out.up hx0)
        replace Nb := hid (Nb.out.up hx0)
        replace Nc := hid (Nc.out.up hx0)
        replace Ra := hid (Ra.out.up hx0)
        replace Rb := hid (Rb.out.up hx0)
        replace Rc := hid (Rc.out.up hx0)
        replace Q1 := hid (Q1.out.up hx0)
        replace Q2 := hid (Q2.out.up hx0)
        have V8 : Hid (Box wv gV8 #[.bool false, .slice none 0 0] 24) := hid hbox
        clear hx0 hbox hge hng
        simp only [Act.put, List.setIfInBounds_toArray, List.set_cons_zero, List.set_cons_succ]
        refine WE.store2 (g := gV7) (x := .bool g1) (y := .slice A1 n1 c1) (t := 24) rfl rfl (by rfl) (fun w hb => ?_) V7.out (by rfl) fun ws hk hs => ?_
        · have c0 := hb.cell (o := 0) (v := .bool false) rfl; have f0 := hb.free 0; have c1 := hb.cell (o := 1) (v := .slice none 0 0) rfl; have f1 := hb.free 1; go_simp
        intro hbx
        replace E := hid (E.out.keptG hk HGV7.out)
        replace Ba := hid (Ba.out.kept hk (by simpa using HNV7Ba.out.symm))
        replace Bb := hid (Bb.out.kept hk (by simpa using HNV7Bb.out.symm))
        replace Bc := hid (Bc.out.kept hk (by simpa using HNV7Bc.out.symm))
        replace V7 := hid hbx
        replace V8 := hid (V8.out.kept hk (by simpa using HNV8V7.out))
        replace Na := hid (Na.out.kz hs)
        replace Nb := hid (Nb.out.kz hs)
        replace Nc := hid (Nc.out.kz hs)
        replace Ra := hid (Ra.out.kz hs)
        replace Rb := hid (Rb.out.kz hs)
        replace Rc := hid (Rc.out.kz hs)
        replace Q1 := hid (Q1.out.kz hs)
        replace Q2 := hid (Q2.out.kz hs)
        clear hk hs hbx
        refine WE.store2 (g := gV8) (x := .bool g2) (y := .slice A2 n2 c2) (t := 24) rfl rfl (by rfl) (fun w hb => ?_) V8.out (by rfl) fun ws hk hs => ?_
        · have c0 := hb.cell (o := 0) (v := .bool false) rfl; have f0 := hb.free 0; have c1 := hb.cell (o := 1) (v := .slice none 0 0) rfl; have f1 := hb.free 1; go_simp
        intro hbx
        replace E := hid (E.out.keptG hk HGV8.out)
        replace Ba := hid (Ba.out.kept hk (by simpa using HNV8Ba.out.symm))
        replace Bb := hid (Bb.out.kept hk (by simpa using HNV8Bb.out.symm))
        replace Bc := hid (Bc.out.kept hk (by simpa using HNV8Bc.out.symm))
        replace V7 := hid (V7.out.kept hk (by simpa using HNV8V7.out.symm))
        replace V8 := hid hbx
        replace Na := hid (Na.out.kz hs)
        replace Nb := hid (Nb.out.kz hs)
        replace Nc := hid (Nc.out.kz hs)
        replace Ra := hid (Ra.out.kz hs)
        replace Rb := hid (Rb.out.kz hs)
        replace Rc := hid (Rc.out.kz hs)
        replace Q1 := hid (Q1.out.kz hs)
        replace Q2 := hid (Q2.out.kz hs)
        clear hk hs hbx
        refine WE.done ?_
        go_upto_region 6 with (fail)
        refine wp_region_E [(0, 0), (1, 1), (2, 0), (3, 0), (4, 1), (5, 0), (6, 0), (7, 0), (8, 0), (9, 0), (10, 1), (11, 1), (12, 0), (13, 0), (14, 0), (15, 0), (17, 0), (16, 1), (18, 1), (19, 0), (20, 0), (21, 0), (22, 0), (24, 0), (25, 0), (23, 1), (26, 1), (27, 1), (28, 1), (29, 0), (30, 0), (31, 0), (32, 0), (34, 0), (35, 0), (37, 0), (38, 0), (33, 1), (36, 1), (39, 1), (40, 1), (41, 1), (42, 0), (43, 0), (44, 0), (45, 0), (46, 0), (47, 1), (48, 1), (49, 0), (50, 0), (51, 0), (53, 0), (55, 0), (52, 1), (54, 1), (56, 1), (57, 0), (58, 0), (59, 0), (60, 0), (61, 0), (62, 0), (65, 0), (66, 0), (63, 1), (64, 1), (67, 1), (68, 0), (69, 0), (70, 0), (71, 0), (73, 0), (75, 0), (72, 1), (74, 1), (76, 1), (77, 1), (78, 0), (79, 0), (80, 0), (81, 1), (82, 1), (83, 0), (84, 0), (85, 0)] (fun _ => (0, #[])) rfl (by kernel_rfl) (by intro j hj; cases hj) (fun _ _ d _ _ => by cases d <;> exact Iff.rfl) fun wd hb => ?_
        replace E := hid (E.out.trans hb)
        replace Ba := hid (Ba.out.up hb)
        replace Bb := hid (Bb.out.up hb)
        replace Bc := hid (Bc.out.up hb)
        replace V7 := hid (V7.out.up hb)
        replace V8 := hid (V8.out.up hb)
        replace Na := hid (Na.out.up hb)
        replace Nb := hid (Nb.out.up hb)
        replace Nc := hid (Nc.out.up hb)
        replace Ra := hid (Ra.out.up hb)
        replace Rb := hid (Rb.out.up hb)
        replace Rc := hid (Rc.out.up hb)
        replace Q1 := hid (Q1.out.up hb)
        replace Q2 := hid (Q2.out.up hb)
        clear hb
        refine WE.pure (d := some 45) rfl rfl (by rfl) (v := (.agg #[.bool g1, .slice A1 n1 c1])) (fun w' hk => ?_) ?_
        · have c0 := hk.cell (V7.out.cell (o := 0) (v := .bool g1) rfl); have c1 := hk.cell (V7.out.cell (o := 1) (v := .slice A1 n1 c1) rfl); go_simp
        simp only [Act.put, List.setIfInBounds_toArray, List.set_cons_zero, List.set_cons_succ]
        refine WE.call (d := some 46) rfl rfl (by rfl) (f := 19) (args := #[(.agg #[.bool g1, .slice A1 n1 c1])]) (by go_simp) ?_
        refine (isZ_true Q1.out).mono ?_
        rintro e wn ⟨rfl, hb⟩
        refine ⟨_, rfl, hb, ?_⟩
        replace E := hid (E.out.trans hb)
        replace Ba := hid (Ba.out.up hb)
        replace Bb := hid (Bb.out.up hb)
        replace Bc := hid (Bc.out.up hb)
        replace V7 := hid (V7.out.up hb)
        replace V8 := hid (V8.out.up hb)
        replace Na := hid (Na.out.up hb)
        replace Nb := hid (Nb.out.up hb)
        replace Nc := hid (Nc.out.up hb)
        replace Ra := hid (Ra.out.up hb)
        replace Rb := hid (Rb.out.up hb)
        replace Rc := hid (Rc.out.up hb)
        replace Q1 := hid (Q1.out.up hb)
        replace Q2 := hid (Q2.out.up hb)
        clear hb
        simp only [Act.put, List.setIfInBounds_toArray, List.set_cons_zero, List.set_cons_succ]
        refine WE.pure (d := some 47) rfl rfl (by rfl) (v := (.bool true)) (fun w' hk => ?_) ?_
        · go_simp
        simp only [Act.put, List.setIfInBounds_toArray, List.set_cons_zero, List.set_cons_succ]
        refine WE.pure (d := some 48) rfl rfl (by rfl) (v := (.agg #[.bool g2, .slice A2 n2 c2])) (fun w' hk => ?_) ?_
        · have c0 := hk.cell (V8.out.cell (o := 0) (v := .bool g2) rfl); have c1 := hk.cell (V8.out.cell (o := 1) (v := .slice A2 n2 c2) rfl); go_simp
        simp only [Act.put, List.setIfInBounds_toArray, List.set_cons_zero, List.set_cons_succ]
        refine WE.call (d := some 49) rfl rfl (by rfl) (f := 19) (args := #[(.agg #[.bool g2, .slice A2 n2 c2])]) (by go_simp) ?_
        refine (isZ_true Q2.out).mono ?_
        rintro e wn ⟨rfl, hb⟩
        refine ⟨_, rfl, hb, ?_⟩
        replace E := hid (E.out.trans hb)
        replace Ba := hid (Ba.out.up hb)
        replace Bb := hid (Bb.out.up hb)
        replace Bc := hid (Bc.out.up hb)
        replace V7 := hid (V7.out.up hb)
        replace V8 := hid (V8.out.up hb)
        replace Na := hid (Na.out.up hb)
        replace Nb := hid (Nb.out.up hb)
        replace Nc := hid (Nc.out.up hb)
        replace Ra := hid (Ra.out.up hb)
        replace Rb := hid (Rb.out.up hb)
        replace Rc := hid (Rc.out.up hb)
        replace Q1 := hid (Q1.out.up hb)
        replace Q2 := hid (Q2.out.up hb)
        clear hb
        simp only [Act.put, List.setIfInBounds_toArray, List.set_cons_zero, List.set_cons_succ]
        refine WE.pure (d := some 50) rfl rfl (by rfl) (v := (.bool true)) (fun w' hk => ?_) ?_
        · go_simp
        simp only [Act.put, List.setIfInBounds_toArray, List.set_cons_zero, List.set_cons_succ]
        refine WE.pure (d := some 51) rfl rfl (by rfl) (v := (.bool true)) (fun w' hk => ?_) ?_
        · go_simp
        simp only [Act.put, List.setIfInBounds_toArray, List.set_cons_zero, List.set_cons_succ]
        as_aux_lemma =>
          refine WE.pure (d := some 52) rfl rfl (by rfl) (v := (.agg #[.bool g1, .slice A1 n1 c1])) (fun w' hk => ?_) ?_
          · have c0 := hk.cell (V7.out.cell (o := 0) (v := .bool g1) rfl); have c1 := hk.cell (V7.out.cell (o := 1) (v := .slice A1 n1 c1) rfl); go_simp
          simp only [Act.put, List.setIfInBounds_toArray, List.set_cons_zero, List.set_cons_succ]
          refine WE.pure (d := some 53) rfl rfl (by rfl) (v := (.agg #[.bool gb, .slice Ab nb cb])) (fun w' hk => ?_) ?_
          · have c0 := hk.cell (Bb.out.cell (o := 0) (v := .bool gb) rfl); have c1 := hk.cell (Bb.out.cell (o := 1) (v := .slice Ab nb cb) rfl); go_simp
          simp only [Act.put, List.setIfInBounds_toArray, List.set_cons_zero, List.set_cons_succ]
          refine WE.pure (d := some 54) rfl rfl (by rfl) (v := (.agg #[.bool ga, .slice Aa na ca])) (fun w' hk => ?_) ?_
          · have c0 := hk.cell (Ba.out.cell (o := 0) (v := .bool ga) rfl); have c1 := hk.cell (Ba.out.cell (o := 1) (v := .slice Aa na ca) rfl); go_simp
          simp only [Act.put, List.setIfInBounds_toArray, List.set_cons_zero, List.set_cons_succ]
          refine WE.call (d := some 55) rfl rfl (by rfl) (f := 34) (args := #[(.agg #[.bool gb, .slice Ab nb cb]), (.agg #[.bool ga, .slice Aa na ca])]) (by go_simp) ?_
          refine (add_w Rb.out Ra.out (by omega) (by omega)).mono ?_
          rintro e wn ⟨v1, rfl, x1, hb⟩
          obtain ⟨g3, A3, n3, c3, rfl⟩ := x1.shape
          refine ⟨_, rfl, hb, ?_⟩
          replace E := hid (E.out.trans hb)
          replace Ba := hid (Ba.out.up hb)
          replace Bb := hid (Bb.out.up hb)
          replace Bc := hid (Bc.out.up hb)
          replace V7 := hid (V7.out.up hb)
          replace V8 := hid (V8.out.up hb)
          replace Na := hid (Na.out.up hb)
          replace Nb := hid (Nb.out.up hb)
          replace Nc := hid (Nc.out.up hb)
          replace Ra := hid (Ra.out.up hb)
          replace Rb := hid (Rb.out.up hb)
          replace Rc := hid (Rc.out.up hb)
          replace Q1 := hid (Q1.out.up hb)
          replace Q2 := hid (Q2.out.up hb)
          have Q3 := hid x1
          clear hb x1
          simp only [Act.put, List.setIfInBounds_toArray, List.set_cons_zero, List.set_cons_succ]
          refine WE.call (d := some 56) rfl rfl (by rfl) (f := 28) (args := #[(.agg #[.bool g1, .slice A1 n1 c1]), (.agg #[.bool g3, .slice A3 n3 c3])]) (by go_simp) ?_
          refine (same_w Q1.out.worth Q3.out.worth (b := true) (decide_eq_true (Int.add_comm _ _))).mono ?_
          rintro e wn ⟨rfl, hb⟩
          refine ⟨_, rfl, hb, ?_⟩
          replace E := hid (E.out.trans hb)
          replace Ba := hid (Ba.out.up hb)
          replace Bb := hid (Bb.out.up hb)
          replace Bc := hid (Bc.out.up hb)
          replace V7 := hid (V7.out.up hb)
          replace V8 := hid (V8.out.up hb)
          replace Na := hid (Na.out.up hb)
          replace Nb := hid (Nb.out.up hb)
          replace Nc := hid (Nc.out.up hb)
          replace Ra := hid (Ra.out.up hb)
          replace Rb := hid (Rb.out.up hb)
          replace Rc := hid (Rc.out.up hb)
          replace Q1 := hid (Q1.out.up hb)
          replace Q2 := hid (Q2.out.up hb)
          replace Q3 := hid (Q3.out.up hb)
          clear hb
          simp only [Act.put, List.setIfInBounds_toArray, List.set_cons_zero, List.set_cons_succ]
          clear Q3
          refine WE.pure (d := some 57) rfl rfl (by rfl) (v := (.bool true)) (fun w' hk => ?_) ?_
          · go_simp
          simp only [Act.put, List.setIfInBounds_toArray, List.set_cons_zero, List.set_cons_succ]
          refine WE.pure (d := some 58) rfl rfl (by rfl) (v := (.bool true)) (fun w' hk => ?_) ?_
          · go_simp
          simp only [Act.put, List.setIfInBounds_toArray, List.set_cons_zero, List.set_cons_succ]
          refine WE.pure (d := some 59) rfl rfl (by rfl) (v := (.agg #[.bool g1, .slice A1 n1 c1])) (fun w' hk => ?_) ?_
          · have c0 := hk.cell (V7.out.cell (o := 0) (v := .bool g1) rfl); have c1 := hk.cell (V7.out.cell (o := 1) (v := .slice A1 n1 c1) rfl); go_simp
          simp only [Act.put, List.setIfInBounds_toArray, List.set_cons_zero, List.set_cons_succ]
          refine WE.pure (d := some 60) rfl rfl (by rfl) (v := (.agg #[.bool gb, .slice Ab nb cb])) (fun w' hk => ?_) ?_
          · have c0 := hk.cell (Bb.out.cell (o := 0) (v := .bool gb) rfl); have c1 := hk.cell (Bb.out.cell (o := 1) (v := .slice Ab nb cb) rfl); go_simp
          simp only [Act.put, List.setIfInBounds_toArray, List.set_cons_zero, List.set_cons_succ]
          refine WE.pure (d := some 62) rfl rfl (by rfl) (v := (.agg #[.bool ga, .slice Aa na ca])) (fun w' hk => ?_) ?_
          · have c0 := hk.cell (Ba.out.cell (o := 0) (v := .bool ga) rfl); have c1 := hk.cell (Ba.out.cell (o := 1) (v := .slice Aa na ca) rfl); go_simp
          simp only [Act.put, List.setIfInBounds_toArray, List.set_cons_zero, List.set_cons_succ]
          refine WE.call (d := some 61) rfl rfl (by rfl) (f := 36) (args := #[(.agg #[.bool g1, .slice A1 n1 c1]), (.agg #[.bool gb, .slice Ab nb cb])]) (by go_simp) ?_
          refine (sub_w Q1.out.worth Rb.out (by omega) (by omega)).mono ?_
          rintro e wn ⟨v1, rfl, x1, hb⟩
          obtain ⟨g4, A4, n4, c4, rfl⟩ := x1.shape
          refine ⟨_, rfl, hb, ?_⟩
          replace E := hid (E.out.trans hb)
          replace Ba := hid (Ba.out.up hb)
          replace Bb := hid (Bb.out.up hb)
          replace Bc := hid (Bc.out.up hb)
          replace V7 := hid (V7.out.up hb)
          replace V8 := hid (V8.out.up hb)
          replace Na := hid (Na.out.up hb)
          replace Nb := hid (Nb.out.up hb)
          replace Nc := hid (Nc.out.up hb)
          replace Ra := hid (Ra.out.up hb)
          replace Rb := hid (Rb.out.up hb)
          replace Rc := hid (Rc.out.up hb)
          replace Q1 := hid (Q1.out.up hb)
          replace Q2 := hid (Q2.out.up hb)
          have Q4 := hid x1
          clear hb x1
          simp only [Act.put, List.setIfInBounds_toArray, List.set_cons_zero, List.set_cons_succ]
          refine WE.call (d := some 63) rfl rfl (by rfl) (f := 28) (args := #[(.agg #[.bool g4, .slice A4 n4 c4]), (.agg #[.bool ga, .slice Aa na ca])]) (by go_simp) ?_
          refine (same_w Q4.out.worth Ra.out (b := true) (decide_eq_true (by omega))).mono ?_
          rintro e wn ⟨rfl, hb⟩
          refine ⟨_, rfl, hb, ?_⟩
          replace E := hid (E.out.trans hb)
          replace Ba := hid (Ba.out.up hb)
          replace Bb := hid (Bb.out.up hb)
          replace Bc := hid (Bc.out.up hb)
          replace V7 := hid (V7.out.up hb)
          replace V8 := hid (V8.out.up hb)
          replace Na := hid (Na.out.up hb)
          replace Nb := hid (Nb.out.up hb)
          replace Nc := hid (Nc.out.up hb)
          replace Ra := hid (Ra.out.up hb)
          replace Rb := hid (Rb.out.up hb)
          replace Rc := hid (Rc.out.up hb)
          replace Q1 := hid (Q1.out.up hb)
          replace Q2 := hid (Q2.out.up hb)
          replace Q4 := hid (Q4.out.up hb)
          clear hb
          simp only [Act.put, List.setIfInBounds_toArray, List.set_cons_zero, List.set_cons_succ]
          clear Q4
          as_aux_lemma =>
            refine WE.pure (d := some 64) rfl rfl (by rfl) (v := (.bool true)) (fun w' hk => ?_) ?_
            · go_simp
            simp only [Act.put, List.setIfInBounds_toArray, List.set_cons_zero, List.set_cons_succ]
            refine WE.pure (d := some 65) rfl rfl (by rfl) (v := (.bool true)) (fun w' hk => ?_) ?_
            · go_simp
            simp only [Act.put, List.setIfInBounds_toArray, List.set_cons_zero, List.set_cons_succ]
            refine WE.pure (d := some 66) rfl rfl (by rfl) (v := (.agg #[.bool ga, .slice Aa na ca])) (fun w' hk => ?_) ?_
            · have c0 := hk.cell (Ba.out.cell (o := 0) (v := .bool ga) rfl); have c1 := hk.cell (Ba.out.cell (o := 1) (v := .slice Aa na ca) rfl); go_simp
            simp only [Act.put, List.setIfInBounds_toArray, List.set_cons_zero, List.set_cons_succ]
            refine WE.pure (d := some 67) rfl rfl (by rfl) (v := (.agg #[.bool gb, .slice Ab nb cb])) (fun w' hk => ?_) ?_
            · have c0 := hk.cell (Bb.out.cell (o := 0) (v := .bool gb) rfl); have c1 := hk.cell (Bb.out.cell (o := 1) (v := .slice Ab nb cb) rfl); go_simp
            simp only [Act.put, List.setIfInBounds_toArray, List.set_cons_zero, List.set_cons_succ]
            refine WE.pure (d := some 69) rfl rfl (by rfl) (v := (.agg #[.bool ga, .slice Aa na ca])) (fun w' hk => ?_) ?_
            · have c0 := hk.cell (Ba.out.cell (o := 0) (v := .bool ga) rfl); have c1 := hk.cell (Ba.out.cell (o := 1) (v := .slice Aa na ca) rfl); go_simp
            simp only [Act.put, List.setIfInBounds_toArray, List.set_cons_zero, List.set_cons_succ]
            refine WE.pure (d := some 70) rfl rfl (by rfl) (v := (.agg #[.bool gb, .slice Ab nb cb])) (fun w' hk => ?_) ?_
            · have c0 := hk.cell (Bb.out.cell (o := 0) (v := .bool gb) rfl); have c1 := hk.cell (Bb.out.cell (o := 1) (v := .slice Ab nb cb) rfl); go_simp
            simp only [Act.put, List.setIfInBounds_toArray, List.set_cons_zero, List.set_cons_succ]
            refine WE.call (d := some 68) rfl rfl (by rfl) (f := 36) (args := #[(.agg #[.bool ga, .slice Aa na ca]), (.agg #[.bool gb, .slice Ab nb cb])]) (by go_simp) ?_
            refine (sub_w Ra.out Rb.out (by omega) (by omega)).mono ?_
            rintro e wn ⟨v1, rfl, x1, hb⟩
            obtain ⟨g5, A5, n5, c5, rfl⟩ := x1.shape
            refine ⟨_, rfl, hb, ?_⟩
            replace E := hid (E.out.trans hb)
            replace Ba := hid (Ba.out.up hb)
            replace Bb := hid (Bb.out.up hb)
            replace Bc := hid (Bc.out.up hb)
            replace V7 := hid (V7.out.up hb)
            replace V8 := hid (V8.out.up hb)
            replace Na := hid (Na.out.up hb)
            replace Nb := hid (Nb.out.up hb)
            replace Nc := hid (Nc.out.up hb)
            replace Ra := hid (Ra.out.up hb)
            replace Rb := hid (Rb.out.up hb)
            replace Rc := hid (Rc.out.up hb)
            replace Q1 := hid (Q1.out.up hb)
            replace Q2 := hid (Q2.out.up hb)
            have Q5 := hid x1
            clear hb x1
            simp only [Act.put, List.setIfInBounds_toArray, List.set_cons_zero, List.set_cons_succ]
            refine WE.call (d := some 71) rfl rfl (by rfl) (f := 30) (args := #[(.agg #[.bool gb, .slice Ab nb cb])]) (by go_simp) ?_
            refine (neg_w Rb.out (by omega)).mono ?_
            rintro e wn ⟨v1, rfl, x1, hb⟩
            obtain ⟨g6, A6, n6, c6, rfl⟩ := x1.shape
            refine ⟨_, rfl, hb, ?_⟩
            replace E := hid (E.out.trans hb)
            replace Ba := hid (Ba.out.up hb)
            replace Bb := hid (Bb.out.up hb)
            replace Bc := hid (Bc.out.up hb)
            replace V7 := hid (V7.out.up hb)
            replace V8 := hid (V8.out.up hb)
            replace Na := hid (Na.out.up hb)
            replace Nb := hid (Nb.out.up hb)
            replace Nc := hid (Nc.out.up hb)
            replace Ra := hid (Ra.out.up hb)
            replace Rb := hid (Rb.out.up hb)
            replace Rc := hid (Rc.out.up hb)
            replace Q1 := hid (Q1.out.up hb)
            replace Q2 := hid (Q2.out.up hb)
            replace Q5 := hid (Q5.out.up hb)
            have Q6 := hid x1
            clear hb x1
            simp only [Act.put, List.setIfInBounds_toArray, List.set_cons_zero, List.set_cons_succ]
            refine WE.call (d := some 72) rfl rfl (by rfl) (f := 34) (args := #[(.agg #[.bool ga, .slice Aa na ca]), (.agg #[.bool g6, .slice A6 n6 c6])]) (by go_simp) ?_
            refine (add_w Ra.out Q6.out.worth (by omega) (by omega)).mono ?_
            rintro e wn ⟨v1, rfl, x1, hb⟩
            obtain ⟨g7, A7, n7, c7, rfl⟩ := x1.shape
            refine ⟨_, rfl, hb, ?_⟩
            replace E := hid (E.out.trans hb)
            replace Ba := hid (Ba.out.up hb)
            replace Bb := hid (Bb.out.up hb)
            replace Bc := hid (Bc.out.up hb)
            replace V7 := hid (V7.out.up hb)
            replace V8 := hid (V8.out.up hb)
            replace Na := hid (Na.out.up hb)
            replace Nb := hid (Nb.out.up hb)
            replace Nc := hid (Nc.out.up hb)
            replace Ra := hid (Ra.out.up hb)
            replace Rb := hid (Rb.out.up hb)
            replace Rc := hid (Rc.out.up hb)
            replace Q1 := hid (Q1.out.up hb)
            replace Q2 := hid (Q2.out.up hb)
            replace Q5 := hid (Q5.out.up hb)
            replace Q6 := hid (Q6.out.up hb)
            have Q7 := hid x1
            clear hb x1
            simp only [Act.put, List.setIfInBounds_toArray, List.set_cons_zero, List.set_cons_succ]
            clear Q6
            refine WE.call (d := some 73) rfl rfl (by rfl) (f := 28) (args := #[(.agg #[.bool g5, .slice A5 n5 c5]), (.agg #[.bool g7, .slice A7 n7 c7])]) (by go_simp) ?_
            refine (same_w Q5.out.worth Q7.out.worth (b := true) (decide_eq_true (by omega))).mono ?_
            rintro e wn ⟨rfl, hb⟩
            refine ⟨_, rfl, hb, ?_⟩
            replace E := hid (E.out.trans hb)
            replace Ba := hid (Ba.out.up hb)
            replace Bb := hid (Bb.out.up hb)
            replace Bc := hid (Bc.out.up hb)
            replace V7 := hid (V7.out.up hb)
            replace V8 := hid (V8.out.up hb)
            replace Na := hid (Na.out.up hb)
            replace Nb := hid (Nb.out.up hb)
            replace Nc := hid (Nc.out.up hb)
            replace Ra := hid (Ra.out.up hb)
            replace Rb := hid (Rb.out.up hb)
            replace Rc := hid (Rc.out.up hb)
            replace Q1 := hid (Q1.out.up hb)
            replace Q2 := hid (Q2.out.up hb)
            replace Q5 := hid (Q5.out.up hb)
            replace Q7 := hid (Q7.out.up hb)
            clear hb
            simp only [Act.put, List.setIfInBounds_toArray, List.set_cons_zero, List.set_cons_succ]
            clear Q5
            clear Q7
            refine WE.pure (d := some 74) rfl rfl (by rfl) (v := (.bool true)) (fun w' hk => ?_) ?_
            · go_simp
            simp only [Act.put, List.setIfInBounds_toArray, List.set_cons_zero, List.set_cons_succ]
            refine WE.pure (d := some 75) rfl rfl (by rfl) (v := (.bool true)) (fun w' hk => ?_) ?_
            · go_simp
            simp only [Act.put, List.setIfInBounds_toArray, List.set_cons_zero, List.set_cons_succ]
            as_aux_lemma =>
              refine WE.pure (d := some 76) rfl rfl (by rfl) (v := (.agg #[.bool g1, .slice A1 n1 c1])) (fun w' hk => ?_) ?_
              · have c0 := hk.cell (V7.out.cell (o := 0) (v := .bool g1) rfl); have c1 := hk.cell (V7.out.cell (o := 1) (v := .slice A1 n1 c1) rfl); go_simp
              simp only [Act.put, List.setIfInBounds_toArray, List.set_cons_zero, List.set_cons_succ]
              refine WE.pure (d := some 77) rfl rfl (by rfl) (v := (.agg #[.bool gc, .slice Ac nc cc])) (fun w' hk => ?_) ?_
              · have c0 := hk.cell (Bc.out.cell (o := 0) (v := .bool gc) rfl); have c1 := hk.cell (Bc.out.cell (o := 1) (v := .slice Ac nc cc) rfl); go_simp
              simp only [Act.put, List.setIfInBounds_toArray, List.set_cons_zero, List.set_cons_succ]
              refine WE.pure (d := some 79) rfl rfl (by rfl) (v := (.agg #[.bool ga, .slice Aa na ca])) (fun w' hk => ?_) ?_
              · have c0 := hk.cell (Ba.out.cell (o := 0) (v := .bool ga) rfl); have c1 := hk.cell (Ba.out.cell (o := 1) (v := .slice Aa na ca) rfl); go_simp
              simp only [Act.put, List.setIfInBounds_toArray, List.set_cons_zero, List.set_cons_succ]
              refine WE.pure (d := some 80) rfl rfl (by rfl) (v := (.agg #[.bool gc, .slice Ac nc cc])) (fun w' hk => ?_) ?_
              · have c0 := hk.cell (Bc.out.cell (o := 0) (v := .bool gc) rfl); have c1 := hk.cell (Bc.out.cell (o := 1) (v := .slice Ac nc cc) rfl); go_simp
              simp only [Act.put, List.setIfInBounds_toArray, List.set_cons_zero, List.set_cons_succ]
              refine WE.pure (d := some 82) rfl rfl (by rfl) (v := (.agg #[.bool gb, .slice Ab nb cb])) (fun w' hk => ?_) ?_
              · have c0 := hk.cell (Bb.out.cell (o := 0) (v := .bool gb) rfl); have c1 := hk.cell (Bb.out.cell (o := 1) (v := .slice Ab nb cb) rfl); go_simp
              simp only [Act.put, List.setIfInBounds_toArray, List.set_cons_zero, List.set_cons_succ]
              refine WE.pure (d := some 83) rfl rfl (by rfl) (v := (.agg #[.bool gc, .slice Ac nc cc])) (fun w' hk => ?_) ?_
              · have c0 := hk.cell (Bc.out.cell (o := 0) (v := .bool gc) rfl); have c1 := hk.cell (Bc.out.cell (o := 1) (v := .slice Ac nc cc) rfl); go_simp
              simp only [Act.put, List.setIfInBounds_toArray, List.set_cons_zero, List.set_cons_succ]
              refine WE.call (d := some 78) rfl rfl (by rfl) (f := 38) (args := #[(.agg #[.bool g1, .slice A1 n1 c1]), (.agg #[.bool gc, .slice Ac nc cc])]) (by go_simp) ?_
              refine (mul_w Q1.out.worth Rc.out (by omega) (by omega) (by omega)).mono ?_
              rintro e wn ⟨v1, rfl, x1, hb⟩
              obtain ⟨g8, A8, n8, c8, rfl⟩ := x1.shape
              refine ⟨_, rfl, hb, ?_⟩
              replace E := hid (E.out.trans hb)
              replace Ba := hid (Ba.out.up hb)
              replace Bb := hid (Bb.out.up hb)
              replace Bc := hid (Bc.out.up hb)
              replace V7 := hid (V7.out.up hb)
              replace V8 := hid (V8.out.up hb)
              replace Na := hid (Na.out.up hb)
              replace Nb := hid (Nb.out.up hb)
              replace Nc := hid (Nc.out.up hb)
              replace Ra := hid (Ra.out.up hb)
              replace Rb := hid (Rb.out.up hb)
              replace Rc := hid (Rc.out.up hb)
              replace Q1 := hid (Q1.out.up hb)
              replace Q2 := hid (Q2.out.up hb)
              have Q8 := hid x1
              clear hb x1
              simp only [Act.put, List.setIfInBounds_toArray, List.set_cons_zero, List.set_cons_succ]
              refine WE.call (d := some 81) rfl rfl (by rfl) (f := 38) (args := #[(.agg #[.bool ga, .slice Aa na ca]), (.agg #[.bool gc, .slice Ac nc cc])]) (by go_simp) ?_
              refine (mul_w Ra.out Rc.out (by omega) (by omega) (by omega)).mono ?_
              rintro e wn ⟨v1, rfl, x1, hb⟩
              obtain ⟨g9, A9, n9, c9, rfl⟩ := x1.shape
              refine ⟨_, rfl, hb, ?_⟩
              replace E := hid (E.out.trans hb)
              replace Ba := hid (Ba.out.up hb)
              replace Bb := hid (Bb.out.up hb)
              replace Bc := hid (Bc.out.up hb)
              replace V7 := hid (V7.out.up hb)
              replace V8 := hid (V8.out.up hb)
              replace Na := hid (Na.out.up hb)
              replace Nb := hid (Nb.out.up hb)
              replace Nc := hid (Nc.out.up hb)
              replace Ra := hid (Ra.out.up hb)
              replace Rb := hid (Rb.out.up hb)
              replace Rc := hid (Rc.out.up hb)
              replace Q1 := hid (Q1.out.up hb)
              replace Q2 := hid (Q2.out.up hb)
              replace Q8 := hid (Q8.out.up hb)
              have Q9 := hid x1
              clear hb x1
              simp only [Act.put, List.setIfInBounds_toArray, List.set_cons_zero, List.set_cons_succ]
              refine WE.call (d := some 84) rfl rfl (by rfl) (f := 38) (args := #[(.agg #[.bool gb, .slice Ab nb cb]), (.agg #[.bool gc, .slice Ac nc cc])]) (by go_simp) ?_
              refine (mul_w Rb.out Rc.out (by omega) (by omega) (by omega)).mono ?_
              rintro e wn ⟨v1, rfl, x1, hb⟩
              obtain ⟨g10, A10, n10, c10, rfl⟩ := x1.shape
              refine ⟨_, rfl, hb, ?_⟩
              replace E := hid (E.out.trans hb)
              replace Ba := hid (Ba.out.up hb)
              replace Bb := hid (Bb.out.up hb)
              replace Bc := hid (Bc.out.up hb)
              replace V7 := hid (V7.out.up hb)
              replace V8 := hid (V8.out.up hb)
              replace Na := hid (Na.out.up hb)
              replace Nb := hid (Nb.out.up hb)
              replace Nc := hid (Nc.out.up hb)
              replace Ra := hid (Ra.out.up hb)
              replace Rb := hid (Rb.out.up hb)
              replace Rc := hid (Rc.out.up hb)
              replace Q1 := hid (Q1.out.up hb)
              replace Q2 := hid (Q2.out.up hb)
              replace Q8 := hid (Q8.out.up hb)
              replace Q9 := hid (Q9.out.up hb)
              have Q10 := hid x1
              clear hb x1
              simp only [Act.put, List.setIfInBounds_toArray, List.set_cons_zero, List.set_cons_succ]
              refine WE.call (d := some 85) rfl rfl (by rfl) (f := 34) (args := #[(.agg #[.bool g9, .slice A9 n9 c9]), (.agg #[.bool g10, .slice A10 n10 c10])]) (by go_simp) ?_
              refine (add_w Q9.out.worth Q10.out.worth (by omega) (by omega)).mono ?_
              rintro e wn ⟨v1, rfl, x1, hb⟩
              obtain ⟨g11, A11, n11, c11, rfl⟩ := x1.shape
              refine ⟨_, rfl, hb, ?_⟩
              replace E := hid (E.out.trans hb)
              replace Ba := hid (Ba.out.up hb)
              replace Bb := hid (Bb.out.up hb)
              replace Bc := hid (Bc.out.up hb)
              replace V7 := hid (V7.out.up hb)
              replace V8 := hid (V8.out.up hb)
              replace Na := hid (Na.out.up hb)
              replace Nb := hid (Nb.out.up hb)
              replace Nc := hid (Nc.out.up hb)
              replace Ra := hid (Ra.out.up hb)
              replace Rb := hid (Rb.out.up hb)
              replace Rc := hid (Rc.out.up hb)
              replace Q1 := hid (Q1.out.up hb)
              replace Q2 := hid (Q2.out.up hb)
              replace Q8 := hid (Q8.out.up hb)
              replace Q9 := hid (Q9.out.up hb)
              replace Q10 := hid (Q10.out.up hb)
              have Q11 := hid x1
              clear hb x1
              simp only [Act.put, List.setIfInBounds_toArray, List.set_cons_zero, List.set_cons_succ]
              clear Q9
              clear Q10
              refine WE.call (d := some 86) rfl rfl (by rfl) (f := 28) (args := #[(.agg #[.bool g8, .slice A8 n8 c8]), (.agg #[.bool g11, .slice A11 n11 c11])]) (by go_simp) ?_
              refine (same_w Q8.out.worth Q11.out.worth (b := true) (decide_eq_true (Int.add_mul _ _ _))).mono ?_
              rintro e wn ⟨rfl, hb⟩
              refine ⟨_, rfl, hb, ?_⟩
              replace E := hid (E.out.trans hb)
              replace Ba := hid (Ba.out.up hb)
              replace Bb := hid (Bb.out.up hb)
              replace Bc := hid (Bc.out.up hb)
              replace V7 := hid (V7.out.up hb)
              replace V8 := hid (V8.out.up hb)
              replace Na := hid (Na.out.up hb)
              replace Nb := hid (Nb.out.up hb)
              replace Nc := hid (Nc.out.up hb)
              replace Ra := hid (Ra.out.up hb)
              replace Rb := hid (Rb.out.up hb)
              replace Rc := hid (Rc.out.up hb)
              replace Q1 := hid (Q1.out.up hb)
              replace Q2 := hid (Q2.out.up hb)
              replace Q8 := hid (Q8.out.up hb)
              replace Q11 := hid (Q11.out.up hb)
              clear hb
              simp only [Act.put, List.setIfInBounds_toArray, List.set_cons_zero, List.set_cons_succ]
              clear Q8
              clear Q11
              refine WE.pure (d := some 87) rfl rfl (by rfl) (v := (.bool true)) (fun w' hk => ?_) ?_
              · go_simp
              simp only [Act.put, List.setIfInBounds_toArray, List.set_cons_zero, List.set_cons_succ]
              as_aux_lemma =>
                refine WE.pure (d := some 88) rfl rfl (by rfl) (v := (.bool true)) (fun w' hk => ?_) ?_
                · go_simp
                simp only [Act.put, List.setIfInBounds_toArray, List.set_cons_zero, List.set_cons_succ]
                refine WE.pure (d := some 89) rfl rfl (by rfl) (v := (.agg #[.bool g2, .slice A2 n2 c2])) (fun w' hk => ?_) ?_
                · have c0 := hk.cell (V8.out.cell (o := 0) (v := .bool g2) rfl); have c1 := hk.cell (V8.out.cell (o := 1) (v := .slice A2 n2 c2) rfl); go_simp
                simp only [Act.put, List.setIfInBounds_toArray, List.set_cons_zero, List.set_cons_succ]
                refine WE.pure (d := some 90) rfl rfl (by rfl) (v := (.agg #[.bool gb, .slice Ab nb cb])) (fun w' hk => ?_) ?_
                · have c0 := hk.cell (Bb.out.cell (o := 0) (v := .bool gb) rfl); have c1 := hk.cell (Bb.out.cell (o := 1) (v := .slice Ab nb cb) rfl); go_simp
                simp only [Act.put, List.setIfInBounds_toArray, List.set_cons_zero, List.set_cons_succ]
                refine WE.pure (d := some 91) rfl rfl (by rfl) (v := (.agg #[.bool ga, .slice Aa na ca])) (fun w' hk => ?_) ?_
                · have c0 := hk.cell (Ba.out.cell (o := 0) (v := .bool ga) rfl); have c1 := hk.cell (Ba.out.cell (o := 1) (v := .slice Aa na ca) rfl); go_simp
                simp only [Act.put, List.setIfInBounds_toArray, List.set_cons_zero, List.set_cons_succ]
                refine WE.call (d := some 92) rfl rfl (by rfl) (f := 38) (args := #[(.agg #[.bool gb, .slice Ab nb cb]), (.agg #[.bool ga, .slice Aa na ca])]) (by go_simp) ?_
                refine (mul_w Rb.out Ra.out (by omega) (by omega) (by omega)).mono ?_
                rintro e wn ⟨v1, rfl, x1, hb⟩
                obtain ⟨g12, A12, n12, c12, rfl⟩ := x1.shape
                refine ⟨_, rfl, hb, ?_⟩
                replace E := hid (E.out.trans hb)
                replace Ba := hid (Ba.out.up hb)
                replace Bb := hid (Bb.out.up hb)
                replace Bc := hid (Bc.out.up hb)
                replace V7 := hid (V7.out.up hb)
                replace V8 := hid (V8.out.up hb)
                replace Na := hid (Na.out.up hb)
                replace Nb := hid (Nb.out.up hb)
                replace Nc := hid (Nc.out.up hb)
                replace Ra := hid (Ra.out.up hb)
                replace Rb := hid (Rb.out.up hb)
                replace Rc := hid (Rc.out.up hb)
                replace Q1 := hid (Q1.out.up hb)
                replace Q2 := hid (Q2.out.up hb)
                have Q12 := hid x1
                clear hb x1
                simp only [Act.put, List.setIfInBounds_toArray, List.set_cons_zero, List.set_cons_succ]
                refine WE.call (d := some 93) rfl rfl (by rfl) (f := 28) (args := #[(.agg #[.bool g2, .slice A2 n2 c2]), (.agg #[.bool g12, .slice A12 n12 c12])]) (by go_simp) ?_
                refine (same_w Q2.out.worth Q12.out.worth (b := true) (decide_eq_true (Int.mul_comm _ _))).mono ?_
                rintro e wn ⟨rfl, hb⟩
                refine ⟨_, rfl, hb, ?_⟩
                replace E := hid (E.out.trans hb)
                replace Ba := hid (Ba.out.up hb)
                replace Bb := hid (Bb.out.up hb)
                replace Bc := hid (Bc.out.up hb)
                replace V7 := hid (V7.out.up hb)
                replace V8 := hid (V8.out.up hb)
                replace Na := hid (Na.out.up hb)
                replace Nb := hid (Nb.out.up hb)
                replace Nc := hid (Nc.out.up hb)
                replace Ra := hid (Ra.out.up hb)
                replace Rb := hid (Rb.out.up hb)
                replace Rc := hid (Rc.out.up hb)
                replace Q1 := hid (Q1.out.up hb)
                replace Q2 := hid (Q2.out.up hb)
                replace Q12 := hid (Q12.out.up hb)
                clear hb
                simp only [Act.put, List.setIfInBounds_toArray, List.set_cons_zero, List.set_cons_succ]
                clear Q12
                refine WE.pure (d := some 94) rfl rfl (by rfl) (v := (.bool true)) (fun w' hk => ?_) ?_
                · go_simp
                simp only [Act.put, List.setIfInBounds_toArray, List.set_cons_zero, List.set_cons_succ]
                refine WE.pure (d := some 95) rfl rfl (by rfl) (v := (.bool true)) (fun w' hk => ?_) ?_
                · go_simp
                simp only [Act.put, List.setIfInBounds_toArray, List.set_cons_zero, List.set_cons_succ]
                refine WE.pure (d := some 96) rfl rfl (by rfl) (v := (.agg #[.bool g2, .slice A2 n2 c2])) (fun w' hk => ?_) ?_
                · have c0 := hk.cell (V8.out.cell (o := 0) (v := .bool g2) rfl); have c1 := hk.cell (V8.out.cell (o := 1) (v := .slice A2 n2 c2) rfl); go_simp
                simp only [Act.put, List.setIfInBounds_toArray, List.set_cons_zero, List.set_cons_succ]
                refine WE.pure (d := some 98) rfl rfl (by rfl) (v := (.agg #[.bool ga, .slice Aa na ca])) (fun w' hk => ?_) ?_
                · have c0 := hk.cell (Ba.out.cell (o := 0) (v := .bool ga) rfl); have c1 := hk.cell (Ba.out.cell (o := 1) (v := .slice Aa na ca) rfl); go_simp
                simp only [Act.put, List.setIfInBounds_toArray, List.set_cons_zero, List.set_cons_succ]
                refine WE.pure (d := some 100) rfl rfl (by rfl) (v := (.agg #[.bool gb, .slice Ab nb cb])) (fun w' hk => ?_) ?_
                · have c0 := hk.cell (Bb.out.cell (o := 0) (v := .bool gb) rfl); have c1 := hk.cell (Bb.out.cell (o := 1) (v := .slice Ab nb cb) rfl); go_simp
                simp only [Act.put, List.setIfInBounds_toArray, List.set_cons_zero, List.set_cons_succ]
                refine WE.call (d := some 97) rfl rfl (by rfl) (f := 24) (args := #[(.agg #[.bool g2, .slice A2 n2 c2])]) (by go_simp) ?_
                refine (sign_e Q2.out.worth (s := sp) (HSP.out)).mono ?_
                rintro e wn ⟨rfl, hb⟩
                refine ⟨_, rfl, hb, ?_⟩
                replace E := hid (E.out.trans hb)
                replace Ba := hid (Ba.out.up hb)
                replace Bb := hid (Bb.out.up hb)
                replace Bc := hid (Bc.out.up hb)
                replace V7 := hid (V7.out.up hb)
                replace V8 := hid (V8.out.up hb)
                replace Na := hid (Na.out.up hb)
                replace Nb := hid (Nb.out.up hb)
                replace Nc := hid (Nc.out.up hb)
                replace Ra := hid (Ra.out.up hb)
                replace Rb := hid (Rb.out.up hb)
                replace Rc := hid (Rc.out.up hb)
                replace Q1 := hid (Q1.out.up hb)
                replace Q2 := hid (Q2.out.up hb)
                clear hb
                simp only [Act.put, List.setIfInBounds_toArray, List.set_cons_zero, List.set_cons_succ]
                as_aux_lemma =>
                  refine WE.call (d := some 99) rfl rfl (by rfl) (f := 24) (args := #[(.agg #[.bool ga, .slice Aa na ca])]) (by go_simp) ?_
                  refine (sign_e Ra.out (s := sa) (HSA.out)).mono ?_
                  rintro e wn ⟨rfl, hb⟩
                  refine ⟨_, rfl, hb, ?_⟩
                  replace E := hid (E.out.trans hb)
                  replace Ba := hid (Ba.out.up hb)
                  replace Bb := hid (Bb.out.up hb)
                  replace Bc := hid (Bc.out.up hb)
                  replace V7 := hid (V7.out.up hb)
                  replace V8 := hid (V8.out.up hb)
                  replace Na := hid (Na.out.up hb)
                  replace Nb := hid (Nb.out.up hb)
                  replace Nc := hid (Nc.out.up hb)
                  replace Ra := hid (Ra.out.up hb)
                  replace Rb := hid (Rb.out.up hb)
                  replace Rc := hid (Rc.out.up hb)
                  replace Q1 := hid (Q1.out.up hb)
                  replace Q2 := hid (Q2.out.up hb)
                  clear hb
                  simp only [Act.put, List.setIfInBounds_toArray, List.set_cons_zero, List.set_cons_succ]
                  refine WE.call (d := some 101) rfl rfl (by rfl) (f := 24) (args := #[(.agg #[.bool gb, .slice Ab nb cb])]) (by go_simp) ?_
                  refine (sign_e Rb.out (s := sb) (HSB.out)).mono ?_
                  rintro e wn ⟨rfl, hb⟩
                  refine ⟨_, rfl, hb, ?_⟩
                  replace E := hid (E.out.trans hb)
                  replace Ba := hid (Ba.out.up hb)
                  replace Bb := hid (Bb.out.up hb)
                  replace Bc := hid (Bc.out.up hb)
                  replace V7 := hid (V7.out.up hb)
                  replace V8 := hid (V8.out.up hb)
                  replace Na := hid (Na.out.up hb)
                  replace Nb := hid (Nb.out.up hb)
                  replace Nc := hid (Nc.out.up hb)
                  replace Ra := hid (Ra.out.up hb)
                  replace Rb := hid (Rb.out.up hb)
                  replace Rc := hid (Rc.out.up hb)
                  replace Q1 := hid (Q1.out.up hb)
                  replace Q2 := hid (Q2.out.up hb)
                  clear hb
                  simp only [Act.put, List.setIfInBounds_toArray, List.set_cons_zero, List.set_cons_succ]
                  refine WE.pure (d := some 102) rfl rfl (by rfl) (v := (.int .i64 sp)) (fun w' hk => ?_) ?_
                  · go_simp
                  simp only [Act.put, List.setIfInBounds_toArray, List.set_cons_zero, List.set_cons_succ]
                  refine WE.pure (d := some 103) rfl rfl (by rfl) (v := (.bool true)) (fun w' hk => ?_) ?_
                  · go_simp
                  simp only [Act.put, List.setIfInBounds_toArray, List.set_cons_zero, List.set_cons_succ]
                  refine WE.pure (d := some 104) rfl rfl (by rfl) (v := (.bool true)) (fun w' hk => ?_) ?_
                  · go_simp
                  simp only [Act.put, List.setIfInBounds_toArray, List.set_cons_zero, List.set_cons_succ]
                  refine WE.pure (d := some 105) rfl rfl (by rfl) (v := (.bool true)) (fun w' hk => ?_) ?_
                  · go_simp
                  simp only [Act.put, List.setIfInBounds_toArray, List.set_cons_zero, List.set_cons_succ]
                  refine WE.pure (d := some 106) rfl rfl (by rfl) (v := (.agg #[.bool ga, .slice Aa na ca])) (fun w' hk => ?_) ?_
                  · have c0 := hk.cell (Ba.out.cell (o := 0) (v := .bool ga) rfl); have c1 := hk.cell (Ba.out.cell (o := 1) (v := .slice Aa na ca) rfl); go_simp
                  simp only [Act.put, List.setIfInBounds_toArray, List.set_cons_zero, List.set_cons_succ]
                  refine WE.pure (d := some 107) rfl rfl (by rfl) (v := (.agg #[.bool gb, .slice Ab nb cb])) (fun w' hk => ?_) ?_
                  · have c0 := hk.cell (Bb.out.cell (o := 0) (v := .bool gb) rfl); have c1 := hk.cell (Bb.out.cell (o := 1) (v := .slice Ab nb cb) rfl); go_simp
                  simp only [Act.put, List.setIfInBounds_toArray, List.set_cons_zero, List.set_cons_succ]
                  refine WE.pure (d := some 110) rfl rfl (by rfl) (v := (.agg #[.bool ga, .slice Aa na ca])) (fun w' hk => ?_) ?_
                  · have c0 := hk.cell (Ba.out.cell (o := 0) (v := .bool ga) rfl); have c1 := hk.cell (Ba.out.cell (o := 1) (v := .slice Aa na ca) rfl); go_simp
                  simp only [Act.put, List.setIfInBounds_toArray, List.set_cons_zero, List.set_cons_succ]
                  refine WE.pure (d := some 111) rfl rfl (by rfl) (v := (.agg #[.bool gb, .slice Ab nb cb])) (fun w' hk => ?_) ?_
                  · have c0 := hk.cell (Bb.out.cell (o := 0) (v := .bool gb) rfl); have c1 := hk.cell (Bb.out.cell (o := 1) (v := .slice Ab nb cb) rfl); go_simp
                  simp only [Act.put, List.setIfInBounds_toArray, List.set_cons_zero, List.set_cons_succ]
                  refine WE.call (d := some 108) rfl rfl (by rfl) (f := 36) (args := #[(.agg #[.bool ga, .slice Aa na ca]), (.agg #[.bool gb, .slice Ab nb cb])]) (by go_simp) ?_
                  refine (sub_w Ra.out Rb.out (by omega) (by omega)).mono ?_
                  rintro e wn ⟨v1, rfl, x1, hb⟩
                  obtain ⟨g13, A13, n13, c13, rfl⟩ := x1.shape
                  refine ⟨_, rfl, hb, ?_⟩
                  replace E := hid (E.out.trans hb)
                  replace Ba := hid (Ba.out.up hb)
                  replace Bb := hid (Bb.out.up hb)
                  replace Bc := hid (Bc.out.up hb)
                  replace V7 := hid (V7.out.up hb)
                  replace V8 := hid (V8.out.up hb)
                  replace Na := hid (Na.out.up hb)
                  replace Nb := hid (Nb.out.up hb)
                  replace Nc := hid (Nc.out.up hb)
                  replace Ra := hid (Ra.out.up hb)
                  replace Rb := hid (Rb.out.up hb)
                  replace Rc := hid (Rc.out.up hb)
                  replace Q1 := hid (Q1.out.up hb)
                  replace Q2 := hid (Q2.out.up hb)
                  have Q13 := hid x1
                  clear hb x1
                  simp only [Act.put, List.setIfInBounds_toArray, List.set_cons_zero, List.set_cons_succ]
                  refine WE.call (d := some 109) rfl rfl (by rfl) (f := 24) (args := #[(.agg #[.bool g13, .slice A13 n13 c13])]) (by go_simp) ?_
                  refine (sign_e Q13.out.worth (s := sd) (HSD.out)).mono ?_
                  rintro e wn ⟨rfl, hb⟩
                  refine ⟨_, rfl, hb, ?_⟩
                  replace E := hid (E.out.trans hb)
                  replace Ba := hid (Ba.out.up hb)
                  replace Bb := hid (Bb.out.up hb)
                  replace Bc := hid (Bc.out.up hb)
                  replace V7 := hid (V7.out.up hb)
                  replace V8 := hid (V8.out.up hb)
                  replace Na := hid (Na.out.up hb)
                  replace Nb := hid (Nb.out.up hb)
                  replace Nc := hid (Nc.out.up hb)
                  replace Ra := hid (Ra.out.up hb)
                  replace Rb := hid (Rb.out.up hb)
                  replace Rc := hid (Rc.out.up hb)
                  replace Q1 := hid (Q1.out.up hb)
                  replace Q2 := hid (Q2.out.up hb)
                  replace Q13 := hid (Q13.out.up hb)
                  clear hb
                  simp only [Act.put, List.setIfInBounds_toArray, List.set_cons_zero, List.set_cons_succ]
                  clear Q13
                  as_aux_lemma =>
                    refine WE.call (d := some 112) rfl rfl (by rfl) (f := 26) (args := #[(.agg #[.bool ga, .slice Aa na ca]), (.agg #[.bool gb, .slice Ab nb cb])]) (by go_simp) ?_
                    refine (cmp_w Ra.out Rb.out (z := sd) (HSD.out)).mono ?_
                    rintro e wn ⟨rfl, hb⟩
                    refine ⟨_, rfl, hb, ?_⟩
                    replace E := hid (E.out.trans hb)
                    replace Ba := hid (Ba.out.up hb)
                    replace Bb := hid (Bb.out.up hb)
                    replace Bc := hid (Bc.out.up hb)
                    replace V7 := hid (V7.out.up hb)
                    replace V8 := hid (V8.out.up hb)
                    replace Na := hid (Na.out.up hb)
                    replace Nb := hid (Nb.out.up hb)
                    replace Nc := hid (Nc.out.up hb)
                    replace Ra := hid (Ra.out.up hb)
                    replace Rb := hid (Rb.out.up hb)
                    replace Rc := hid (Rc.out.up hb)
                    replace Q1 := hid (Q1.out.up hb)
                    replace Q2 := hid (Q2.out.up hb)
                    clear hb
                    simp only [Act.put, List.setIfInBounds_toArray, List.set_cons_zero, List.set_cons_succ]
                    refine WE.pure (d := some 113) rfl rfl (by rfl) (v := (.bool true)) (fun w' hk => ?_) ?_
                    · go_simp
                    simp only [Act.put, List.setIfInBounds_toArray, List.set_cons_zero, List.set_cons_succ]
                    refine WE.pure (d := some 114) rfl rfl (by rfl) (v := (.bool true)) (fun w' hk => ?_) ?_
                    · go_simp
                    simp only [Act.put, List.setIfInBounds_toArray, List.set_cons_zero, List.set_cons_succ]
                    refine WE.pure (d := some 115) rfl rfl (by rfl) (v := (.bool true)) (fun w' hk => ?_) ?_
                    · go_simp
                    simp only [Act.put, List.setIfInBounds_toArray, List.set_cons_zero, List.set_cons_succ]
                    refine WE.pure (d := some 116) rfl rfl (by rfl) (v := (.agg #[.bool ga, .slice Aa na ca])) (fun w' hk => ?_) ?_
                    · have c0 := hk.cell (Ba.out.cell (o := 0) (v := .bool ga) rfl); have c1 := hk.cell (Ba.out.cell (o := 1) (v := .slice Aa na ca) rfl); go_simp
                    simp only [Act.put, List.setIfInBounds_toArray, List.set_cons_zero, List.set_cons_succ]
                    refine WE.pure (d := some 118) rfl rfl (by rfl) (v := (.agg #[.bool gb, .slice Ab nb cb])) (fun w' hk => ?_) ?_
                    · have c0 := hk.cell (Bb.out.cell (o := 0) (v := .bool gb) rfl); have c1 := hk.cell (Bb.out.cell (o := 1) (v := .slice Ab nb cb) rfl); go_simp
                    simp only [Act.put, List.setIfInBounds_toArray, List.set_cons_zero, List.set_cons_succ]
                    refine WE.pure (d := some 120) rfl rfl (by rfl) (v := (.agg #[.bool g2, .slice A2 n2 c2])) (fun w' hk => ?_) ?_
                    · have c0 := hk.cell (V8.out.cell (o := 0) (v := .bool g2) rfl); have c1 := hk.cell (V8.out.cell (o := 1) (v := .slice A2 n2 c2) rfl); go_simp
                    simp only [Act.put, List.setIfInBounds_toArray, List.set_cons_zero, List.set_cons_succ]
                    refine WE.call (d := some 117) rfl rfl (by rfl) (f := 30) (args := #[(.agg #[.bool ga, .slice Aa na ca])]) (by go_simp) ?_
                    refine (neg_w Ra.out (by omega)).mono ?_
                    rintro e wn ⟨v1, rfl, x1, hb⟩
                    obtain ⟨g14, A14, n14, c14, rfl⟩ := x1.shape
                    refine ⟨_, rfl, hb, ?_⟩
                    replace E := hid (E.out.trans hb)
                    replace Ba := hid (Ba.out.up hb)
                    replace Bb := hid (Bb.out.up hb)
                    replace Bc := hid (Bc.out.up hb)
                    replace V7 := hid (V7.out.up hb)
                    replace V8 := hid (V8.out.up hb)
                    replace Na := hid (Na.out.up hb)
                    replace Nb := hid (Nb.out.up hb)
                    replace Nc := hid (Nc.out.up hb)
                    replace Ra := hid (Ra.out.up hb)
                    replace Rb := hid (Rb.out.up hb)
                    replace Rc := hid (Rc.out.up hb)
                    replace Q1 := hid (Q1.out.up hb)
                    replace Q2 := hid (Q2.out.up hb)
                    have Q14 := hid x1
                    clear hb x1
                    simp only [Act.put, List.setIfInBounds_toArray, List.set_cons_zero, List.set_cons_succ]
                    refine WE.call (d := some 119) rfl rfl (by rfl) (f := 38) (args := #[(.agg #[.bool g14, .slice A14 n14 c14]), (.agg #[.bool gb, .slice Ab nb cb])]) (by go_simp) ?_
                    refine (mul_w Q14.out.worth Rb.out (by omega) (by omega) (by omega)).mono ?_
                    rintro e wn ⟨v1, rfl, x1, hb⟩
                    obtain ⟨g15, A15, n15, c15, rfl⟩ := x1.shape
                    refine ⟨_, rfl, hb, ?_⟩
                    replace E := hid (E.out.trans hb)
                    replace Ba := hid (Ba.out.up hb)
                    replace Bb := hid (Bb.out.up hb)
                    replace Bc := hid (Bc.out.up hb)
                    replace V7 := hid (V7.out.up hb)
                    replace V8 := hid (V8.out.up hb)
                    replace Na := hid (Na.out.up hb)
                    replace Nb := hid (Nb.out.up hb)
                    replace Nc := hid (Nc.out.up hb)
                    replace Ra := hid (Ra.out.up hb)
                    replace Rb := hid (Rb.out.up hb)
                    replace Rc := hid (Rc.out.up hb)
                    replace Q1 := hid (Q1.out.up hb)
                    replace Q2 := hid (Q2.out.up hb)
                    replace Q14 := hid (Q14.out.up hb)
                    have Q15 := hid x1
                    clear hb x1
                    simp only [Act.put, List.setIfInBounds_toArray, List.set_cons_zero, List.set_cons_succ]
                    clear Q14
                    refine WE.call (d := some 121) rfl rfl (by rfl) (f := 30) (args := #[(.agg #[.bool g2, .slice A2 n2 c2])]) (by go_simp) ?_
                    refine (neg_w Q2.out.worth (by omega)).mono ?_
                    rintro e wn ⟨v1, rfl, x1, hb⟩
                    obtain ⟨g16, A16, n16, c16, rfl⟩ := x1.shape
                    refine ⟨_, rfl, hb, ?_⟩
                    replace E := hid (E.out.trans hb)
                    replace Ba := hid (Ba.out.up hb)
                    replace Bb := hid (Bb.out.up hb)
                    replace Bc := hid (Bc.out.up hb)
                    replace V7 := hid (V7.out.up hb)
                    replace V8 := hid (V8.out.up hb)
                    replace Na := hid (Na.out.up hb)
                    replace Nb := hid (Nb.out.up hb)
                    replace Nc := hid (Nc.out.up hb)
                    replace Ra := hid (Ra.out.up hb)
                    replace Rb := hid (Rb.out.up hb)
                    replace Rc := hid (Rc.out.up hb)
                    replace Q1 := hid (Q1.out.up hb)
                    replace Q2 := hid (Q2.out.up hb)
                    replace Q15 := hid (Q15.out.up hb)
                    have Q16 := hid x1
                    clear hb x1
                    simp only [Act.put, List.setIfInBounds_toArray, List.set_cons_zero, List.set_cons_succ]
                    refine WE.call (d := some 122) rfl rfl (by rfl) (f := 28) (args := #[(.agg #[.bool g15, .slice A15 n15 c15]), (.agg #[.bool g16, .slice A16 n16 c16])]) (by go_simp) ?_
                    refine (same_w Q15.out.worth Q16.out.worth (b := true) (decide_eq_true (Int.neg_mul _ _))).mono ?_
                    rintro e wn ⟨rfl, hb⟩
                    refine ⟨_, rfl, hb, ?_⟩
                    replace E := hid (E.out.trans hb)
                    replace Ba := hid (Ba.out.up hb)
                    replace Bb := hid (Bb.out.up hb)
                    replace Bc := hid (Bc.out.up hb)
                    replace V7 := hid (V7.out.up hb)
                    replace V8 := hid (V8.out.up hb)
                    replace Na := hid (Na.out.up hb)
                    replace Nb := hid (Nb.out.up hb)
                    replace Nc := hid (Nc.out.up hb)
                    replace Ra := hid (Ra.out.up hb)
                    replace Rb := hid (Rb.out.up hb)
                    replace Rc := hid (Rc.out.up hb)
                    replace Q1 := hid (Q1.out.up hb)
                    replace Q2 := hid (Q2.out.up hb)
                    replace Q15 := hid (Q15.out.up hb)
                    replace Q16 := hid (Q16.out.up hb)
                    clear hb
                    simp only [Act.put, List.setIfInBounds_toArray, List.set_cons_zero, List.set_cons_succ]
                    clear Q15
                    clear Q16
                    refine WE.pure (d := some 123) rfl rfl (by rfl) (v := (.bool true)) (fun w' hk => ?_) ?_
                    · go_simp
                    simp only [Act.put, List.setIfInBounds_toArray, List.set_cons_zero, List.set_cons_succ]
                    as_aux_lemma =>
                      refine WE.pure (d := some 124) rfl rfl (by rfl) (v := (.bool true)) (fun w' hk => ?_) ?_
                      · go_simp
                      simp only [Act.put, List.setIfInBounds_toArray, List.set_cons_zero, List.set_cons_succ]
                      refine WE.pure (d := some 125) rfl rfl (by rfl) (v := (.agg #[.bool ga, .slice Aa na ca])) (fun w' hk => ?_) ?_
                      · have c0 := hk.cell (Ba.out.cell (o := 0) (v := .bool ga) rfl); have c1 := hk.cell (Ba.out.cell (o := 1) (v := .slice Aa na ca) rfl); go_simp
                      simp only [Act.put, List.setIfInBounds_toArray, List.set_cons_zero, List.set_cons_succ]
                      refine WE.call (d := some 126) rfl rfl (by rfl) (f := 32) (args := #[(.agg #[.bool ga, .slice Aa na ca])]) (by go_simp) ?_
                      refine (abs_w Ra.out (by omega)).mono ?_
                      rintro e wn ⟨v1, rfl, x1, hb⟩
                      obtain ⟨g17, A17, n17, c17, rfl⟩ := x1.shape
                      refine ⟨_, rfl, hb, ?_⟩
                      replace E := hid (E.out.trans hb)
                      replace Ba := hid (Ba.out.up hb)
                      replace Bb := hid (Bb.out.up hb)
                      replace Bc := hid (Bc.out.up hb)
                      replace V7 := hid (V7.out.up hb)
                      replace V8 := hid (V8.out.up hb)
                      replace Na := hid (Na.out.up hb)
                      replace Nb := hid (Nb.out.up hb)
                      replace Nc := hid (Nc.out.up hb)
                      replace Ra := hid (Ra.out.up hb)
                      replace Rb := hid (Rb.out.up hb)
                      replace Rc := hid (Rc.out.up hb)
                      replace Q1 := hid (Q1.out.up hb)
                      replace Q2 := hid (Q2.out.up hb)
                      have Q17 := hid x1
                      clear hb x1
                      simp only [Act.put, List.setIfInBounds_toArray, List.set_cons_zero, List.set_cons_succ]
                      refine WE.call (d := some 127) rfl rfl (by rfl) (f := 24) (args := #[(.agg #[.bool g17, .slice A17 n17 c17])]) (by go_simp) ?_
                      refine (sign_e Q17.out.worth (s := sg) (HSG.out)).mono ?_
                      rintro e wn ⟨rfl, hb⟩
                      refine ⟨_, rfl, hb, ?_⟩
                      replace E := hid (E.out.trans hb)
                      replace Ba := hid (Ba.out.up hb)
                      replace Bb := hid (Bb.out.up hb)
                      replace Bc := hid (Bc.out.up hb)
                      replace V7 := hid (V7.out.up hb)
                      replace V8 := hid (V8.out.up hb)
                      replace Na := hid (Na.out.up hb)
                      replace Nb := hid (Nb.out.up hb)
                      replace Nc := hid (Nc.out.up hb)
                      replace Ra := hid (Ra.out.up hb)
                      replace Rb := hid (Rb.out.up hb)
                      replace Rc := hid (Rc.out.up hb)
                      replace Q1 := hid (Q1.out.up hb)
                      replace Q2 := hid (Q2.out.up hb)
                      replace Q17 := hid (Q17.out.up hb)
                      clear hb
                      simp only [Act.put, List.setIfInBounds_toArray, List.set_cons_zero, List.set_cons_succ]
                      clear Q17
                      refine WE.pure (d := some 128) rfl rfl (by rfl) (v := (.bool true)) (fun w' hk => ?_) ?_
                      · go_simp
                      simp only [Act.put, List.setIfInBounds_toArray, List.set_cons_zero, List.set_cons_succ]
                      refine WE.pure (d := some 129) rfl rfl (by rfl) (v := (.bool true)) (fun w' hk => ?_) ?_
                      · go_simp
                      simp only [Act.put, List.setIfInBounds_toArray, List.set_cons_zero, List.set_cons_succ]
                      refine WE.pure (d := some 6) rfl rfl (by rfl) (v := (.bool true)) (fun w' hk => ?_) ?_
                      · go_simp
                      simp only [Act.put, List.setIfInBounds_toArray, List.set_cons_zero, List.set_cons_succ]
                      refine WE.done ?_
                      go_wp2
                      go_ret
                      exact ⟨rfl, E.out⟩

theorem wholeRules_walk (W : World) (ga : Bool) (Aa : Option Addr) (na ca : Nat) (la : List Nat) (ha : Num W W.heap.size (.slice Aa na ca) la) (gb : Bool) (Ab : Option Addr) (nb cb : Nat) (lb : List Nat) (hb : Num W W.heap.size (.slice Ab nb cb) lb) (gc : Bool) (Ac : Option Addr) (nc cc : Nat) (lc : List Nat) (hc : Num W W.heap.size (.slice Ac nc cc) lc) :
    Calls Try.prog 4 #[.agg #[.bool ga, .slice Aa na ca], .agg #[.bool gb, .slice Ab nb cb], .agg #[.bool gc, .slice Ac nc cc]] W (fun e w' => e = .returned (.bool true) ∧ Ext W w') := by
  rcases fa : (decide (la.length ≤ 8)) with _ | _
  · exact wholeRules_skip0 W ga Aa na ca la ha gb Ab nb cb lb hb gc Ac nc cc lc hc fa
  rcases fb : (decide (lb.length ≤ 8)) with _ | _
  · exact wholeRules_skip1 W ga Aa na ca la ha gb Ab nb cb lb hb gc Ac nc cc lc hc fa fb
  rcases fc : (decide (lc.length ≤ 8)) with _ | _
  · exact wholeRules_skip2 W ga Aa na ca la ha gb Ab nb cb lb hb gc Ac nc cc lc hc fa fb fc
  rcases ia : (M.isZ ga la) with _ | _
  · exact wholeRules_skip3 W ga Aa na ca la ha gb Ab nb cb lb hb gc Ac nc cc lc hc fa fb fc ia
  rcases ib : (M.isZ gb lb) with _ | _
  · exact wholeRules_skip4 W ga Aa na ca la ha gb Ab nb cb lb hb gc Ac nc cc lc hc fa fb fc ia ib
  rcases ic : (M.isZ gc lc) with _ | _
  · exact wholeRules_skip5 W ga Aa na ca la ha gb Ab nb cb lb hb gc Ac nc cc lc hc fa fb fc ia ib ic
  exact wholeRules_main W ga Aa na ca la ha gb Ab nb cb lb hb gc Ac nc cc lc hc fa fb fc ia ib ic _ rfl _ rfl _ rfl

set_option maxRecDepth 100000 in
theorem wholeRules_lifted (os : Os) (started : os.Started) (H : Type) (enc : TypeId × Value → H) :
    ReturnsInHanded {} Try.checked os 4 .any (Rows.wholeRulesSpec.pre6 enc Try.prog Try.f4 Rows.wholeRulesRow.domain false) (Rows.wholeRulesSpec.post enc Try.prog Try.f4 false true false false) := by
  refine returnsInHanded_of_change (C := Try.checked) own started (by kernel_rfl) Try.func4
    (ChangeSpec.witness6 (enc := enc) (C := Try.checked) false ⟨#[], #[.agg #[.bool false, .slice none 0 0], .agg #[.bool false, .slice none 0 0], .agg #[.bool false, .slice none 0 0]], []⟩ 8 (by kernel_rfl) (by kernel_rfl) (by kernel_rfl) (by kernel_rfl)) ?_
  intro W base args ds gs before hval0 hW _ _
  have hval : ∀ (j : Nat) t v, Try.f4.params[j]? = some t → args[j]? = some v → Value.okWide Try.prog W .any base t v := hval0
  have hW' := hW
  obtain ⟨p, q, hA0, hV, rfl, hfz, hnd⟩ := hW
  have hA : DataW.TrodAll enc Try.prog W 0 (fun _ => true) true Try.f4.params.toList args.toList ds p := hA0
  rw [Try.params4] at hA hval
  obtain ⟨v0, vs0, d0, ds0, p0, q0, hargs, rfl, rfl, h0, r0⟩ := trodAll_cons hA
  obtain ⟨v1, vs1, d1, ds1, p1, q1, rfl, rfl, rfl, h1, r1⟩ := trodAll_cons r0
  obtain ⟨v2, vs2, d2, ds2, p2, q2, rfl, rfl, rfl, h2, r2⟩ := trodAll_cons r1
  obtain ⟨rfl, rfl, rfl⟩ := trodAll_nil r2
  obtain rfl : args = #[v0, v1, v2] := by cases args; simp_all
  obtain ⟨rfl, rfl⟩ := trodVars_none hV
  obtain ⟨g0, A0, n0, c0, l0, rfl, e0⟩ := open_Z (hval 0 24 _ rfl rfl) h0
  obtain ⟨g1, A1, n1, c1, l1, rfl, e1⟩ := open_Z (hval 1 24 _ rfl rfl) h1
  obtain ⟨g2, A2, n2, c2, l2, rfl, e2⟩ := open_Z (hval 2 24 _ rfl rfl) h2
  clear hA0 hval0
  refine (wholeRules_walk W g0 A0 n0 c0 l0 e0 g1 A1 n1 c1 l1 e1 g2 A2 n2 c2 l2 e2).mono fun e W' ⟨he, hg⟩ => ?_
  subst he
  exact ⟨_, rfl, law_post hW' rfl rfl (by kernel_rfl) (by kernel_rfl) hg⟩

theorem wholeRules_over : Rows.wholeRulesRow.holds Try.pinned (OpenSpec.ofChange Rows.wholeRulesSpec) :=
  OpenClaim.holds_of_wide 4 Try.f4 rfl rfl rfl rfl rfl rfl rfl ⟨rfl, rfl, rfl, rfl, rfl⟩ rfl rfl rfl rfl rfl (by kernel_rfl) Try.func4 (by kernel_rfl)
    (of_decide_eq_true (by kernel_rfl)) (by unfold Func.isWrapper; first | (rw [if_pos (by decide +kernel)]; kernel_rfl) | (rw [if_neg (by decide +kernel)]; exact ⟨rfl, rfl⟩))
    (fun os started H enc _ => wholeRules_lifted os started H enc)

theorem wholeRules_proved : Rows.WholeRulesSaid := wholeRules_over

end Go.Proofs.Ytjmonmbgfihgmaa
