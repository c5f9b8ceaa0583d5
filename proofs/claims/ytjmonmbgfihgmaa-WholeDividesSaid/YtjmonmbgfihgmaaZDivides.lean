/-
  WholeDivides: whatever two integers, or what is none: true, and the input reads as it did. No conditions.
-/
import Derived.Test.YtjmonmbgfihgmaaZKnown
namespace Go.Proofs.Ytjmonmbgfihgmaa
open Go.ChangeShapes Go.WideShapes Go.ChangeAt Go.RowKit
set_option linter.unusedSimpArgs false
set_option linter.unusedVariables false

theorem Int.emod_lt_abs_natAbs (x : Int) {y : Int} (h : y ≠ 0) : x % y < (y.natAbs : Int) := Int.emod_lt x h
theorem fmod_bounds (x : Int) {y : Int} (h : y ≠ 0) : (0 < y → 0 ≤ x.fmod y ∧ x.fmod y < y) ∧ (y < 0 → y < x.fmod y ∧ x.fmod y ≤ 0) := by
  refine ⟨fun hp => ⟨Int.fmod_nonneg_of_pos x hp, Int.fmod_lt_of_pos x hp⟩, fun hp => ?_⟩
  have e1 : x.fmod y = -((-x).fmod (-y)) := by rw [Int.neg_fmod_neg]; omega
  have h2 := Int.fmod_nonneg_of_pos (-x) (show 0 < -y by omega)
  have h3 := Int.fmod_lt_of_pos (-x) (show 0 < -y by omega)
  omega
theorem fmod_sign {x y : Int} (h : y ≠ 0) (hr : x.fmod y ≠ 0) : (x.fmod y).sign = y.sign := by
  have hb := fmod_bounds x h
  rcases (by omega : 0 < y ∨ y < 0) with hp | hp
  · have := hb.1 hp
    rw [Int.sign_eq_one_of_pos (by omega), Int.sign_eq_one_of_pos hp]
  · have := hb.2 hp
    rw [Int.sign_eq_neg_one_of_neg (by omega), Int.sign_eq_neg_one_of_neg hp]
theorem fmod_natAbs_lt (x : Int) {y : Int} (h : y ≠ 0) : (x.fmod y).natAbs < y.natAbs := by
  have hb := fmod_bounds x h
  rcases (by omega : 0 < y ∨ y < 0) with hp | hp
  · have := hb.1 hp; omega
  · have := hb.2 hp; omega

set_option maxHeartbeats 1000000 in
theorem wholeDivides_skip0 (W : World) (ga : Bool) (Aa : Option Addr) (na ca : Nat) (la : List Nat) (ha : Num W W.heap.size (.slice Aa na ca) la) (gb : Bool) (Ab : Option Addr) (nb cb : Nat) (lb : List Nat) (hb : Num W W.heap.size (.slice Ab nb cb) lb) (fa : Hid (decide (la.length ≤ 8) = false)) :
    Calls Try.prog 5 #[.agg #[.bool ga, .slice Aa na ca], .agg #[.bool gb, .slice Ab nb cb]] W (fun e w' => e = .returned (.bool true) ∧ Ext W w') := by
  have Na := hid ha
  have Nb := hid hb
  clear ha hb
  go_enter Try.func5, Try.ntmps5
  go_upto_region 1 with (fail)
  have E := hid (((Ext.refl W).alloc' (.cells #[.bool ga, .slice Aa na ca] 24)).alloc' (.cells #[.bool gb, .slice Ab nb cb] 24))
  have Ba : Hid (Box ((W.alloc (.cells #[.bool ga, .slice Aa na ca] 24)).alloc (.cells #[.bool gb, .slice Ab nb cb] 24)) (W.heap.size) #[.bool ga, .slice Aa na ca] 24) := hid ((Box.at_ (w := W) #[.bool ga, .slice Aa na ca] 24 (by simp)).alloc (.cells #[.bool gb, .slice Ab nb cb] 24))
  have Bb : Hid (Box ((W.alloc (.cells #[.bool ga, .slice Aa na ca] 24)).alloc (.cells #[.bool gb, .slice Ab nb cb] 24)) (W.heap.size + 1) #[.bool gb, .slice Ab nb cb] 24) := hid (Box.at_ (w := (W.alloc (.cells #[.bool ga, .slice Aa na ca] 24))) #[.bool gb, .slice Ab nb cb] 24 (by simp))
  replace Na := hid (Na.out.up E.out)
  replace Nb := hid (Nb.out.up E.out)
  go_upto_region 1 with (fail)
  refine wp_region_T [(0, 1), (1, 0)] (by kernel_rfl) fun wd hb => ?_
  replace E := hid (E.out.trans hb)
  replace Ba := hid (Ba.out.up hb)
  replace Bb := hid (Bb.out.up hb)
  replace Na := hid (Na.out.up hb)
  replace Nb := hid (Nb.out.up hb)
  clear hb
  refine WE.call (d := some 9) rfl rfl (by rfl) (f := 11) (args := #[]) (by go_simp) ?_
  refine (known2 _).mono ?_
  rintro e wn ⟨rfl, hb⟩
  refine ⟨_, rfl, hb, ?_⟩
  replace E := hid (E.out.trans hb)
  replace Ba := hid (Ba.out.up hb)
  replace Bb := hid (Bb.out.up hb)
  replace Na := hid (Na.out.up hb)
  replace Nb := hid (Nb.out.up hb)
  clear hb
  simp only [Act.put, List.setIfInBounds_toArray, List.set_cons_zero, List.set_cons_succ]
  refine WE.pure (d := some 10) rfl rfl (by rfl) (v := (.bool false)) (fun w' hk => ?_) ?_
  · go_simp
  simp only [Act.put, List.setIfInBounds_toArray, List.set_cons_zero, List.set_cons_succ]
  refine WE.done ?_
  go_upto_region 3 with (fail)
  refine wp_region_T [(0, 0), (1, 1), (2, 0), (3, 0), (4, 0), (5, 1), (6, 0), (7, 0), (8, 0), (9, 0), (10, 1), (11, 0), (12, 0), (13, 0), (14, 0), (15, 1), (16, 0), (17, 0)] (by kernel_rfl) fun wd hb => ?_
  replace E := hid (E.out.trans hb)
  replace Ba := hid (Ba.out.up hb)
  replace Bb := hid (Bb.out.up hb)
  replace Na := hid (Na.out.up hb)
  replace Nb := hid (Nb.out.up hb)
  clear hb
  refine WE.pure (d := some 11) rfl rfl (by rfl) (v := (.agg #[.bool ga, .slice Aa na ca])) (fun w' hk => ?_) ?_
  · have c0 := hk.cell (Ba.out.cell (o := 0) (v := .bool ga) rfl); have c1 := hk.cell (Ba.out.cell (o := 1) (v := .slice Aa na ca) rfl); go_simp
  simp only [Act.put, List.setIfInBounds_toArray, List.set_cons_zero, List.set_cons_succ]
  refine WE.call (d := some 12) rfl rfl (by rfl) (f := 12) (args := #[(.agg #[.bool ga, .slice Aa na ca])]) (by go_simp) ?_
  refine (few_z Na.out fa.out).mono ?_
  rintro e wn ⟨rfl, hb⟩
  refine ⟨_, rfl, hb, ?_⟩
  replace E := hid (E.out.trans hb)
  replace Ba := hid (Ba.out.up hb)
  replace Bb := hid (Bb.out.up hb)
  replace Na := hid (Na.out.up hb)
  replace Nb := hid (Nb.out.up hb)
  clear hb
  simp only [Act.put, List.setIfInBounds_toArray, List.set_cons_zero, List.set_cons_succ]
  refine WE.pure (d := some 13) rfl rfl (by rfl) (v := (.bool true)) (fun w' hk => ?_) ?_
  · go_simp
  simp only [Act.put, List.setIfInBounds_toArray, List.set_cons_zero, List.set_cons_succ]
  refine WE.pure (d := some 14) rfl rfl (by rfl) (v := (.bool true)) (fun w' hk => ?_) ?_
  · go_simp
  simp only [Act.put, List.setIfInBounds_toArray, List.set_cons_zero, List.set_cons_succ]
  refine WE.skip (d := some 15) rfl rfl (by rfl) ?_
  simp only [Act.put, List.setIfInBounds_toArray, List.set_cons_zero, List.set_cons_succ]
  refine WE.pass (d := some 16) rfl rfl (by rfl) ?_
  simp only [Act.put, List.setIfInBounds_toArray, List.set_cons_zero, List.set_cons_succ]
  refine WE.skip (d := some 17) rfl rfl (by rfl) ?_
  simp only [Act.put, List.setIfInBounds_toArray, List.set_cons_zero, List.set_cons_succ]
  refine WE.pure (d := some 18) rfl rfl (by rfl) (v := (.bool true)) (fun w' hk => ?_) ?_
  · go_simp
  simp only [Act.put, List.setIfInBounds_toArray, List.set_cons_zero, List.set_cons_succ]
  refine WE.pure (d := some 19) rfl rfl (by rfl) (v := (.bool true)) (fun w' hk => ?_) ?_
  · go_simp
  simp only [Act.put, List.setIfInBounds_toArray, List.set_cons_zero, List.set_cons_succ]
  refine WE.skip (d := some 20) rfl rfl (by rfl) ?_
  simp only [Act.put, List.setIfInBounds_toArray, List.set_cons_zero, List.set_cons_succ]
  refine WE.pass (d := some 21) rfl rfl (by rfl) ?_
  simp only [Act.put, List.setIfInBounds_toArray, List.set_cons_zero, List.set_cons_succ]
  refine WE.skip (d := some 22) rfl rfl (by rfl) ?_
  simp only [Act.put, List.setIfInBounds_toArray, List.set_cons_zero, List.set_cons_succ]
  refine WE.pure (d := some 23) rfl rfl (by rfl) (v := (.bool true)) (fun w' hk => ?_) ?_
  · go_simp
  simp only [Act.put, List.setIfInBounds_toArray, List.set_cons_zero, List.set_cons_succ]
  refine WE.pure (d := some 24) rfl rfl (by rfl) (v := (.bool true)) (fun w' hk => ?_) ?_
  · go_simp
  simp only [Act.put, List.setIfInBounds_toArray, List.set_cons_zero, List.set_cons_succ]
  refine WE.skip (d := some 25) rfl rfl (by rfl) ?_
  simp only [Act.put, List.setIfInBounds_toArray, List.set_cons_zero, List.set_cons_succ]
  refine WE.pass (d := some 26) rfl rfl (by rfl) ?_
  simp only [Act.put, List.setIfInBounds_toArray, List.set_cons_zero, List.set_cons_succ]
  refine WE.skip (d := some 27) rfl rfl (by rfl) ?_
  simp only [Act.put, List.setIfInBounds_toArray, List.set_cons_zero, List.set_cons_succ]
  refine WE.pure (d := some 28) rfl rfl (by rfl) (v := (.bool true)) (fun w' hk => ?_) ?_
  · go_simp
  simp only [Act.put, List.setIfInBounds_toArray, List.set_cons_zero, List.set_cons_succ]
  refine WE.done ?_
  go_wp2
  go_ret
  exact ⟨rfl, E.out⟩

set_option maxHeartbeats 1000000 in
theorem wholeDivides_skip1 (W : World) (ga : Bool) (Aa : Option Addr) (na ca : Nat) (la : List Nat) (ha : Num W W.heap.size (.slice Aa na ca) la) (gb : Bool) (Ab : Option Addr) (nb cb : Nat) (lb : List Nat) (hb : Num W W.heap.size (.slice Ab nb cb) lb) (fa : Hid (decide (la.length ≤ 8) = true)) (fb : Hid (decide (lb.length ≤ 8) = false)) :
    Calls Try.prog 5 #[.agg #[.bool ga, .slice Aa na ca], .agg #[.bool gb, .slice Ab nb cb]] W (fun e w' => e = .returned (.bool true) ∧ Ext W w') := by
  have Na := hid ha
  have Nb := hid hb
  clear ha hb
  go_enter Try.func5, Try.ntmps5
  go_upto_region 1 with (fail)
  have E := hid (((Ext.refl W).alloc' (.cells #[.bool ga, .slice Aa na ca] 24)).alloc' (.cells #[.bool gb, .slice Ab nb cb] 24))
  have Ba : Hid (Box ((W.alloc (.cells #[.bool ga, .slice Aa na ca] 24)).alloc (.cells #[.bool gb, .slice Ab nb cb] 24)) (W.heap.size) #[.bool ga, .slice Aa na ca] 24) := hid ((Box.at_ (w := W) #[.bool ga, .slice Aa na ca] 24 (by simp)).alloc (.cells #[.bool gb, .slice Ab nb cb] 24))
  have Bb : Hid (Box ((W.alloc (.cells #[.bool ga, .slice Aa na ca] 24)).alloc (.cells #[.bool gb, .slice Ab nb cb] 24)) (W.heap.size + 1) #[.bool gb, .slice Ab nb cb] 24) := hid (Box.at_ (w := (W.alloc (.cells #[.bool ga, .slice Aa na ca] 24))) #[.bool gb, .slice Ab nb cb] 24 (by simp))
  replace Na := hid (Na.out.up E.out)
  replace Nb := hid (Nb.out.up E.out)
  go_upto_region 1 with (fail)
  refine wp_region_T [(0, 1), (1, 0)] (by kernel_rfl) fun wd hb => ?_
  replace E := hid (E.out.trans hb)
  replace Ba := hid (Ba.out.up hb)
  replace Bb := hid (Bb.out.up hb)
  replace Na := hid (Na.out.up hb)
  replace Nb := hid (Nb.out.up hb)
  clear hb
  refine WE.call (d := some 9) rfl rfl (by rfl) (f := 11) (args := #[]) (by go_simp) ?_
  refine (known2 _).mono ?_
  rintro e wn ⟨rfl, hb⟩
  refine ⟨_, rfl, hb, ?_⟩
  replace E := hid (E.out.trans hb)
  replace Ba := hid (Ba.out.up hb)
  replace Bb := hid (Bb.out.up hb)
  replace Na := hid (Na.out.up hb)
  replace Nb := hid (Nb.out.up hb)
  clear hb
  simp only [Act.put, List.setIfInBounds_toArray, List.set_cons_zero, List.set_cons_succ]
  refine WE.pure (d := some 10) rfl rfl (by rfl) (v := (.bool false)) (fun w' hk => ?_) ?_
  · go_simp
  simp only [Act.put, List.setIfInBounds_toArray, List.set_cons_zero, List.set_cons_succ]
  refine WE.done ?_
  go_upto_region 3 with (fail)
  refine wp_region_T [(0, 0), (1, 1), (2, 0), (3, 0), (4, 0), (5, 1), (6, 0), (7, 0), (8, 0), (9, 0), (10, 1), (11, 0), (12, 0), (13, 0), (14, 0), (15, 1), (16, 0), (17, 0)] (by kernel_rfl) fun wd hb => ?_
  replace E := hid (E.out.trans hb)
  replace Ba := hid (Ba.out.up hb)
  replace Bb := hid (Bb.out.up hb)
  replace Na := hid (Na.out.up hb)
  replace Nb := hid (Nb.out.up hb)
  clear hb
  refine WE.pure (d := some 11) rfl rfl (by rfl) (v := (.agg #[.bool ga, .slice Aa na ca])) (fun w' hk => ?_) ?_
  · have c0 := hk.cell (Ba.out.cell (o := 0) (v := .bool ga) rfl); have c1 := hk.cell (Ba.out.cell (o := 1) (v := .slice Aa na ca) rfl); go_simp
  simp only [Act.put, List.setIfInBounds_toArray, List.set_cons_zero, List.set_cons_succ]
  refine WE.call (d := some 12) rfl rfl (by rfl) (f := 12) (args := #[(.agg #[.bool ga, .slice Aa na ca])]) (by go_simp) ?_
  refine (few_z Na.out fa.out).mono ?_
  rintro e wn ⟨rfl, hb⟩
  refine ⟨_, rfl, hb, ?_⟩
  replace E := hid (E.out.trans hb)
  replace Ba := hid (Ba.out.up hb)
  replace Bb := hid (Bb.out.up hb)
  replace Na := hid (Na.out.up hb)
  replace Nb := hid (Nb.out.up hb)
  clear hb
  simp only [Act.put, List.setIfInBounds_toArray, List.set_cons_zero, List.set_cons_succ]
  refine WE.pure (d := some 13) rfl rfl (by rfl) (v := (.bool false)) (fun w' hk => ?_) ?_
  · go_simp
  simp only [Act.put, List.setIfInBounds_toArray, List.set_cons_zero, List.set_cons_succ]
  refine WE.pure (d := some 14) rfl rfl (by rfl) (v := (.bool false)) (fun w' hk => ?_) ?_
  · go_simp
  simp only [Act.put, List.setIfInBounds_toArray, List.set_cons_zero, List.set_cons_succ]
  refine WE.pure (d := some 15) rfl rfl (by rfl) (v := (.agg #[.bool gb, .slice Ab nb cb])) (fun w' hk => ?_) ?_
  · have c0 := hk.cell (Bb.out.cell (o := 0) (v := .bool gb) rfl); have c1 := hk.cell (Bb.out.cell (o := 1) (v := .slice Ab nb cb) rfl); go_simp
  simp only [Act.put, List.setIfInBounds_toArray, List.set_cons_zero, List.set_cons_succ]
  refine WE.call (d := some 16) rfl rfl (by rfl) (f := 12) (args := #[(.agg #[.bool gb, .slice Ab nb cb])]) (by go_simp) ?_
  refine (few_z Nb.out fb.out).mono ?_
  rintro e wn ⟨rfl, hb⟩
  refine ⟨_, rfl, hb, ?_⟩
  replace E := hid (E.out.trans hb)
  replace Ba := hid (Ba.out.up hb)
  replace Bb := hid (Bb.out.up hb)
  replace Na := hid (Na.out.up hb)
  replace Nb := hid (Nb.out.up hb)
  clear hb
  simp only [Act.put, List.setIfInBounds_toArray, List.set_cons_zero, List.set_cons_succ]
  refine WE.pure (d := some 17) rfl rfl (by rfl) (v := (.bool true)) (fun w' hk => ?_) ?_
  · go_simp
  simp only [Act.put, List.setIfInBounds_toArray, List.set_cons_zero, List.set_cons_succ]
  refine WE.pure (d := some 18) rfl rfl (by rfl) (v := (.bool true)) (fun w' hk => ?_) ?_
  · go_simp
  simp only [Act.put, List.setIfInBounds_toArray, List.set_cons_zero, List.set_cons_succ]
  refine WE.pure (d := some 19) rfl rfl (by rfl) (v := (.bool true)) (fun w' hk => ?_) ?_
  · go_simp
  simp only [Act.put, List.setIfInBounds_toArray, List.set_cons_zero, List.set_cons_succ]
  refine WE.skip (d := some 20) rfl rfl (by rfl) ?_
  simp only [Act.put, List.setIfInBounds_toArray, List.set_cons_zero, List.set_cons_succ]
  refine WE.pass (d := some 21) rfl rfl (by rfl) ?_
  simp only [Act.put, List.setIfInBounds_toArray, List.set_cons_zero, List.set_cons_succ]
  refine WE.skip (d := some 22) rfl rfl (by rfl) ?_
  simp only [Act.put, List.setIfInBounds_toArray, List.set_cons_zero, List.set_cons_succ]
  refine WE.pure (d := some 23) rfl rfl (by rfl) (v := (.bool true)) (fun w' hk => ?_) ?_
  · go_simp
  simp only [Act.put, List.setIfInBounds_toArray, List.set_cons_zero, List.set_cons_succ]
  refine WE.pure (d := some 24) rfl rfl (by rfl) (v := (.bool true)) (fun w' hk => ?_) ?_
  · go_simp
  simp only [Act.put, List.setIfInBounds_toArray, List.set_cons_zero, List.set_cons_succ]
  refine WE.skip (d := some 25) rfl rfl (by rfl) ?_
  simp only [Act.put, List.setIfInBounds_toArray, List.set_cons_zero, List.set_cons_succ]
  refine WE.pass (d := some 26) rfl rfl (by rfl) ?_
  simp only [Act.put, List.setIfInBounds_toArray, List.set_cons_zero, List.set_cons_succ]
  refine WE.skip (d := some 27) rfl rfl (by rfl) ?_
  simp only [Act.put, List.setIfInBounds_toArray, List.set_cons_zero, List.set_cons_succ]
  refine WE.pure (d := some 28) rfl rfl (by rfl) (v := (.bool true)) (fun w' hk => ?_) ?_
  · go_simp
  simp only [Act.put, List.setIfInBounds_toArray, List.set_cons_zero, List.set_cons_succ]
  refine WE.done ?_
  go_wp2
  go_ret
  exact ⟨rfl, E.out⟩

set_option maxHeartbeats 1000000 in
theorem wholeDivides_skip2 (W : World) (ga : Bool) (Aa : Option Addr) (na ca : Nat) (la : List Nat) (ha : Num W W.heap.size (.slice Aa na ca) la) (gb : Bool) (Ab : Option Addr) (nb cb : Nat) (lb : List Nat) (hb : Num W W.heap.size (.slice Ab nb cb) lb) (fa : Hid (decide (la.length ≤ 8) = true)) (fb : Hid (decide (lb.length ≤ 8) = true)) (ia : Hid (M.isZ ga la = false)) :
    Calls Try.prog 5 #[.agg #[.bool ga, .slice Aa na ca], .agg #[.bool gb, .slice Ab nb cb]] W (fun e w' => e = .returned (.bool true) ∧ Ext W w') := by
  have Na := hid ha
  have Nb := hid hb
  clear ha hb
  go_enter Try.func5, Try.ntmps5
  go_upto_region 1 with (fail)
  have E := hid (((Ext.refl W).alloc' (.cells #[.bool ga, .slice Aa na ca] 24)).alloc' (.cells #[.bool gb, .slice Ab nb cb] 24))
  have Ba : Hid (Box ((W.alloc (.cells #[.bool ga, .slice Aa na ca] 24)).alloc (.cells #[.bool gb, .slice Ab nb cb] 24)) (W.heap.size) #[.bool ga, .slice Aa na ca] 24) := hid ((Box.at_ (w := W) #[.bool ga, .slice Aa na ca] 24 (by simp)).alloc (.cells #[.bool gb, .slice Ab nb cb] 24))
  have Bb : Hid (Box ((W.alloc (.cells #[.bool ga, .slice Aa na ca] 24)).alloc (.cells #[.bool gb, .slice Ab nb cb] 24)) (W.heap.size + 1) #[.bool gb, .slice Ab nb cb] 24) := hid (Box.at_ (w := (W.alloc (.cells #[.bool ga, .slice Aa na ca] 24))) #[.bool gb, .slice Ab nb cb] 24 (by simp))
  replace Na := hid (Na.out.up E.out)
  replace Nb := hid (Nb.out.up E.out)
  go_upto_region 1 with (fail)
  refine wp_region_T [(0, 1), (1, 0)] (by kernel_rfl) fun wd hb => ?_
  replace E := hid (E.out.trans hb)
  replace Ba := hid (Ba.out.up hb)
  replace Bb := hid (Bb.out.up hb)
  replace Na := hid (Na.out.up hb)
  replace Nb := hid (Nb.out.up hb)
  clear hb
  refine WE.call (d := some 9) rfl rfl (by rfl) (f := 11) (args := #[]) (by go_simp) ?_
  refine (known2 _).mono ?_
  rintro e wn ⟨rfl, hb⟩
  refine ⟨_, rfl, hb, ?_⟩
  replace E := hid (E.out.trans hb)
  replace Ba := hid (Ba.out.up hb)
  replace Bb := hid (Bb.out.up hb)
  replace Na := hid (Na.out.up hb)
  replace Nb := hid (Nb.out.up hb)
  clear hb
  simp only [Act.put, List.setIfInBounds_toArray, List.set_cons_zero, List.set_cons_succ]
  refine WE.pure (d := some 10) rfl rfl (by rfl) (v := (.bool false)) (fun w' hk => ?_) ?_
  · go_simp
  simp only [Act.put, List.setIfInBounds_toArray, List.set_cons_zero, List.set_cons_succ]
  refine WE.done ?_
  go_upto_region 3 with (fail)
  refine wp_region_T [(0, 0), (1, 1), (2, 0), (3, 0), (4, 0), (5, 1), (6, 0), (7, 0), (8, 0), (9, 0), (10, 1), (11, 0), (12, 0), (13, 0), (14, 0), (15, 1), (16, 0), (17, 0)] (by kernel_rfl) fun wd hb => ?_
  replace E := hid (E.out.trans hb)
  replace Ba := hid (Ba.out.up hb)
  replace Bb := hid (Bb.out.up hb)
  replace Na := hid (Na.out.up hb)
  replace Nb := hid (Nb.out.up hb)
  clear hb
  refine WE.pure (d := some 11) rfl rfl (by rfl) (v := (.agg #[.bool ga, .slice Aa na ca])) (fun w' hk => ?_) ?_
  · have c0 := hk.cell (Ba.out.cell (o := 0) (v := .bool ga) rfl); have c1 := hk.cell (Ba.out.cell (o := 1) (v := .slice Aa na ca) rfl); go_simp
  simp only [Act.put, List.setIfInBounds_toArray, List.set_cons_zero, List.set_cons_succ]
  refine WE.call (d := some 12) rfl rfl (by rfl) (f := 12) (args := #[(.agg #[.bool ga, .slice Aa na ca])]) (by go_simp) ?_
  refine (few_z Na.out fa.out).mono ?_
  rintro e wn ⟨rfl, hb⟩
  refine ⟨_, rfl, hb, ?_⟩
  replace E := hid (E.out.trans hb)
  replace Ba := hid (Ba.out.up hb)
  replace Bb := hid (Bb.out.up hb)
  replace Na := hid (Na.out.up hb)
  replace Nb := hid (Nb.out.up hb)
  clear hb
  simp only [Act.put, List.setIfInBounds_toArray, List.set_cons_zero, List.set_cons_succ]
  refine WE.pure (d := some 13) rfl rfl (by rfl) (v := (.bool false)) (fun w' hk => ?_) ?_
  · go_simp
  simp only [Act.put, List.setIfInBounds_toArray, List.set_cons_zero, List.set_cons_succ]
  refine WE.pure (d := some 14) rfl rfl (by rfl) (v := (.bool false)) (fun w' hk => ?_) ?_
  · go_simp
  simp only [Act.put, List.setIfInBounds_toArray, List.set_cons_zero, List.set_cons_succ]
  refine WE.pure (d := some 15) rfl rfl (by rfl) (v := (.agg #[.bool gb, .slice Ab nb cb])) (fun w' hk => ?_) ?_
  · have c0 := hk.cell (Bb.out.cell (o := 0) (v := .bool gb) rfl); have c1 := hk.cell (Bb.out.cell (o := 1) (v := .slice Ab nb cb) rfl); go_simp
  simp only [Act.put, List.setIfInBounds_toArray, List.set_cons_zero, List.set_cons_succ]
  refine WE.call (d := some 16) rfl rfl (by rfl) (f := 12) (args := #[(.agg #[.bool gb, .slice Ab nb cb])]) (by go_simp) ?_
  refine (few_z Nb.out fb.out).mono ?_
  rintro e wn ⟨rfl, hb⟩
  refine ⟨_, rfl, hb, ?_⟩
  replace E := hid (E.out.trans hb)
  replace Ba := hid (Ba.out.up hb)
  replace Bb := hid (Bb.out.up hb)
  replace Na := hid (Na.out.up hb)
  replace Nb := hid (Nb.out.up hb)
  clear hb
  simp only [Act.put, List.setIfInBounds_toArray, List.set_cons_zero, List.set_cons_succ]
  refine WE.pure (d := some 17) rfl rfl (by rfl) (v := (.bool false)) (fun w' hk => ?_) ?_
  · go_simp
  simp only [Act.put, List.setIfInBounds_toArray, List.set_cons_zero, List.set_cons_succ]
  refine WE.pure (d := some 18) rfl rfl (by rfl) (v := (.bool false)) (fun w' hk => ?_) ?_
  · go_simp
  simp only [Act.put, List.setIfInBounds_toArray, List.set_cons_zero, List.set_cons_succ]
  refine WE.pure (d := some 19) rfl rfl (by rfl) (v := (.bool false)) (fun w' hk => ?_) ?_
  · go_simp
  simp only [Act.put, List.setIfInBounds_toArray, List.set_cons_zero, List.set_cons_succ]
  refine WE.pure (d := some 20) rfl rfl (by rfl) (v := (.agg #[.bool ga, .slice Aa na ca])) (fun w' hk => ?_) ?_
  · have c0 := hk.cell (Ba.out.cell (o := 0) (v := .bool ga) rfl); have c1 := hk.cell (Ba.out.cell (o := 1) (v := .slice Aa na ca) rfl); go_simp
  simp only [Act.put, List.setIfInBounds_toArray, List.set_cons_zero, List.set_cons_succ]
  refine WE.call (d := some 21) rfl rfl (by rfl) (f := 19) (args := #[(.agg #[.bool ga, .slice Aa na ca])]) (by go_simp) ?_
  refine (wIs_any Na.out ia.out).mono ?_
  rintro e wn ⟨rfl, hb⟩
  refine ⟨_, rfl, hb, ?_⟩
  replace E := hid (E.out.trans hb)
  replace Ba := hid (Ba.out.up hb)
  replace Bb := hid (Bb.out.up hb)
  replace Na := hid (Na.out.up hb)
  replace Nb := hid (Nb.out.up hb)
  clear hb
  simp only [Act.put, List.setIfInBounds_toArray, List.set_cons_zero, List.set_cons_succ]
  refine WE.pure (d := some 22) rfl rfl (by rfl) (v := (.bool true)) (fun w' hk => ?_) ?_
  · go_simp
  simp only [Act.put, List.setIfInBounds_toArray, List.set_cons_zero, List.set_cons_succ]
  refine WE.pure (d := some 23) rfl rfl (by rfl) (v := (.bool true)) (fun w' hk => ?_) ?_
  · go_simp
  simp only [Act.put, List.setIfInBounds_toArray, List.set_cons_zero, List.set_cons_succ]
  refine WE.pure (d := some 24) rfl rfl (by rfl) (v := (.bool true)) (fun w' hk => ?_) ?_
  · go_simp
  simp only [Act.put, List.setIfInBounds_toArray, List.set_cons_zero, List.set_cons_succ]
  refine WE.skip (d := some 25) rfl rfl (by rfl) ?_
  simp only [Act.put, List.setIfInBounds_toArray, List.set_cons_zero, List.set_cons_succ]
  refine WE.pass (d := some 26) rfl rfl (by rfl) ?_
  simp only [Act.put, List.setIfInBounds_toArray, List.set_cons_zero, List.set_cons_succ]
  refine WE.skip (d := some 27) rfl rfl (by rfl) ?_
  simp only [Act.put, List.setIfInBounds_toArray, List.set_cons_zero, List.set_cons_succ]
  refine WE.pure (d := some 28) rfl rfl (by rfl) (v := (.bool true)) (fun w' hk => ?_) ?_
  · go_simp
  simp only [Act.put, List.setIfInBounds_toArray, List.set_cons_zero, List.set_cons_succ]
  refine WE.done ?_
  go_wp2
  go_ret
  exact ⟨rfl, E.out⟩

set_option maxHeartbeats 1000000 in
theorem wholeDivides_skip3 (W : World) (ga : Bool) (Aa : Option Addr) (na ca : Nat) (la : List Nat) (ha : Num W W.heap.size (.slice Aa na ca) la) (gb : Bool) (Ab : Option Addr) (nb cb : Nat) (lb : List Nat) (hb : Num W W.heap.size (.slice Ab nb cb) lb) (fa : Hid (decide (la.length ≤ 8) = true)) (fb : Hid (decide (lb.length ≤ 8) = true)) (ia : Hid (M.isZ ga la = true)) (ib : Hid (M.isZ gb lb = false)) :
    Calls Try.prog 5 #[.agg #[.bool ga, .slice Aa na ca], .agg #[.bool gb, .slice Ab nb cb]] W (fun e w' => e = .returned (.bool true) ∧ Ext W w') := by
  have Na := hid ha
  have Nb := hid hb
  clear ha hb
  go_enter Try.func5, Try.ntmps5
  go_upto_region 1 with (fail)
  have E := hid (((Ext.refl W).alloc' (.cells #[.bool ga, .slice Aa na ca] 24)).alloc' (.cells #[.bool gb, .slice Ab nb cb] 24))
  have Ba : Hid (Box ((W.alloc (.cells #[.bool ga, .slice Aa na ca] 24)).alloc (.cells #[.bool gb, .slice Ab nb cb] 24)) (W.heap.size) #[.bool ga, .slice Aa na ca] 24) := hid ((Box.at_ (w := W) #[.bool ga, .slice Aa na ca] 24 (by simp)).alloc (.cells #[.bool gb, .slice Ab nb cb] 24))
  have Bb : Hid (Box ((W.alloc (.cells #[.bool ga, .slice Aa na ca] 24)).alloc (.cells #[.bool gb, .slice Ab nb cb] 24)) (W.heap.size + 1) #[.bool gb, .slice Ab nb cb] 24) := hid (Box.at_ (w := (W.alloc (.cells #[.bool ga, .slice Aa na ca] 24))) #[.bool gb, .slice Ab nb cb] 24 (by simp))
  replace Na := hid (Na.out.up E.out)
  replace Nb := hid (Nb.out.up E.out)
  go_upto_region 1 with (fail)
  refine wp_region_T [(0, 1), (1, 0)] (by kernel_rfl) fun wd hb => ?_
  replace E := hid (E.out.trans hb)
  replace Ba := hid (Ba.out.up hb)
  replace Bb := hid (Bb.out.up hb)
  replace Na := hid (Na.out.up hb)
  replace Nb := hid (Nb.out.up hb)
  clear hb
  refine WE.call (d := some 9) rfl rfl (by rfl) (f := 11) (args := #[]) (by go_simp) ?_
  refine (known2 _).mono ?_
  rintro e wn ⟨rfl, hb⟩
  refine ⟨_, rfl, hb, ?_⟩
  replace E := hid (E.out.trans hb)
  replace Ba := hid (Ba.out.up hb)
  replace Bb := hid (Bb.out.up hb)
  replace Na := hid (Na.out.up hb)
  replace Nb := hid (Nb.out.up hb)
  clear hb
  simp only [Act.put, List.setIfInBounds_toArray, List.set_cons_zero, List.set_cons_succ]
  refine WE.pure (d := some 10) rfl rfl (by rfl) (v := (.bool false)) (fun w' hk => ?_) ?_
  · go_simp
  simp only [Act.put, List.setIfInBounds_toArray, List.set_cons_zero, List.set_cons_succ]
  refine WE.done ?_
  go_upto_region 3 with (fail)
  refine wp_region_T [(0, 0), (1, 1), (2, 0), (3, 0), (4, 0), (5, 1), (6, 0), (7, 0), (8, 0), (9, 0), (10, 1), (11, 0), (12, 0), (13, 0), (14, 0), (15, 1), (16, 0), (17, 0)] (by kernel_rfl) fun wd hb => ?_
  replace E := hid (E.out.trans hb)
  replace Ba := hid (Ba.out.up hb)
  replace Bb := hid (Bb.out.up hb)
  replace Na := hid (Na.out.up hb)
  replace Nb := hid (Nb.out.up hb)
  clear hb
  refine WE.pure (d := some 11) rfl rfl (by rfl) (v := (.agg #[.bool ga, .slice Aa na ca])) (fun w' hk => ?_) ?_
  · have c0 := hk.cell (Ba.out.cell (o := 0) (v := .bool ga) rfl); have c1 := hk.cell (Ba.out.cell (o := 1) (v := .slice Aa na ca) rfl); go_simp
  simp only [Act.put, List.setIfInBounds_toArray, List.set_cons_zero, List.set_cons_succ]
  refine WE.call (d := some 12) rfl rfl (by rfl) (f := 12) (args := #[(.agg #[.bool ga, .slice Aa na ca])]) (by go_simp) ?_
  refine (few_z Na.out fa.out).mono ?_
  rintro e wn ⟨rfl, hb⟩
  refine ⟨_, rfl, hb, ?_⟩
  replace E := hid (E.out.trans hb)
  replace Ba := hid (Ba.out.up hb)
  replace Bb := hid (Bb.out.up hb)
  replace Na := hid (Na.out.up hb)
  replace Nb := hid (Nb.out.up hb)
  clear hb
  simp only [Act.put, List.setIfInBounds_toArray, List.set_cons_zero, List.set_cons_succ]
  refine WE.pure (d := some 13) rfl rfl (by rfl) (v := (.bool false)) (fun w' hk => ?_) ?_
  · go_simp
  simp only [Act.put, List.setIfInBounds_toArray, List.set_cons_zero, List.set_cons_succ]
  refine WE.pure (d := some 14) rfl rfl (by rfl) (v := (.bool false)) (fun w' hk => ?_) ?_
  · go_simp
  simp only [Act.put, List.setIfInBounds_toArray, List.set_cons_zero, List.set_cons_succ]
  refine WE.pure (d := some 15) rfl rfl (by rfl) (v := (.agg #[.bool gb, .slice Ab nb cb])) (fun w' hk => ?_) ?_
  · have c0 := hk.cell (Bb.out.cell (o := 0) (v := .bool gb) rfl); have c1 := hk.cell (Bb.out.cell (o := 1) (v := .slice Ab nb cb) rfl); go_simp
  simp only [Act.put, List.setIfInBounds_toArray, List.set_cons_zero, List.set_cons_succ]
  refine WE.call (d := some 16) rfl rfl (by rfl) (f := 12) (args := #[(.agg #[.bool gb, .slice Ab nb cb])]) (by go_simp) ?_
  refine (few_z Nb.out fb.out).mono ?_
  rintro e wn ⟨rfl, hb⟩
  refine ⟨_, rfl, hb, ?_⟩
  replace E := hid (E.out.trans hb)
  replace Ba := hid (Ba.out.up hb)
  replace Bb := hid (Bb.out.up hb)
  replace Na := hid (Na.out.up hb)
  replace Nb := hid (Nb.out.up hb)
  clear hb
  simp only [Act.put, List.setIfInBounds_toArray, List.set_cons_zero, List.set_cons_succ]
  refine WE.pure (d := some 17) rfl rfl (by rfl) (v := (.bool false)) (fun w' hk => ?_) ?_
  · go_simp
  simp only [Act.put, List.setIfInBounds_toArray, List.set_cons_zero, List.set_cons_succ]
  refine WE.pure (d := some 18) rfl rfl (by rfl) (v := (.bool false)) (fun w' hk => ?_) ?_
  · go_simp
  simp only [Act.put, List.setIfInBounds_toArray, List.set_cons_zero, List.set_cons_succ]
  refine WE.pure (d := some 19) rfl rfl (by rfl) (v := (.bool false)) (fun w' hk => ?_) ?_
  · go_simp
  simp only [Act.put, List.setIfInBounds_toArray, List.set_cons_zero, List.set_cons_succ]
  refine WE.pure (d := some 20) rfl rfl (by rfl) (v := (.agg #[.bool ga, .slice Aa na ca])) (fun w' hk => ?_) ?_
  · have c0 := hk.cell (Ba.out.cell (o := 0) (v := .bool ga) rfl); have c1 := hk.cell (Ba.out.cell (o := 1) (v := .slice Aa na ca) rfl); go_simp
  simp only [Act.put, List.setIfInBounds_toArray, List.set_cons_zero, List.set_cons_succ]
  refine WE.call (d := some 21) rfl rfl (by rfl) (f := 19) (args := #[(.agg #[.bool ga, .slice Aa na ca])]) (by go_simp) ?_
  refine (wIs_any Na.out ia.out).mono ?_
  rintro e wn ⟨rfl, hb⟩
  refine ⟨_, rfl, hb, ?_⟩
  replace E := hid (E.out.trans hb)
  replace Ba := hid (Ba.out.up hb)
  replace Bb := hid (Bb.out.up hb)
  replace Na := hid (Na.out.up hb)
  replace Nb := hid (Nb.out.up hb)
  clear hb
  simp only [Act.put, List.setIfInBounds_toArray, List.set_cons_zero, List.set_cons_succ]
  refine WE.pure (d := some 22) rfl rfl (by rfl) (v := (.bool false)) (fun w' hk => ?_) ?_
  · go_simp
  simp only [Act.put, List.setIfInBounds_toArray, List.set_cons_zero, List.set_cons_succ]
  refine WE.pure (d := some 23) rfl rfl (by rfl) (v := (.bool false)) (fun w' hk => ?_) ?_
  · go_simp
  simp only [Act.put, List.setIfInBounds_toArray, List.set_cons_zero, List.set_cons_succ]
  refine WE.pure (d := some 24) rfl rfl (by rfl) (v := (.bool false)) (fun w' hk => ?_) ?_
  · go_simp
  simp only [Act.put, List.setIfInBounds_toArray, List.set_cons_zero, List.set_cons_succ]
  refine WE.pure (d := some 25) rfl rfl (by rfl) (v := (.agg #[.bool gb, .slice Ab nb cb])) (fun w' hk => ?_) ?_
  · have c0 := hk.cell (Bb.out.cell (o := 0) (v := .bool gb) rfl); have c1 := hk.cell (Bb.out.cell (o := 1) (v := .slice Ab nb cb) rfl); go_simp
  simp only [Act.put, List.setIfInBounds_toArray, List.set_cons_zero, List.set_cons_succ]
  refine WE.call (d := some 26) rfl rfl (by rfl) (f := 19) (args := #[(.agg #[.bool gb, .slice Ab nb cb])]) (by go_simp) ?_
  refine (wIs_any Nb.out ib.out).mono ?_
  rintro e wn ⟨rfl, hb⟩
  refine ⟨_, rfl, hb, ?_⟩
  replace E := hid (E.out.trans hb)
  replace Ba := hid (Ba.out.up hb)
  replace Bb := hid (Bb.out.up hb)
  replace Na := hid (Na.out.up hb)
  replace Nb := hid (Nb.out.up hb)
  clear hb
  simp only [Act.put, List.setIfInBounds_toArray, List.set_cons_zero, List.set_cons_succ]
  refine WE.pure (d := some 27) rfl rfl (by rfl) (v := (.bool true)) (fun w' hk => ?_) ?_
  · go_simp
  simp only [Act.put, List.setIfInBounds_toArray, List.set_cons_zero, List.set_cons_succ]
  refine WE.pure (d := some 28) rfl rfl (by rfl) (v := (.bool true)) (fun w' hk => ?_) ?_
  · go_simp
  simp only [Act.put, List.setIfInBounds_toArray, List.set_cons_zero, List.set_cons_succ]
  refine WE.done ?_
  go_wp2
  go_ret
  exact ⟨rfl, E.out⟩

set_option maxHeartbeats 8000000 in
theorem wholeDivides_zero (W : World) (ga : Bool) (Aa : Option Addr) (na ca : Nat) (la : List Nat) (ha : Num W W.heap.size (.slice Aa na ca) la) (gb : Bool) (Ab : Option Addr) (nb cb : Nat) (lb : List Nat) (hb : Num W W.heap.size (.slice Ab nb cb) lb) (fa : Hid (decide (la.length ≤ 8) = true)) (fb : Hid (decide (lb.length ≤ 8) = true)) (ia : Hid (M.isZ ga la = true)) (ib : Hid (M.isZ gb lb = true)) (x : Int) (HX : Hid (x = M.zv ga la)) (y : Int) (HY : Hid (y = M.zv gb lb)) (hcond : Hid (y = 0)) :
    Calls Try.prog 5 #[.agg #[.bool ga, .slice Aa na ca], .agg #[.bool gb, .slice Ab nb cb]] W (fun e w' => e = .returned (.bool true) ∧ Ext W w') := by
  have Na := hid ha
  have Nb := hid hb
  have Ra := hid (worth_of ha (of_decide_eq_true fa.out) HX.out)
  have Rb := hid (worth_of hb (of_decide_eq_true fb.out) HY.out)
  clear ha hb
  go_enter Try.func5, Try.ntmps5
  go_upto_region 1 with (fail)
  have E := hid (((Ext.refl W).alloc' (.cells #[.bool ga, .slice Aa na ca] 24)).alloc' (.cells #[.bool gb, .slice Ab nb cb] 24))
  have Ba : Hid (Box ((W.alloc (.cells #[.bool ga, .slice Aa na ca] 24)).alloc (.cells #[.bool gb, .slice Ab nb cb] 24)) (W.heap.size) #[.bool ga, .slice Aa na ca] 24) := hid ((Box.at_ (w := W) #[.bool ga, .slice Aa na ca] 24 (by simp)).alloc (.cells #[.bool gb, .slice Ab nb cb] 24))
  have Bb : Hid (Box ((W.alloc (.cells #[.bool ga, .slice Aa na ca] 24)).alloc (.cells #[.bool gb, .slice Ab nb cb] 24)) (W.heap.size + 1) #[.bool gb, .slice Ab nb cb] 24) := hid (Box.at_ (w := (W.alloc (.cells #[.bool ga, .slice Aa na ca] 24))) #[.bool gb, .slice Ab nb cb] 24 (by simp))
  replace Na := hid (Na.out.up E.out)
  replace Nb := hid (Nb.out.up E.out)
  replace Ra := hid (Ra.out.up E.out)
  replace Rb := hid (Rb.out.up E.out)
  go_upto_region 1 with (fail)
  refine wp_region_T [(0, 1), (1, 0)] (by kernel_rfl) fun wd hb => ?_
  replace E := hid (E.out.trans hb)
  replace Ba := hid (Ba.out.up hb)
  replace Bb := hid (Bb.out.up hb)
  replace Na := hid (Na.out.up hb)
  replace Nb := hid (Nb.out.up hb)
  replace Ra := hid (Ra.out.up hb)
  replace Rb := hid (Rb.out.up hb)
  clear hb
  refine WE.call (d := some 9) rfl rfl (by rfl) (f := 11) (args := #[]) (by go_simp) ?_
  refine (known2 _).mono ?_
  rintro e wn ⟨rfl, hb⟩
  refine ⟨_, rfl, hb, ?_⟩
  replace E := hid (E.out.trans hb)
  replace Ba := hid (Ba.out.up hb)
  replace Bb := hid (Bb.out.up hb)
  replace Na := hid (Na.out.up hb)
  replace Nb := hid (Nb.out.up hb)
  replace Ra := hid (Ra.out.up hb)
  replace Rb := hid (Rb.out.up hb)
  clear hb
  simp only [Act.put, List.setIfInBounds_toArray, List.set_cons_zero, List.set_cons_succ]
  refine WE.pure (d := some 10) rfl rfl (by rfl) (v := (.bool false)) (fun w' hk => ?_) ?_
  · go_simp
  simp only [Act.put, List.setIfInBounds_toArray, List.set_cons_zero, List.set_cons_succ]
  refine WE.done ?_
  go_upto_region 3 with (fail)
  refine wp_region_T [(0, 0), (1, 1), (2, 0), (3, 0), (4, 0), (5, 1), (6, 0), (7, 0), (8, 0), (9, 0), (10, 1), (11, 0), (12, 0), (13, 0), (14, 0), (15, 1), (16, 0), (17, 0)] (by kernel_rfl) fun wd hb => ?_
  replace E := hid (E.out.trans hb)
  replace Ba := hid (Ba.out.up hb)
  replace Bb := hid (Bb.out.up hb)
  replace Na := hid (Na.out.up hb)
  replace Nb := hid (Nb.out.up hb)
  replace Ra := hid (Ra.out.up hb)
  replace Rb := hid (Rb.out.up hb)
  clear hb
  refine WE.pure (d := some 11) rfl rfl (by rfl) (v := (.agg #[.bool ga, .slice Aa na ca])) (fun w' hk => ?_) ?_
  · have c0 := hk.cell (Ba.out.cell (o := 0) (v := .bool ga) rfl); have c1 := hk.cell (Ba.out.cell (o := 1) (v := .slice Aa na ca) rfl); go_simp
  simp only [Act.put, List.setIfInBounds_toArray, List.set_cons_zero, List.set_cons_succ]
  refine WE.call (d := some 12) rfl rfl (by rfl) (f := 12) (args := #[(.agg #[.bool ga, .slice Aa na ca])]) (by go_simp) ?_
  refine (few_z Na.out fa.out).mono ?_
  rintro e wn ⟨rfl, hb⟩
  refine ⟨_, rfl, hb, ?_⟩
  replace E := hid (E.out.trans hb)
  replace Ba := hid (Ba.out.up hb)
  replace Bb := hid (Bb.out.up hb)
  replace Na := hid (Na.out.up hb)
  replace Nb := hid (Nb.out.up hb)
  replace Ra := hid (Ra.out.up hb)
  replace Rb := hid (Rb.out.up hb)
  clear hb
  simp only [Act.put, List.setIfInBounds_toArray, List.set_cons_zero, List.set_cons_succ]
  refine WE.pure (d := some 13) rfl rfl (by rfl) (v := (.bool false)) (fun w' hk => ?_) ?_
  · go_simp
  simp only [Act.put, List.setIfInBounds_toArray, List.set_cons_zero, List.set_cons_succ]
  refine WE.pure (d := some 14) rfl rfl (by rfl) (v := (.bool false)) (fun w' hk => ?_) ?_
  · go_simp
  simp only [Act.put, List.setIfInBounds_toArray, List.set_cons_zero, List.set_cons_succ]
  refine WE.pure (d := some 15) rfl rfl (by rfl) (v := (.agg #[.bool gb, .slice Ab nb cb])) (fun w' hk => ?_) ?_
  · have c0 := hk.cell (Bb.out.cell (o := 0) (v := .bool gb) rfl); have c1 := hk.cell (Bb.out.cell (o := 1) (v := .slice Ab nb cb) rfl); go_simp
  simp only [Act.put, List.setIfInBounds_toArray, List.set_cons_zero, List.set_cons_succ]
  refine WE.call (d := some 16) rfl rfl (by rfl) (f := 12) (args := #[(.agg #[.bool gb, .slice Ab nb cb])]) (by go_simp) ?_
  refine (few_z Nb.out fb.out).mono ?_
  rintro e wn ⟨rfl, hb⟩
  refine ⟨_, rfl, hb, ?_⟩
  replace E := hid (E.out.trans hb)
  replace Ba := hid (Ba.out.up hb)
  replace Bb := hid (Bb.out.up hb)
  replace Na := hid (Na.out.up hb)
  replace Nb := hid (Nb.out.up hb)
  replace Ra := hid (Ra.out.up hb)
  replace Rb := hid (Rb.out.up hb)
  clear hb
  simp only [Act.put, List.setIfInBounds_toArray, List.set_cons_zero, List.set_cons_succ]
  refine WE.pure (d := some 17) rfl rfl (by rfl) (v := (.bool false)) (fun w' hk => ?_) ?_
  · go_simp
  simp only [Act.put, List.setIfInBounds_toArray, List.set_cons_zero, List.set_cons_succ]
  refine WE.pure (d := some 18) rfl rfl (by rfl) (v := (.bool false)) (fun w' hk => ?_) ?_
  · go_simp
  simp only [Act.put, List.setIfInBounds_toArray, List.set_cons_zero, List.set_cons_succ]
  refine WE.pure (d := some 19) rfl rfl (by rfl) (v := (.bool false)) (fun w' hk => ?_) ?_
  · go_simp
  simp only [Act.put, List.setIfInBounds_toArray, List.set_cons_zero, List.set_cons_succ]
  refine WE.pure (d := some 20) rfl rfl (by rfl) (v := (.agg #[.bool ga, .slice Aa na ca])) (fun w' hk => ?_) ?_
  · have c0 := hk.cell (Ba.out.cell (o := 0) (v := .bool ga) rfl); have c1 := hk.cell (Ba.out.cell (o := 1) (v := .slice Aa na ca) rfl); go_simp
  simp only [Act.put, List.setIfInBounds_toArray, List.set_cons_zero, List.set_cons_succ]
  refine WE.call (d := some 21) rfl rfl (by rfl) (f := 19) (args := #[(.agg #[.bool ga, .slice Aa na ca])]) (by go_simp) ?_
  refine (wIs_any Na.out ia.out).mono ?_
  rintro e wn ⟨rfl, hb⟩
  refine ⟨_, rfl, hb, ?_⟩
  replace E := hid (E.out.trans hb)
  replace Ba := hid (Ba.out.up hb)
  replace Bb := hid (Bb.out.up hb)
  replace Na := hid (Na.out.up hb)
  replace Nb := hid (Nb.out.up hb)
  replace Ra := hid (Ra.out.up hb)
  replace Rb := hid (Rb.out.up hb)
  clear hb
  simp only [Act.put, List.setIfInBounds_toArray, List.set_cons_zero, List.set_cons_succ]
  refine WE.pure (d := some 22) rfl rfl (by rfl) (v := (.bool false)) (fun w' hk => ?_) ?_
  · go_simp
  simp only [Act.put, List.setIfInBounds_toArray, List.set_cons_zero, List.set_cons_succ]
  refine WE.pure (d := some 23) rfl rfl (by rfl) (v := (.bool false)) (fun w' hk => ?_) ?_
  · go_simp
  simp only [Act.put, List.setIfInBounds_toArray, List.set_cons_zero, List.set_cons_succ]
  refine WE.pure (d := some 24) rfl rfl (by rfl) (v := (.bool false)) (fun w' hk => ?_) ?_
  · go_simp
  simp only [Act.put, List.setIfInBounds_toArray, List.set_cons_zero, List.set_cons_succ]
  refine WE.pure (d := some 25) rfl rfl (by rfl) (v := (.agg #[.bool gb, .slice Ab nb cb])) (fun w' hk => ?_) ?_
  · have c0 := hk.cell (Bb.out.cell (o := 0) (v := .bool gb) rfl); have c1 := hk.cell (Bb.out.cell (o := 1) (v := .slice Ab nb cb) rfl); go_simp
  simp only [Act.put, List.setIfInBounds_toArray, List.set_cons_zero, List.set_cons_succ]
  refine WE.call (d := some 26) rfl rfl (by rfl) (f := 19) (args := #[(.agg #[.bool gb, .slice Ab nb cb])]) (by go_simp) ?_
  refine (wIs_any Nb.out ib.out).mono ?_
  rintro e wn ⟨rfl, hb⟩
  refine ⟨_, rfl, hb, ?_⟩
  replace E := hid (E.out.trans hb)
  replace Ba := hid (Ba.out.up hb)
  replace Bb := hid (Bb.out.up hb)
  replace Na := hid (Na.out.up hb)
  replace Nb := hid (Nb.out.up hb)
  replace Ra := hid (Ra.out.up hb)
  replace Rb := hid (Rb.out.up hb)
  clear hb
  simp only [Act.put, List.setIfInBounds_toArray, List.set_cons_zero, List.set_cons_succ]
  refine WE.pure (d := some 27) rfl rfl (by rfl) (v := (.bool false)) (fun w' hk => ?_) ?_
  · go_simp
  simp only [Act.put, List.setIfInBounds_toArray, List.set_cons_zero, List.set_cons_succ]
  refine WE.pure (d := some 28) rfl rfl (by rfl) (v := (.bool false)) (fun w' hk => ?_) ?_
  · go_simp
  simp only [Act.put, List.setIfInBounds_toArray, List.set_cons_zero, List.set_cons_succ]
  refine WE.done ?_
  go_upto_region 5 with (fail)
  refine wp_region_T [(0, 0), (1, 0), (2, 1), (3, 0), (4, 0), (5, 0), (6, 1), (7, 1), (8, 4), (9, 4)] (by kernel_rfl) fun wd hb => ?_
  replace E := hid (E.out.trans hb)
  replace Ba := hid (Ba.out.up hb)
  replace Bb := hid (Bb.out.up hb)
  replace Na := hid (Na.out.up hb)
  replace Nb := hid (Nb.out.up hb)
  replace Ra := hid (Ra.out.up hb)
  replace Rb := hid (Rb.out.up hb)
  clear hb
  refine WE.pure (d := some 30) rfl rfl (by rfl) (v := (.agg #[.bool ga, .slice Aa na ca])) (fun w' hk => ?_) ?_
  · have c0 := hk.cell (Ba.out.cell (o := 0) (v := .bool ga) rfl); have c1 := hk.cell (Ba.out.cell (o := 1) (v := .slice Aa na ca) rfl); go_simp
  simp only [Act.put, List.setIfInBounds_toArray, List.set_cons_zero, List.set_cons_succ]
  refine WE.pure (d := some 31) rfl rfl (by rfl) (v := (.agg #[.bool gb, .slice Ab nb cb])) (fun w' hk => ?_) ?_
  · have c0 := hk.cell (Bb.out.cell (o := 0) (v := .bool gb) rfl); have c1 := hk.cell (Bb.out.cell (o := 1) (v := .slice Ab nb cb) rfl); go_simp
  simp only [Act.put, List.setIfInBounds_toArray, List.set_cons_zero, List.set_cons_succ]
  refine WE.call (d := some 32) rfl rfl (by rfl) (f := 13) (args := #[(.agg #[.bool ga, .slice Aa na ca]), (.agg #[.bool gb, .slice Ab nb cb])]) (by go_simp) ?_
  refine (floor_w Ra.out Rb.out (by omega) (by omega)).mono ?_
  rintro e wn ⟨v1, v2, rfl, x1, x2, hb⟩
  obtain ⟨g1, A1, n1, c1, rfl⟩ := x1.shape
  obtain ⟨g2, A2, n2, c2, rfl⟩ := x2.shape
  refine ⟨_, rfl, hb, ?_⟩
  replace E := hid (E.out.trans hb)
  replace Ba := hid (Ba.out.up hb)
  replace Bb := hid (Bb.out.up hb)
  replace Na := hid (Na.out.up hb)
  replace Nb := hid (Nb.out.up hb)
  replace Ra := hid (Ra.out.up hb)
  replace Rb := hid (Rb.out.up hb)
  have Q1 := hid x1
  have Q2 := hid x2
  clear hb x1 x2
  simp only [Act.put, List.setIfInBounds_toArray, List.set_cons_zero, List.set_cons_succ]
  refine WE.pure (d := some 29) rfl rfl (by rfl) (v := (.tuple #[(.agg #[.bool g1, .slice A1 n1 c1]), (.agg #[.bool g2, .slice A2 n2 c2])])) (fun w' hk => ?_) ?_
  · go_simp
  simp only [Act.put, List.setIfInBounds_toArray, List.set_cons_zero, List.set_cons_succ]
  refine WE.pure (d := some 33) rfl rfl (by rfl) (v := (.agg #[.bool g1, .slice A1 n1 c1])) (fun w' hk => ?_) ?_
  · go_simp
  simp only [Act.put, List.setIfInBounds_toArray, List.set_cons_zero, List.set_cons_succ]
  refine WE.pure (d := some 34) rfl rfl (by rfl) (v := (.agg #[.bool g2, .slice A2 n2 c2])) (fun w' hk => ?_) ?_
  · go_simp
  simp only [Act.put, List.setIfInBounds_toArray, List.set_cons_zero, List.set_cons_succ]
  refine WE.new (d := some 5) (cs := #[.bool false, .slice none 0 0]) (t := 24) (v := fun g => (.pointer (some ⟨g, 0, none⟩))) rfl rfl (by rfl) (fun w => by go_simp) fun gV5 wv hx0 hbox hge => ?_
  have HNV5Ba := hid (show gV5 ≠ (W.heap.size) by have := Ba.out.lt; omega)
  have HNV5Bb := hid (show gV5 ≠ (W.heap.size + 1) by have := Bb.out.lt; omega)
  have HGV5 := hid (show W.heap.size ≤ gV5 by have := E.out.size; omega)
  replace E := hid (E.out.trans hx0)
  replace Ba := hid (Ba.out.up hx0)
  replace Bb := hid (Bb.out.up hx0)
  replace Na := hid (Na.out.up hx0)
  replace Nb := hid (Nb.out.up hx0)
  replace Ra := hid (Ra.out.up hx0)
  replace Rb := hid (Rb.out.up hx0)
  replace Q1 := hid (Q1.out.up hx0)
  replace Q2 := hid (Q2.out.up hx0)
  have V5 : Hid (Box wv gV5 #[.bool false, .slice none 0 0] 24) := hid hbox
  clear hx0 hbox hge
  simp only [Act.put, List.setIfInBounds_toArray, List.set_cons_zero, List.set_cons_succ]
  refine WE.new (d := some 6) (cs := #[.bool false, .slice none 0 0]) (t := 24) (v := fun g => (.pointer (some ⟨g, 0, none⟩))) rfl rfl (by rfl) (fun w => by go_simp) fun gV6 wv hx0 hbox hge => ?_
  have HNV6Ba := hid (show gV6 ≠ (W.heap.size) by have := Ba.out.lt; omega)
  have HNV6Bb := hid (show gV6 ≠ (W.heap.size + 1) by have := Bb.out.lt; omega)
  have HNV6V5 := hid (show gV6 ≠ gV5 by have := V5.out.lt; omega)
  have HGV6 := hid (show W.heap.size ≤ gV6 by have := E.out.size; omega)
  replace E := hid (E.out.trans hx0)
  replace Ba := hid (Ba.out.up hx0)
  replace Bb := hid (Bb.out.up hx0)
  replace V5 := hid (V5.out.up hx0)
  replace Na := hid (Na.out.up hx0)
  replace Nb := hid (Nb.out.up hx0)
  replace Ra := hid (Ra.out.up hx0)
  replace Rb := hid (Rb.out.up hx0)
  replace Q1 := hid (Q1.out.up hx0)
  replace Q2 := hid (Q2.out.up hx0)
  have V6 : Hid (Box wv gV6 #[.bool false, .slice none 0 0] 24) := hid hbox
  clear hx0 hbox hge
  simp only [Act.put, List.setIfInBounds_toArray, List.set_cons_zero, List.set_cons_succ]
  refine WE.store2 (g := gV5) (x := .bool g1) (y := .slice A1 n1 c1) (t := 24) rfl rfl (by rfl) (fun w hb => ?_) V5.out (by rfl) fun ws hk hs => ?_
  · have c0 := hb.cell (o := 0) (v := .bool false) rfl; have f0 := hb.free 0; have c1 := hb.cell (o := 1) (v := .slice none 0 0) rfl; have f1 := hb.free 1; go_simp
  intro hbx
  replace E := hid (E.out.keptG hk HGV5.out)
  replace Ba := hid (Ba.out.kept hk (by simpa using HNV5Ba.out.symm))
  replace Bb := hid (Bb.out.kept hk (by simpa using HNV5Bb.out.symm))
  replace V5 := hid hbx
  replace V6 := hid (V6.out.kept hk (by simpa using HNV6V5.out))
  replace Na := hid (Na.out.kz hs)
  replace Nb := hid (Nb.out.kz hs)
  replace Ra := hid (Ra.out.kz hs)
  replace Rb := hid (Rb.out.kz hs)
  replace Q1 := hid (Q1.out.kz hs)
  replace Q2 := hid (Q2.out.kz hs)
  clear hk hs hbx
  refine WE.store2 (g := gV6) (x := .bool g2) (y := .slice A2 n2 c2) (t := 24) rfl rfl (by rfl) (fun w hb => ?_) V6.out (by rfl) fun ws hk hs => ?_
  · have c0 := hb.cell (o := 0) (v := .bool false) rfl; have f0 := hb.free 0; have c1 := hb.cell (o := 1) (v := .slice none 0 0) rfl; have f1 := hb.free 1; go_simp
  intro hbx
  replace E := hid (E.out.keptG hk HGV6.out)
  replace Ba := hid (Ba.out.kept hk (by simpa using HNV6Ba.out.symm))
  replace Bb := hid (Bb.out.kept hk (by simpa using HNV6Bb.out.symm))
  replace V5 := hid (V5.out.kept hk (by simpa using HNV6V5.out.symm))
  replace V6 := hid hbx
  replace Na := hid (Na.out.kz hs)
  replace Nb := hid (Nb.out.kz hs)
  replace Ra := hid (Ra.out.kz hs)
  replace Rb := hid (Rb.out.kz hs)
  replace Q1 := hid (Q1.out.kz hs)
  replace Q2 := hid (Q2.out.kz hs)
  clear hk hs hbx
  refine WE.done ?_
  go_upto_region 6 with (fail)
  refine wp_region_T [(0, 0), (1, 0), (2, 1), (3, 0), (4, 0), (5, 0), (6, 1), (7, 1), (8, 4), (9, 4)] (by kernel_rfl) fun wd hb => ?_
  replace E := hid (E.out.trans hb)
  replace Ba := hid (Ba.out.up hb)
  replace Bb := hid (Bb.out.up hb)
  replace V5 := hid (V5.out.up hb)
  replace V6 := hid (V6.out.up hb)
  replace Na := hid (Na.out.up hb)
  replace Nb := hid (Nb.out.up hb)
  replace Ra := hid (Ra.out.up hb)
  replace Rb := hid (Rb.out.up hb)
  replace Q1 := hid (Q1.out.up hb)
  replace Q2 := hid (Q2.out.up hb)
  clear hb
  refine WE.pure (d := some 36) rfl rfl (by rfl) (v := (.agg #[.bool ga, .slice Aa na ca])) (fun w' hk => ?_) ?_
  · have c0 := hk.cell (Ba.out.cell (o := 0) (v := .bool ga) rfl); have c1 := hk.cell (Ba.out.cell (o := 1) (v := .slice Aa na ca) rfl); go_simp
  simp only [Act.put, List.setIfInBounds_toArray, List.set_cons_zero, List.set_cons_succ]
  refine WE.pure (d := some 37) rfl rfl (by rfl) (v := (.agg #[.bool gb, .slice Ab nb cb])) (fun w' hk => ?_) ?_
  · have c0 := hk.cell (Bb.out.cell (o := 0) (v := .bool gb) rfl); have c1 := hk.cell (Bb.out.cell (o := 1) (v := .slice Ab nb cb) rfl); go_simp
  simp only [Act.put, List.setIfInBounds_toArray, List.set_cons_zero, List.set_cons_succ]
  refine WE.call (d := some 38) rfl rfl (by rfl) (f := 15) (args := #[(.agg #[.bool ga, .slice Aa na ca]), (.agg #[.bool gb, .slice Ab nb cb])]) (by go_simp) ?_
  refine (euclid_w Ra.out Rb.out (by omega) (by omega)).mono ?_
  rintro e wn ⟨v1, v2, rfl, x1, x2, hb⟩
  obtain ⟨g3, A3, n3, c3, rfl⟩ := x1.shape
  obtain ⟨g4, A4, n4, c4, rfl⟩ := x2.shape
  refine ⟨_, rfl, hb, ?_⟩
  replace E := hid (E.out.trans hb)
  replace Ba := hid (Ba.out.up hb)
  replace Bb := hid (Bb.out.up hb)
  replace V5 := hid (V5.out.up hb)
  replace V6 := hid (V6.out.up hb)
  replace Na := hid (Na.out.up hb)
  replace Nb := hid (Nb.out.up hb)
  replace Ra := hid (Ra.out.up hb)
  replace Rb := hid (Rb.out.up hb)
  replace Q1 := hid (Q1.out.up hb)
  replace Q2 := hid (Q2.out.up hb)
  have Q3 := hid x1
  have Q4 := hid x2
  clear hb x1 x2
  simp only [Act.put, List.setIfInBounds_toArray, List.set_cons_zero, List.set_cons_succ]
  refine WE.pure (d := some 35) rfl rfl (by rfl) (v := (.tuple #[(.agg #[.bool g3, .slice A3 n3 c3]), (.agg #[.bool g4, .slice A4 n4 c4])])) (fun w' hk => ?_) ?_
  · go_simp
  simp only [Act.put, List.setIfInBounds_toArray, List.set_cons_zero, List.set_cons_succ]
  refine WE.pure (d := some 39) rfl rfl (by rfl) (v := (.agg #[.bool g3, .slice A3 n3 c3])) (fun w' hk => ?_) ?_
  · go_simp
  simp only [Act.put, List.setIfInBounds_toArray, List.set_cons_zero, List.set_cons_succ]
  refine WE.pure (d := some 40) rfl rfl (by rfl) (v := (.agg #[.bool g4, .slice A4 n4 c4])) (fun w' hk => ?_) ?_
  · go_simp
  simp only [Act.put, List.setIfInBounds_toArray, List.set_cons_zero, List.set_cons_succ]
  refine WE.new (d := some 7) (cs := #[.bool false, .slice none 0 0]) (t := 24) (v := fun g => (.pointer (some ⟨g, 0, none⟩))) rfl rfl (by rfl) (fun w => by go_simp) fun gV7 wv hx0 hbox hge => ?_
  have HNV7Ba := hid (show gV7 ≠ (W.heap.size) by have := Ba.out.lt; omega)
  have HNV7Bb := hid (show gV7 ≠ (W.heap.size + 1) by have := Bb.out.lt; omega)
  have HNV7V5 := hid (show gV7 ≠ gV5 by have := V5.out.lt; omega)
  have HNV7V6 := hid (show gV7 ≠ gV6 by have := V6.out.lt; omega)
  have HGV7 := hid (show W.heap.size ≤ gV7 by have := E.out.size; omega)
  replace E := hid (E.out.trans hx0)
  replace Ba := hid (Ba.out.up hx0)
  replace Bb := hid (Bb.out.up hx0)
  replace V5 := hid (V5.out.up hx0)
  replace V6 := hid (V6.out.up hx0)
  replace Na := hid (Na.out.up hx0)
  replace Nb := hid (Nb.out.up hx0)
  replace Ra := hid (Ra.out.up hx0)
  replace Rb := hid (Rb.out.up hx0)
  replace Q1 := hid (Q1.out.up hx0)
  replace Q2 := hid (Q2.out.up hx0)
  replace Q3 := hid (Q3.out.up hx0)
  replace Q4 := hid (Q4.out.up hx0)
  have V7 : Hid (Box wv gV7 #[.bool false, .slice none 0 0] 24) := hid hbox
  clear hx0 hbox hge
  simp only [Act.put, List.setIfInBounds_toArray, List.set_cons_zero, List.set_cons_succ]
  refine WE.new (d := some 8) (cs := #[.bool false, .slice none 0 0]) (t := 24) (v := fun g => (.pointer (some ⟨g, 0, none⟩))) rfl rfl (by rfl) (fun w => by go_simp) fun gV8 wv hx0 hbox hge => ?_
  have HNV8Ba := hid (show gV8 ≠ (W.heap.size) by have := Ba.out.lt; omega)
  have HNV8Bb := hid (show gV8 ≠ (W.heap.size + 1) by have := Bb.out.lt; omega)
  have HNV8V5 := hid (show gV8 ≠ gV5 by have := V5.out.lt; omega)
  have HNV8V6 := hid (show gV8 ≠ gV6 by have := V6.out.lt; omega)
  have HNV8V7 := hid (show gV8 ≠ gV7 by have := V7.out.lt; omega)
  have HGV8 := hid (show W.heap.size ≤ gV8 by have := E.out.size; omega)
  replace E := hid (E.out.trans hx0)
  replace Ba := hid (Ba.out.up hx0)
  replace Bb := hid (Bb.out.up hx0)
  replace V5 := hid (V5.out.up hx0)
  replace V6 := hid (V6.out.up hx0)
  replace V7 := hid (V7.out.up hx0)
  replace Na := hid (Na.out.up hx0)
  replace Nb := hid (Nb.out.up hx0)
  replace Ra := hid (Ra.out.up hx0)
  replace Rb := hid (Rb.out.up hx0)
  replace Q1 := hid (Q1.out.up hx0)
  replace Q2 := hid (Q2.out.up hx0)
  replace Q3 := hid (Q3.out.up hx0)
  replace Q4 := hid (Q4.out.up hx0)
  have V8 : Hid (Box wv gV8 #[.bool false, .slice none 0 0] 24) := hid hbox
  clear hx0 hbox hge
  simp only [Act.put, List.setIfInBounds_toArray, List.set_cons_zero, List.set_cons_succ]
  refine WE.store2 (g := gV7) (x := .bool g3) (y := .slice A3 n3 c3) (t := 24) rfl rfl (by rfl) (fun w hb => ?_) V7.out (by rfl) fun ws hk hs => ?_
  · have c0 := hb.cell (o := 0) (v := .bool false) rfl; have f0 := hb.free 0; have c1 := hb.cell (o := 1) (v := .slice none 0 0) rfl; have f1 := hb.free 1; go_simp
  intro hbx
  replace E := hid (E.out.keptG hk HGV7.out)
  replace Ba := hid (Ba.out.kept hk (by simpa using HNV7Ba.out.symm))
  replace Bb := hid (Bb.out.kept hk (by simpa using HNV7Bb.out.symm))
  replace V5 := hid (V5.out.kept hk (by simpa using HNV7V5.out.symm))
  replace V6 := hid (V6.out.kept hk (by simpa using HNV7V6.out.symm))
  replace V7 := hid hbx
  replace V8 := hid (V8.out.kept hk (by simpa using HNV8V7.out))
  replace Na := hid (Na.out.kz hs)
  replace Nb := hid (Nb.out.kz hs)
  replace Ra := hid (Ra.out.kz hs)
  replace Rb := hid (Rb.out.kz hs)
  replace Q1 := hid (Q1.out.kz hs)
  replace Q2 := hid (Q2.out.kz hs)
  replace Q3 := hid (Q3.out.kz hs)
  replace Q4 := hid (Q4.out.kz hs)
  clear hk hs hbx
  refine WE.store2 (g := gV8) (x := .bool g4) (y := .slice A4 n4 c4) (t := 24) rfl rfl (by rfl) (fun w hb => ?_) V8.out (by rfl) fun ws hk hs => ?_
  · have c0 := hb.cell (o := 0) (v := .bool false) rfl; have f0 := hb.free 0; have c1 := hb.cell (o := 1) (v := .slice none 0 0) rfl; have f1 := hb.free 1; go_simp
  intro hbx
  replace E := hid (E.out.keptG hk HGV8.out)
  replace Ba := hid (Ba.out.kept hk (by simpa using HNV8Ba.out.symm))
  replace Bb := hid (Bb.out.kept hk (by simpa using HNV8Bb.out.symm))
  replace V5 := hid (V5.out.kept hk (by simpa using HNV8V5.out.symm))
  replace V6 := hid (V6.out.kept hk (by simpa using HNV8V6.out.symm))
  replace V7 := hid (V7.out.kept hk (by simpa using HNV8V7.out.symm))
  replace V8 := hid hbx
  replace Na := hid (Na.out.kz hs)
  replace Nb := hid (Nb.out.kz hs)
  replace Ra := hid (Ra.out.kz hs)
  replace Rb := hid (Rb.out.kz hs)
  replace Q1 := hid (Q1.out.kz hs)
  replace Q2 := hid (Q2.out.kz hs)
  replace Q3 := hid (Q3.out.kz hs)
  replace Q4 := hid (Q4.out.kz hs)
  clear hk hs hbx
  refine WE.done ?_
  go_upto_region 7 with (fail)
  refine wp_region_E [(0, 0), (1, 0), (3, 0), (5, 0), (2, 1), (4, 1), (6, 1), (7, 0), (8, 0), (9, 0), (10, 0), (12, 0), (14, 0), (11, 1), (13, 1), (15, 1), (16, 0), (17, 0)] (fun _ => (0, #[])) rfl (by kernel_rfl) (by intro j hj; cases hj) (fun _ _ d _ _ => by cases d <;> exact Iff.rfl) fun wd hb => ?_
  replace E := hid (E.out.trans hb)
  replace Ba := hid (Ba.out.up hb)
  replace Bb := hid (Bb.out.up hb)
  replace V5 := hid (V5.out.up hb)
  replace V6 := hid (V6.out.up hb)
  replace V7 := hid (V7.out.up hb)
  replace V8 := hid (V8.out.up hb)
  replace Na := hid (Na.out.up hb)
  replace Nb := hid (Nb.out.up hb)
  replace Ra := hid (Ra.out.up hb)
  replace Rb := hid (Rb.out.up hb)
  replace Q1 := hid (Q1.out.up hb)
  replace Q2 := hid (Q2.out.up hb)
  replace Q3 := hid (Q3.out.up hb)
  replace Q4 := hid (Q4.out.up hb)
  clear hb
  refine WE.pure (d := some 41) rfl rfl (by rfl) (v := (.agg #[.bool g1, .slice A1 n1 c1])) (fun w' hk => ?_) ?_
  · have c0 := hk.cell (V5.out.cell (o := 0) (v := .bool g1) rfl); have c1 := hk.cell (V5.out.cell (o := 1) (v := .slice A1 n1 c1) rfl); go_simp
  simp only [Act.put, List.setIfInBounds_toArray, List.set_cons_zero, List.set_cons_succ]
  refine WE.pure (d := some 42) rfl rfl (by rfl) (v := (.agg #[.bool gb, .slice Ab nb cb])) (fun w' hk => ?_) ?_
  · have c0 := hk.cell (Bb.out.cell (o := 0) (v := .bool gb) rfl); have c1 := hk.cell (Bb.out.cell (o := 1) (v := .slice Ab nb cb) rfl); go_simp
  simp only [Act.put, List.setIfInBounds_toArray, List.set_cons_zero, List.set_cons_succ]
  refine WE.pure (d := some 44) rfl rfl (by rfl) (v := (.agg #[.bool g2, .slice A2 n2 c2])) (fun w' hk => ?_) ?_
  · have c0 := hk.cell (V6.out.cell (o := 0) (v := .bool g2) rfl); have c1 := hk.cell (V6.out.cell (o := 1) (v := .slice A2 n2 c2) rfl); go_simp
  simp only [Act.put, List.setIfInBounds_toArray, List.set_cons_zero, List.set_cons_succ]
  refine WE.pure (d := some 46) rfl rfl (by rfl) (v := (.agg #[.bool ga, .slice Aa na ca])) (fun w' hk => ?_) ?_
  · have c0 := hk.cell (Ba.out.cell (o := 0) (v := .bool ga) rfl); have c1 := hk.cell (Ba.out.cell (o := 1) (v := .slice Aa na ca) rfl); go_simp
  simp only [Act.put, List.setIfInBounds_toArray, List.set_cons_zero, List.set_cons_succ]
  refine WE.call (d := some 43) rfl rfl (by rfl) (f := 38) (args := #[(.agg #[.bool g1, .slice A1 n1 c1]), (.agg #[.bool gb, .slice Ab nb cb])]) (by go_simp) ?_
  refine (mul_w Q1.out.worth Rb.out (by omega) (by omega) (by omega)).mono ?_
  rintro e wn ⟨v1, rfl, x1, hb⟩
  obtain ⟨g5, A5, n5, c5, rfl⟩ := x1.shape
  refine ⟨_, rfl, hb, ?_⟩
  replace E := hid (E.out.trans hb)
  replace Ba := hid (Ba.out.up hb)
  replace Bb := hid (Bb.out.up hb)
  replace V5 := hid (V5.out.up hb)
  replace V6 := hid (V6.out.up hb)
  replace V7 := hid (V7.out.up hb)
  replace V8 := hid (V8.out.up hb)
  replace Na := hid (Na.out.up hb)
  replace Nb := hid (Nb.out.up hb)
  replace Ra := hid (Ra.out.up hb)
  replace Rb := hid (Rb.out.up hb)
  replace Q1 := hid (Q1.out.up hb)
  replace Q2 := hid (Q2.out.up hb)
  replace Q3 := hid (Q3.out.up hb)
  replace Q4 := hid (Q4.out.up hb)
  have Q5 := hid x1
  clear hb x1
  simp only [Act.put, List.setIfInBounds_toArray, List.set_cons_zero, List.set_cons_succ]
  refine WE.call (d := some 45) rfl rfl (by rfl) (f := 34) (args := #[(.agg #[.bool g5, .slice A5 n5 c5]), (.agg #[.bool g2, .slice A2 n2 c2])]) (by go_simp) ?_
  refine (add_w Q5.out.worth Q2.out.worth (by omega) (by omega)).mono ?_
  rintro e wn ⟨v1, rfl, x1, hb⟩
  obtain ⟨g6, A6, n6, c6, rfl⟩ := x1.shape
  refine ⟨_, rfl, hb, ?_⟩
  replace E := hid (E.out.trans hb)
  replace Ba := hid (Ba.out.up hb)
  replace Bb := hid (Bb.out.up hb)
  replace V5 := hid (V5.out.up hb)
  replace V6 := hid (V6.out.up hb)
  replace V7 := hid (V7.out.up hb)
  replace V8 := hid (V8.out.up hb)
  replace Na := hid (Na.out.up hb)
  replace Nb := hid (Nb.out.up hb)
  replace Ra := hid (Ra.out.up hb)
  replace Rb := hid (Rb.out.up hb)
  replace Q1 := hid (Q1.out.up hb)
  replace Q2 := hid (Q2.out.up hb)
  replace Q3 := hid (Q3.out.up hb)
  replace Q4 := hid (Q4.out.up hb)
  replace Q5 := hid (Q5.out.up hb)
  have Q6 := hid x1
  clear hb x1
  simp only [Act.put, List.setIfInBounds_toArray, List.set_cons_zero, List.set_cons_succ]
  clear Q5
  refine WE.call (d := some 47) rfl rfl (by rfl) (f := 28) (args := #[(.agg #[.bool g6, .slice A6 n6 c6]), (.agg #[.bool ga, .slice Aa na ca])]) (by go_simp) ?_
  refine (same_w Q6.out.worth Ra.out (b := true) (decide_eq_true (by have := Int.mul_fdiv_add_fmod x y; rw [Int.mul_comm] at this; exact this))).mono ?_
  rintro e wn ⟨rfl, hb⟩
  refine ⟨_, rfl, hb, ?_⟩
  replace E := hid (E.out.trans hb)
  replace Ba := hid (Ba.out.up hb)
  replace Bb := hid (Bb.out.up hb)
  replace V5 := hid (V5.out.up hb)
  replace V6 := hid (V6.out.up hb)
  replace V7 := hid (V7.out.up hb)
  replace V8 := hid (V8.out.up hb)
  replace Na := hid (Na.out.up hb)
  replace Nb := hid (Nb.out.up hb)
  replace Ra := hid (Ra.out.up hb)
  replace Rb := hid (Rb.out.up hb)
  replace Q1 := hid (Q1.out.up hb)
  replace Q2 := hid (Q2.out.up hb)
  replace Q3 := hid (Q3.out.up hb)
  replace Q4 := hid (Q4.out.up hb)
  replace Q6 := hid (Q6.out.up hb)
  clear hb
  simp only [Act.put, List.setIfInBounds_toArray, List.set_cons_zero, List.set_cons_succ]
  clear Q6
  refine WE.pure (d := some 48) rfl rfl (by rfl) (v := (.bool false)) (fun w' hk => ?_) ?_
  · go_simp
  simp only [Act.put, List.setIfInBounds_toArray, List.set_cons_zero, List.set_cons_succ]
  refine WE.pure (d := some 49) rfl rfl (by rfl) (v := (.bool false)) (fun w' hk => ?_) ?_
  · go_simp
  simp only [Act.put, List.setIfInBounds_toArray, List.set_cons_zero, List.set_cons_succ]
  refine WE.pure (d := some 50) rfl rfl (by rfl) (v := (.agg #[.bool g3, .slice A3 n3 c3])) (fun w' hk => ?_) ?_
  · have c0 := hk.cell (V7.out.cell (o := 0) (v := .bool g3) rfl); have c1 := hk.cell (V7.out.cell (o := 1) (v := .slice A3 n3 c3) rfl); go_simp
  simp only [Act.put, List.setIfInBounds_toArray, List.set_cons_zero, List.set_cons_succ]
  refine WE.pure (d := some 51) rfl rfl (by rfl) (v := (.agg #[.bool gb, .slice Ab nb cb])) (fun w' hk => ?_) ?_
  · have c0 := hk.cell (Bb.out.cell (o := 0) (v := .bool gb) rfl); have c1 := hk.cell (Bb.out.cell (o := 1) (v := .slice Ab nb cb) rfl); go_simp
  simp only [Act.put, List.setIfInBounds_toArray, List.set_cons_zero, List.set_cons_succ]
  refine WE.pure (d := some 53) rfl rfl (by rfl) (v := (.agg #[.bool g4, .slice A4 n4 c4])) (fun w' hk => ?_) ?_
  · have c0 := hk.cell (V8.out.cell (o := 0) (v := .bool g4) rfl); have c1 := hk.cell (V8.out.cell (o := 1) (v := .slice A4 n4 c4) rfl); go_simp
  simp only [Act.put, List.setIfInBounds_toArray, List.set_cons_zero, List.set_cons_succ]
  refine WE.pure (d := some 55) rfl rfl (by rfl) (v := (.agg #[.bool ga, .slice Aa na ca])) (fun w' hk => ?_) ?_
  · have c0 := hk.cell (Ba.out.cell (o := 0) (v := .bool ga) rfl); have c1 := hk.cell (Ba.out.cell (o := 1) (v := .slice Aa na ca) rfl); go_simp
  simp only [Act.put, List.setIfInBounds_toArray, List.set_cons_zero, List.set_cons_succ]
  refine WE.call (d := some 52) rfl rfl (by rfl) (f := 38) (args := #[(.agg #[.bool g3, .slice A3 n3 c3]), (.agg #[.bool gb, .slice Ab nb cb])]) (by go_simp) ?_
  refine (mul_w Q3.out.worth Rb.out (by omega) (by omega) (by omega)).mono ?_
  rintro e wn ⟨v1, rfl, x1, hb⟩
  obtain ⟨g7, A7, n7, c7, rfl⟩ := x1.shape
  refine ⟨_, rfl, hb, ?_⟩
  replace E := hid (E.out.trans hb)
  replace Ba := hid (Ba.out.up hb)
  replace Bb := hid (Bb.out.up hb)
  replace V5 := hid (V5.out.up hb)
  replace V6 := hid (V6.out.up hb)
  replace V7 := hid (V7.out.up hb)
  replace V8 := hid (V8.out.up hb)
  replace Na := hid (Na.out.up hb)
  replace Nb := hid (Nb.out.up hb)
  replace Ra := hid (Ra.out.up hb)
  replace Rb := hid (Rb.out.up hb)
  replace Q1 := hid (Q1.out.up hb)
  replace Q2 := hid (Q2.out.up hb)
  replace Q3 := hid (Q3.out.up hb)
  replace Q4 := hid (Q4.out.up hb)
  have Q7 := hid x1
  clear hb x1
  simp only [Act.put, List.setIfInBounds_toArray, List.set_cons_zero, List.set_cons_succ]
  refine WE.call (d := some 54) rfl rfl (by rfl) (f := 34) (args := #[(.agg #[.bool g7, .slice A7 n7 c7]), (.agg #[.bool g4, .slice A4 n4 c4])]) (by go_simp) ?_
  refine (add_w Q7.out.worth Q4.out.worth (by omega) (by omega)).mono ?_
  rintro e wn ⟨v1, rfl, x1, hb⟩
  obtain ⟨g8, A8, n8, c8, rfl⟩ := x1.shape
  refine ⟨_, rfl, hb, ?_⟩
  replace E := hid (E.out.trans hb)
  replace Ba := hid (Ba.out.up hb)
  replace Bb := hid (Bb.out.up hb)
  replace V5 := hid (V5.out.up hb)
  replace V6 := hid (V6.out.up hb)
  replace V7 := hid (V7.out.up hb)
  replace V8 := hid (V8.out.up hb)
  replace Na := hid (Na.out.up hb)
  replace Nb := hid (Nb.out.up hb)
  replace Ra := hid (Ra.out.up hb)
  replace Rb := hid (Rb.out.up hb)
  replace Q1 := hid (Q1.out.up hb)
  replace Q2 := hid (Q2.out.up hb)
  replace Q3 := hid (Q3.out.up hb)
  replace Q4 := hid (Q4.out.up hb)
  replace Q7 := hid (Q7.out.up hb)
  have Q8 := hid x1
  clear hb x1
  simp only [Act.put, List.setIfInBounds_toArray, List.set_cons_zero, List.set_cons_succ]
  clear Q7
  refine WE.call (d := some 56) rfl rfl (by rfl) (f := 28) (args := #[(.agg #[.bool g8, .slice A8 n8 c8]), (.agg #[.bool ga, .slice Aa na ca])]) (by go_simp) ?_
  refine (same_w Q8.out.worth Ra.out (b := true) (decide_eq_true (by have := Int.mul_ediv_add_emod x y; rw [Int.mul_comm] at this; exact this))).mono ?_
  rintro e wn ⟨rfl, hb⟩
  refine ⟨_, rfl, hb, ?_⟩
  replace E := hid (E.out.trans hb)
  replace Ba := hid (Ba.out.up hb)
  replace Bb := hid (Bb.out.up hb)
  replace V5 := hid (V5.out.up hb)
  replace V6 := hid (V6.out.up hb)
  replace V7 := hid (V7.out.up hb)
  replace V8 := hid (V8.out.up hb)
  replace Na := hid (Na.out.up hb)
  replace Nb := hid (Nb.out.up hb)
  replace Ra := hid (Ra.out.up hb)
  replace Rb := hid (Rb.out.up hb)
  replace Q1 := hid (Q1.out.up hb)
  replace Q2 := hid (Q2.out.up hb)
  replace Q3 := hid (Q3.out.up hb)
  replace Q4 := hid (Q4.out.up hb)
  replace Q8 := hid (Q8.out.up hb)
  clear hb
  simp only [Act.put, List.setIfInBounds_toArray, List.set_cons_zero, List.set_cons_succ]
  clear Q8
  refine WE.pure (d := some 57) rfl rfl (by rfl) (v := (.bool false)) (fun w' hk => ?_) ?_
  · go_simp
  simp only [Act.put, List.setIfInBounds_toArray, List.set_cons_zero, List.set_cons_succ]
  refine WE.pure (d := some 58) rfl rfl (by rfl) (v := (.bool false)) (fun w' hk => ?_) ?_
  · go_simp
  simp only [Act.put, List.setIfInBounds_toArray, List.set_cons_zero, List.set_cons_succ]
  refine WE.done ?_
  go_upto_region 9 with (fail)
  refine wp_region_T [(0, 0), (1, 1), (2, 0)] (by kernel_rfl) fun wd hb => ?_
  replace E := hid (E.out.trans hb)
  replace Ba := hid (Ba.out.up hb)
  replace Bb := hid (Bb.out.up hb)
  replace V5 := hid (V5.out.up hb)
  replace V6 := hid (V6.out.up hb)
  replace V7 := hid (V7.out.up hb)
  replace V8 := hid (V8.out.up hb)
  replace Na := hid (Na.out.up hb)
  replace Nb := hid (Nb.out.up hb)
  replace Ra := hid (Ra.out.up hb)
  replace Rb := hid (Rb.out.up hb)
  replace Q1 := hid (Q1.out.up hb)
  replace Q2 := hid (Q2.out.up hb)
  replace Q3 := hid (Q3.out.up hb)
  replace Q4 := hid (Q4.out.up hb)
  clear hb
  refine WE.pure (d := some 59) rfl rfl (by rfl) (v := (.agg #[.bool gb, .slice Ab nb cb])) (fun w' hk => ?_) ?_
  · have c0 := hk.cell (Bb.out.cell (o := 0) (v := .bool gb) rfl); have c1 := hk.cell (Bb.out.cell (o := 1) (v := .slice Ab nb cb) rfl); go_simp
  simp only [Act.put, List.setIfInBounds_toArray, List.set_cons_zero, List.set_cons_succ]
  refine WE.call (d := some 60) rfl rfl (by rfl) (f := 24) (args := #[(.agg #[.bool gb, .slice Ab nb cb])]) (by go_simp) ?_
  refine (sign_e Rb.out (s := 0) (by rw [hcond.out]; rfl)).mono ?_
  rintro e wn ⟨rfl, hb⟩
  refine ⟨_, rfl, hb, ?_⟩
  replace E := hid (E.out.trans hb)
  replace Ba := hid (Ba.out.up hb)
  replace Bb := hid (Bb.out.up hb)
  replace V5 := hid (V5.out.up hb)
  replace V6 := hid (V6.out.up hb)
  replace V7 := hid (V7.out.up hb)
  replace V8 := hid (V8.out.up hb)
  replace Na := hid (Na.out.up hb)
  replace Nb := hid (Nb.out.up hb)
  replace Ra := hid (Ra.out.up hb)
  replace Rb := hid (Rb.out.up hb)
  replace Q1 := hid (Q1.out.up hb)
  replace Q2 := hid (Q2.out.up hb)
  replace Q3 := hid (Q3.out.up hb)
  replace Q4 := hid (Q4.out.up hb)
  clear hb
  simp only [Act.put, List.setIfInBounds_toArray, List.set_cons_zero, List.set_cons_succ]
  refine WE.pure (d := some 61) rfl rfl (by rfl) (v := (.bool true)) (fun w' hk => ?_) ?_
  · go_simp
  simp only [Act.put, List.setIfInBounds_toArray, List.set_cons_zero, List.set_cons_succ]
  refine WE.done ?_
  go_upto_region 10 with (fail)
  refine wp_region_T [(0, 0), (1, 1), (2, 0), (3, 0), (4, 0), (5, 1), (6, 0), (7, 0), (8, 0)] (by kernel_rfl) fun wd hb => ?_
  replace E := hid (E.out.trans hb)
  replace Ba := hid (Ba.out.up hb)
  replace Bb := hid (Bb.out.up hb)
  replace V5 := hid (V5.out.up hb)
  replace V6 := hid (V6.out.up hb)
  replace V7 := hid (V7.out.up hb)
  replace V8 := hid (V8.out.up hb)
  replace Na := hid (Na.out.up hb)
  replace Nb := hid (Nb.out.up hb)
  replace Ra := hid (Ra.out.up hb)
  replace Rb := hid (Rb.out.up hb)
  replace Q1 := hid (Q1.out.up hb)
  replace Q2 := hid (Q2.out.up hb)
  replace Q3 := hid (Q3.out.up hb)
  replace Q4 := hid (Q4.out.up hb)
  clear hb
  refine WE.pure (d := some 62) rfl rfl (by rfl) (v := (.agg #[.bool g1, .slice A1 n1 c1])) (fun w' hk => ?_) ?_
  · have c0 := hk.cell (V5.out.cell (o := 0) (v := .bool g1) rfl); have c1 := hk.cell (V5.out.cell (o := 1) (v := .slice A1 n1 c1) rfl); go_simp
  simp only [Act.put, List.setIfInBounds_toArray, List.set_cons_zero, List.set_cons_succ]
  refine WE.call (d := some 63) rfl rfl (by rfl) (f := 24) (args := #[(.agg #[.bool g1, .slice A1 n1 c1])]) (by go_simp) ?_
  refine (sign_e Q1.out.worth (s := 0) (by rw [hcond.out]; simp)).mono ?_
  rintro e wn ⟨rfl, hb⟩
  refine ⟨_, rfl, hb, ?_⟩
  replace E := hid (E.out.trans hb)
  replace Ba := hid (Ba.out.up hb)
  replace Bb := hid (Bb.out.up hb)
  replace V5 := hid (V5.out.up hb)
  replace V6 := hid (V6.out.up hb)
  replace V7 := hid (V7.out.up hb)
  replace V8 := hid (V8.out.up hb)
  replace Na := hid (Na.out.up hb)
  replace Nb := hid (Nb.out.up hb)
  replace Ra := hid (Ra.out.up hb)
  replace Rb := hid (Rb.out.up hb)
  replace Q1 := hid (Q1.out.up hb)
  replace Q2 := hid (Q2.out.up hb)
  replace Q3 := hid (Q3.out.up hb)
  replace Q4 := hid (Q4.out.up hb)
  clear hb
  simp only [Act.put, List.setIfInBounds_toArray, List.set_cons_zero, List.set_cons_succ]
  refine WE.pure (d := some 64) rfl rfl (by rfl) (v := (.bool true)) (fun w' hk => ?_) ?_
  · go_simp
  simp only [Act.put, List.setIfInBounds_toArray, List.set_cons_zero, List.set_cons_succ]
  refine WE.pure (d := some 65) rfl rfl (by rfl) (v := (.bool true)) (fun w' hk => ?_) ?_
  · go_simp
  simp only [Act.put, List.setIfInBounds_toArray, List.set_cons_zero, List.set_cons_succ]
  refine WE.pure (d := some 66) rfl rfl (by rfl) (v := (.agg #[.bool g3, .slice A3 n3 c3])) (fun w' hk => ?_) ?_
  · have c0 := hk.cell (V7.out.cell (o := 0) (v := .bool g3) rfl); have c1 := hk.cell (V7.out.cell (o := 1) (v := .slice A3 n3 c3) rfl); go_simp
  simp only [Act.put, List.setIfInBounds_toArray, List.set_cons_zero, List.set_cons_succ]
  refine WE.call (d := some 67) rfl rfl (by rfl) (f := 24) (args := #[(.agg #[.bool g3, .slice A3 n3 c3])]) (by go_simp) ?_
  refine (sign_e Q3.out.worth (s := 0) (by rw [hcond.out]; simp)).mono ?_
  rintro e wn ⟨rfl, hb⟩
  refine ⟨_, rfl, hb, ?_⟩
  replace E := hid (E.out.trans hb)
  replace Ba := hid (Ba.out.up hb)
  replace Bb := hid (Bb.out.up hb)
  replace V5 := hid (V5.out.up hb)
  replace V6 := hid (V6.out.up hb)
  replace V7 := hid (V7.out.up hb)
  replace V8 := hid (V8.out.up hb)
  replace Na := hid (Na.out.up hb)
  replace Nb := hid (Nb.out.up hb)
  replace Ra := hid (Ra.out.up hb)
  replace Rb := hid (Rb.out.up hb)
  replace Q1 := hid (Q1.out.up hb)
  replace Q2 := hid (Q2.out.up hb)
  replace Q3 := hid (Q3.out.up hb)
  replace Q4 := hid (Q4.out.up hb)
  clear hb
  simp only [Act.put, List.setIfInBounds_toArray, List.set_cons_zero, List.set_cons_succ]
  refine WE.pure (d := some 68) rfl rfl (by rfl) (v := (.bool true)) (fun w' hk => ?_) ?_
  · go_simp
  simp only [Act.put, List.setIfInBounds_toArray, List.set_cons_zero, List.set_cons_succ]
  refine WE.pure (d := some 69) rfl rfl (by rfl) (v := (.bool true)) (fun w' hk => ?_) ?_
  · go_simp
  simp only [Act.put, List.setIfInBounds_toArray, List.set_cons_zero, List.set_cons_succ]
  refine WE.pure (d := some 4) rfl rfl (by rfl) (v := (.bool true)) (fun w' hk => ?_) ?_
  · go_simp
  simp only [Act.put, List.setIfInBounds_toArray, List.set_cons_zero, List.set_cons_succ]
  refine WE.done ?_
  go_wp2
  go_ret
  exact ⟨rfl, E.out⟩

set_option maxHeartbeats 8000000 in
theorem wholeDivides_even (W : World) (ga : Bool) (Aa : Option Addr) (na ca : Nat) (la : List Nat) (ha : Num W W.heap.size (.slice Aa na ca) la) (gb : Bool) (Ab : Option Addr) (nb cb : Nat) (lb : List Nat) (hb : Num W W.heap.size (.slice Ab nb cb) lb) (fa : Hid (decide (la.length ≤ 8) = true)) (fb : Hid (decide (lb.length ≤ 8) = true)) (ia : Hid (M.isZ ga la = true)) (ib : Hid (M.isZ gb lb = true)) (x : Int) (HX : Hid (x = M.zv ga la)) (y : Int) (HY : Hid (y = M.zv gb lb)) (hcond : Hid (y ≠ 0 ∧ x.fmod y = 0)) :
    Calls Try.prog 5 #[.agg #[.bool ga, .slice Aa na ca], .agg #[.bool gb, .slice Ab nb cb]] W (fun e w' => e = .returned (.bool true) ∧ Ext W w') := by
  obtain ⟨sb, hsb⟩ : ∃ s : Int, y.sign = s := ⟨_, rfl⟩
  obtain ⟨ss, hss⟩ : ∃ s : Int, (x % y).sign = s := ⟨_, rfl⟩
  have HSB := hid hsb
  have HSS := hid hss
  have hyn : y ≠ 0 := by have := hcond.out; first | exact this.1 | exact this
  have hsb0 : (sb == 0) = false := by rw [← hsb]; simpa using hyn
  have hss0 : decide (ss < 0) = false := by have h1 := Int.emod_nonneg x hyn; rw [← hss]; have := Int.sign_nonneg_iff.2 h1; simpa using this
  have HC1 := hid (show M.zcmp (x % y) (y.natAbs : Int) = -1 from M.zcmp_lt (by have := Int.emod_lt_abs_natAbs x hyn; exact this))
  clear hsb hss hyn
  have Na := hid ha
  have Nb := hid hb
  have Ra := hid (worth_of ha (of_decide_eq_true fa.out) HX.out)
  have Rb := hid (worth_of hb (of_decide_eq_true fb.out) HY.out)
  clear ha hb
  go_enter Try.func5, Try.ntmps5
  go_upto_region 1 with (fail)
  have E := hid (((Ext.refl W).alloc' (.cells #[.bool ga, .slice Aa na ca] 24)).alloc' (.cells #[.bool gb, .slice Ab nb cb] 24))
  have Ba : Hid (Box ((W.alloc (.cells #[.bool ga, .slice Aa na ca] 24)).alloc (.cells #[.bool gb, .slice Ab nb cb] 24)) (W.heap.size) #[.bool ga, .slice Aa na ca] 24) := hid ((Box.at_ (w := W) #[.bool ga, .slice Aa na ca] 24 (by simp)).alloc (.cells #[.bool gb, .slice Ab nb cb] 24))
  have Bb : Hid (Box ((W.alloc (.cells #[.bool ga, .slice Aa na ca] 24)).alloc (.cells #[.bool gb, .slice Ab nb cb] 24)) (W.heap.size + 1) #[.bool gb, .slice Ab nb cb] 24) := hid (Box.at_ (w := (W.alloc (.cells #[.bool ga, .slice Aa na ca] 24))) #[.bool gb, .slice Ab nb cb] 24 (by simp))
  replace Na := hid (Na.out.up E.out)
  replace Nb := hid (Nb.out.up E.out)
  replace Ra := hid (Ra.out.up E.out)
  replace Rb := hid (Rb.out.up E.out)
  go_upto_region 1 with (fail)
  refine wp_region_T [(0, 1), (1, 0)] (by kernel_rfl) fun wd hb => ?_
  replace E := hid (E.out.trans hb)
  replace Ba := hid (Ba.out.up hb)
  replace Bb := hid (Bb.out.up hb)
  replace Na := hid (Na.out.up hb)
  replace Nb := hid (Nb.out.up hb)
  replace Ra := hid (Ra.out.up hb)
  replace Rb := hid (Rb.out.up hb)
  clear hb
  refine WE.call (d := some 9) rfl rfl (by rfl) (f := 11) (args := #[]) (by go_simp) ?_
  refine (known2 _).mono ?_
  rintro e wn ⟨rfl, hb⟩
  refine ⟨_, rfl, hb, ?_⟩
  replace E := hid (E.out.trans hb)
  replace Ba := hid (Ba.out.up hb)
  replace Bb := hid (Bb.out.up hb)
  replace Na := hid (Na.out.up hb)
  replace Nb := hid (Nb.out.up hb)
  replace Ra := hid (Ra.out.up hb)
  replace Rb := hid (Rb.out.up hb)
  clear hb
  simp only [Act.put, List.setIfInBounds_toArray, List.set_cons_zero, List.set_cons_succ]
  refine WE.pure (d := some 10) rfl rfl (by rfl) (v := (.bool false)) (fun w' hk => ?_) ?_
  · go_simp
  simp only [Act.put, List.setIfInBounds_toArray, List.set_cons_zero, List.set_cons_succ]
  refine WE.done ?_
  go_upto_region 3 with (fail)
  refine wp_region_T [(0, 0), (1, 1), (2, 0), (3, 0), (4, 0), (5, 1), (6, 0), (7, 0), (8, 0), (9, 0), (10, 1), (11, 0), (12, 0), (13, 0), (14, 0), (15, 1), (16, 0), (17, 0)] (by kernel_rfl) fun wd hb => ?_
  replace E := hid (E.out.trans hb)
  replace Ba := hid (Ba.out.up hb)
  replace Bb := hid (Bb.out.up hb)
  replace Na := hid (Na.out.up hb)
  replace Nb := hid (Nb.out.up hb)
  replace Ra := hid (Ra.out.up hb)
  replace Rb := hid (Rb.out.up hb)
  clear hb
  refine WE.pure (d := some 11) rfl rfl (by rfl) (v := (.agg #[.bool ga, .slice Aa na ca])) (fun w' hk => ?_) ?_
  · have c0 := hk.cell (Ba.out.cell (o := 0) (v := .bool ga) rfl); have c1 := hk.cell (Ba.out.cell (o := 1) (v := .slice Aa na ca) rfl); go_simp
  simp only [Act.put, List.setIfInBounds_toArray, List.set_cons_zero, List.set_cons_succ]
  refine WE.call (d := some 12) rfl rfl (by rfl) (f := 12) (args := #[(.agg #[.bool ga, .slice Aa na ca])]) (by go_simp) ?_
  refine (few_z Na.out fa.out).mono ?_
  rintro e wn ⟨rfl, hb⟩
  refine ⟨_, rfl, hb, ?_⟩
  replace E := hid (E.out.trans hb)
  replace Ba := hid (Ba.out.up hb)
  replace Bb := hid (Bb.out.up hb)
  replace Na := hid (Na.out.up hb)
  replace Nb := hid (Nb.out.up hb)
  replace Ra := hid (Ra.out.up hb)
  replace Rb := hid (Rb.out.up hb)
  clear hb
  simp only [Act.put, List.setIfInBounds_toArray, List.set_cons_zero, List.set_cons_succ]
  refine WE.pure (d := some 13) rfl rfl (by rfl) (v := (.bool false)) (fun w' hk => ?_) ?_
  · go_simp
  simp only [Act.put, List.setIfInBounds_toArray, List.set_cons_zero, List.set_cons_succ]
  refine WE.pure (d := some 14) rfl rfl (by rfl) (v := (.bool false)) (fun w' hk => ?_) ?_
  · go_simp
  simp only [Act.put, List.setIfInBounds_toArray, List.set_cons_zero, List.set_cons_succ]
  refine WE.pure (d := some 15) rfl rfl (by rfl) (v := (.agg #[.bool gb, .slice Ab nb cb])) (fun w' hk => ?_) ?_
  · have c0 := hk.cell (Bb.out.cell (o := 0) (v := .bool gb) rfl); have c1 := hk.cell (Bb.out.cell (o := 1) (v := .slice Ab nb cb) rfl); go_simp
  simp only [Act.put, List.setIfInBounds_toArray, List.set_cons_zero, List.set_cons_succ]
  refine WE.call (d := some 16) rfl rfl (by rfl) (f := 12) (args := #[(.agg #[.bool gb, .slice Ab nb cb])]) (by go_simp) ?_
  refine (few_z Nb.out fb.out).mono ?_
  rintro e wn ⟨rfl, hb⟩
  refine ⟨_, rfl, hb, ?_⟩
  replace E := hid (E.out.trans hb)
  replace Ba := hid (Ba.out.up hb)
  replace Bb := hid (Bb.out.up hb)
  replace Na := hid (Na.out.up hb)
  replace Nb := hid (Nb.out.up hb)
  replace Ra := hid (Ra.out.up hb)
  replace Rb := hid (Rb.out.up hb)
  clear hb
  simp only [Act.put, List.setIfInBounds_toArray, List.set_cons_zero, List.set_cons_succ]
  refine WE.pure (d := some 17) rfl rfl (by rfl) (v := (.bool false)) (fun w' hk => ?_) ?_
  · go_simp
  simp only [Act.put, List.setIfInBounds_toArray, List.set_cons_zero, List.set_cons_succ]
  refine WE.pure (d := some 18) rfl rfl (by rfl) (v := (.bool false)) (fun w' hk => ?_) ?_
  · go_simp
  simp only [Act.put, List.setIfInBounds_toArray, List.set_cons_zero, List.set_cons_succ]
  refine WE.pure (d := some 19) rfl rfl (by rfl) (v := (.bool false)) (fun w' hk => ?_) ?_
  · go_simp
  simp only [Act.put, List.setIfInBounds_toArray, List.set_cons_zero, List.set_cons_succ]
  refine WE.pure (d := some 20) rfl rfl (by rfl) (v := (.agg #[.bool ga, .slice Aa na ca])) (fun w' hk => ?_) ?_
  · have c0 := hk.cell (Ba.out.cell (o := 0) (v := .bool ga) rfl); have c1 := hk.cell (Ba.out.cell (o := 1) (v := .slice Aa na ca) rfl); go_simp
  simp only [Act.put, List.setIfInBounds_toArray, List.set_cons_zero, List.set_cons_succ]
  refine WE.call (d := some 21) rfl rfl (by rfl) (f := 19) (args := #[(.agg #[.bool ga, .slice Aa na ca])]) (by go_simp) ?_
  refine (wIs_any Na.out ia.out).mono ?_
  rintro e wn ⟨rfl, hb⟩
  refine ⟨_, rfl, hb, ?_⟩
  replace E := hid (E.out.trans hb)
  replace Ba := hid (Ba.out.up hb)
  replace Bb := hid (Bb.out.up hb)
  replace Na := hid (Na.out.up hb)
  replace Nb := hid (Nb.out.up hb)
  replace Ra := hid (Ra.out.up hb)
  replace Rb := hid (Rb.out.up hb)
  clear hb
  simp only [Act.put, List.setIfInBounds_toArray, List.set_cons_zero, List.set_cons_succ]
  refine WE.pure (d := some 22) rfl rfl (by rfl) (v := (.bool false)) (fun w' hk => ?_) ?_
  · go_simp
  simp only [Act.put, List.setIfInBounds_toArray, List.set_cons_zero, List.set_cons_succ]
  refine WE.pure (d := some 23) rfl rfl (by rfl) (v := (.bool false)) (fun w' hk => ?_) ?_
  · go_simp
  simp only [Act.put, List.setIfInBounds_toArray, List.set_cons_zero, List.set_cons_succ]
  refine WE.pure (d := some 24) rfl rfl (by rfl) (v := (.bool false)) (fun w' hk => ?_) ?_
  · go_simp
  simp only [Act.put, List.setIfInBounds_toArray, List.set_cons_zero, List.set_cons_succ]
  refine WE.pure (d := some 25) rfl rfl (by rfl) (v := (.agg #[.bool gb, .slice Ab nb cb])) (fun w' hk => ?_) ?_
  · have c0 := hk.cell (Bb.out.cell (o := 0) (v := .bool gb) rfl); have c1 := hk.cell (Bb.out.cell (o := 1) (v := .slice Ab nb cb) rfl); go_simp
  simp only [Act.put, List.setIfInBounds_toArray, List.set_cons_zero, List.set_cons_succ]
  refine WE.call (d := some 26) rfl rfl (by rfl) (f := 19) (args := #[(.agg #[.bool gb, .slice Ab nb cb])]) (by go_simp) ?_
  refine (wIs_any Nb.out ib.out).mono ?_
  rintro e wn ⟨rfl, hb⟩
  refine ⟨_, rfl, hb, ?_⟩
  replace E := hid (E.out.trans hb)
  replace Ba := hid (Ba.out.up hb)
  replace Bb := hid (Bb.out.up hb)
  replace Na := hid (Na.out.up hb)
  replace Nb := hid (Nb.out.up hb)
  replace Ra := hid (Ra.out.up hb)
  replace Rb := hid (Rb.out.up hb)
  clear hb
  simp only [Act.put, List.setIfInBounds_toArray, List.set_cons_zero, List.set_cons_succ]
  refine WE.pure (d := some 27) rfl rfl (by rfl) (v := (.bool false)) (fun w' hk => ?_) ?_
  · go_simp
  simp only [Act.put, List.setIfInBounds_toArray, List.set_cons_zero, List.set_cons_succ]
  refine WE.pure (d := some 28) rfl rfl (by rfl) (v := (.bool false)) (fun w' hk => ?_) ?_
  · go_simp
  simp only [Act.put, List.setIfInBounds_toArray, List.set_cons_zero, List.set_cons_succ]
  refine WE.done ?_
  go_upto_region 5 with (fail)
  refine wp_region_T [(0, 0), (1, 0), (2, 1), (3, 0), (4, 0), (5, 0), (6, 1), (7, 1), (8, 4), (9, 4)] (by kernel_rfl) fun wd hb => ?_
  replace E := hid (E.out.trans hb)
  replace Ba := hid (Ba.out.up hb)
  replace Bb := hid (Bb.out.up hb)
  replace Na := hid (Na.out.up hb)
  replace Nb := hid (Nb.out.up hb)
  replace Ra := hid (Ra.out.up hb)
  replace Rb := hid (Rb.out.up hb)
  clear hb
  refine WE.pure (d := some 30) rfl rfl (by rfl) (v := (.agg #[.bool ga, .slice Aa na ca])) (fun w' hk => ?_) ?_
  · have c0 := hk.cell (Ba.out.cell (o := 0) (v := .bool ga) rfl); have c1 := hk.cell (Ba.out.cell (o := 1) (v := .slice Aa na ca) rfl); go_simp
  simp only [Act.put, List.setIfInBounds_toArray, List.set_cons_zero, List.set_cons_succ]
  refine WE.pure (d := some 31) rfl rfl (by rfl) (v := (.agg #[.bool gb, .slice Ab nb cb])) (fun w' hk => ?_) ?_
  · have c0 := hk.cell (Bb.out.cell (o := 0) (v := .bool gb) rfl); have c1 := hk.cell (Bb.out.cell (o := 1) (v := .slice Ab nb cb) rfl); go_simp
  simp only [Act.put, List.setIfInBounds_toArray, List.set_cons_zero, List.set_cons_succ]
  refine WE.call (d := some 32) rfl rfl (by rfl) (f := 13) (args := #[(.agg #[.bool ga, .slice Aa na ca]), (.agg #[.bool gb, .slice Ab nb cb])]) (by go_simp) ?_
  refine (floor_w Ra.out Rb.out (by omega) (by omega)).mono ?_
  rintro e wn ⟨v1, v2, rfl, x1, x2, hb⟩
  obtain ⟨g1, A1, n1, c1, rfl⟩ := x1.shape
  obtain ⟨g2, A2, n2, c2, rfl⟩ := x2.shape
  refine ⟨_, rfl, hb, ?_⟩
  replace E := hid (E.out.trans hb)
  replace Ba := hid (Ba.out.up hb)
  replace Bb := hid (Bb.out.up hb)
  replace Na := hid (Na.out.up hb)
  replace Nb := hid (Nb.out.up hb)
  replace Ra := hid (Ra.out.up hb)
  replace Rb := hid (Rb.out.up hb)
  have Q1 := hid x1
  have Q2 := hid x2
  clear hb x1 x2
  simp only [Act.put, List.setIfInBounds_toArray, List.set_cons_zero, List.set_cons_succ]
  refine WE.pure (d := some 29) rfl rfl (by rfl) (v := (.tuple #[(.agg #[.bool g1, .slice A1 n1 c1]), (.agg #[.bool g2, .slice A2 n2 c2])])) (fun w' hk => ?_) ?_
  · go_simp
  simp only [Act.put, List.setIfInBounds_toArray, List.set_cons_zero, List.set_cons_succ]
  refine WE.pure (d := some 33) rfl rfl (by rfl) (v := (.agg #[.bool g1, .slice A1 n1 c1])) (fun w' hk => ?_) ?_
  · go_simp
  simp only [Act.put, List.setIfInBounds_toArray, List.set_cons_zero, List.set_cons_succ]
  refine WE.pure (d := some 34) rfl rfl (by rfl) (v := (.agg #[.bool g2, .slice A2 n2 c2])) (fun w' hk => ?_) ?_
  · go_simp
  simp only [Act.put, List.setIfInBounds_toArray, List.set_cons_zero, List.set_cons_succ]
  refine WE.new (d := some 5) (cs := #[.bool false, .slice none 0 0]) (t := 24) (v := fun g => (.pointer (some ⟨g, 0, none⟩))) rfl rfl (by rfl) (fun w => by go_simp) fun gV5 wv hx0 hbox hge => ?_
  have HNV5Ba := hid (show gV5 ≠ (W.heap.size) by have := Ba.out.lt; omega)
  have HNV5Bb := hid (show gV5 ≠ (W.heap.size + 1) by have := Bb.out.lt; omega)
  have HGV5 := hid (show W.heap.size ≤ gV5 by have := E.out.size; omega)
  replace E := hid (E.out.trans hx0)
  replace Ba := hid (Ba.out.up hx0)
  replace Bb := hid (Bb.out.up hx0)
  replace Na := hid (Na.out.up hx0)
  replace Nb := hid (Nb.out.up hx0)
  replace Ra := hid (Ra.out.up hx0)
  replace Rb := hid (Rb.out.up hx0)
  replace Q1 := hid (Q1.out.up hx0)
  replace Q2 := hid (Q2.out.up hx0)
  have V5 : Hid (Box wv gV5 #[.bool false, .slice none 0 0] 24) := hid hbox
  clear hx0 hbox hge
  simp only [Act.put, List.setIfInBounds_toArray, List.set_cons_zero, List.set_cons_succ]
  refine WE.new (d := some 6) (cs := #[.bool false, .slice none 0 0]) (t := 24) (v := fun g => (.pointer (some ⟨g, 0, none⟩))) rfl rfl (by rfl) (fun w => by go_simp) fun gV6 wv hx0 hbox hge => ?_
  have HNV6Ba := hid (show gV6 ≠ (W.heap.size) by have := Ba.out.lt; omega)
  have HNV6Bb := hid (show gV6 ≠ (W.heap.size + 1) by have := Bb.out.lt; omega)
  have HNV6V5 := hid (show gV6 ≠ gV5 by have := V5.out.lt; omega)
  have HGV6 := hid (show W.heap.size ≤ gV6 by have := E.out.size; omega)
  replace E := hid (E.out.trans hx0)
  replace Ba := hid (Ba.out.up hx0)
  replace Bb := hid (Bb.out.up hx0)
  replace V5 := hid (V5.out.up hx0)
  replace Na := hid (Na.out.up hx0)
  replace Nb := hid (Nb.out.up hx0)
  replace Ra := hid (Ra.out.up hx0)
  replace Rb := hid (Rb.out.up hx0)
  replace Q1 := hid (Q1.out.up hx0)
  replace Q2 := hid (Q2.out.up hx0)
  have V6 : Hid (Box wv gV6 #[.bool false, .slice none 0 0] 24) := hid hbox
  clear hx0 hbox hge
  simp only [Act.put, List.setIfInBounds_toArray, List.set_cons_zero, List.set_cons_succ]
  refine WE.store2 (g := gV5) (x := .bool g1) (y := .slice A1 n1 c1) (t := 24) rfl rfl (by rfl) (fun w hb => ?_) V5.out (by rfl) fun ws hk hs => ?_
  · have c0 := hb.cell (o := 0) (v := .bool false) rfl; have f0 := hb.free 0; have c1 := hb.cell (o := 1) (v := .slice none 0 0) rfl; have f1 := hb.free 1; go_simp
  intro hbx
  replace E := hid (E.out.keptG hk HGV5.out)
  replace Ba := hid (Ba.out.kept hk (by simpa using HNV5Ba.out.symm))
  replace Bb := hid (Bb.out.kept hk (by simpa using HNV5Bb.out.symm))
  replace V5 := hid hbx
  replace V6 := hid (V6.out.kept hk (by simpa using HNV6V5.out))
  replace Na := hid (Na.out.kz hs)
  replace Nb := hid (Nb.out.kz hs)
  replace Ra := hid (Ra.out.kz hs)
  replace Rb := hid (Rb.out.kz hs)
  replace Q1 := hid (Q1.out.kz hs)
  replace Q2 := hid (Q2.out.kz hs)
  clear hk hs hbx
  refine WE.store2 (g := gV6) (x := .bool g2) (y := .slice A2 n2 c2) (t := 24) rfl rfl (by rfl) (fun w hb => ?_) V6.out (by rfl) fun ws hk hs => ?_
  · have c0 := hb.cell (o := 0) (v := .bool false) rfl; have f0 := hb.free 0; have c1 := hb.cell (o := 1) (v := .slice none 0 0) rfl; have f1 := hb.free 1; go_simp
  intro hbx
  replace E := hid (E.out.keptG hk HGV6.out)
  replace Ba := hid (Ba.out.kept hk (by simpa using HNV6Ba.out.symm))
  replace Bb := hid (Bb.out.kept hk (by simpa using HNV6Bb.out.symm))
  replace V5 := hid (V5.out.kept hk (by simpa using HNV6V5.out.symm))
  replace V6 := hid hbx
  replace Na := hid (Na.out.kz hs)
  replace Nb := hid (Nb.out.kz hs)
  replace Ra := hid (Ra.out.kz hs)
  replace Rb := hid (Rb.out.kz hs)
  replace Q1 := hid (Q1.out.kz hs)
  replace Q2 := hid (Q2.out.kz hs)
  clear hk hs hbx
  refine WE.done ?_
  go_upto_region 6 with (fail)
  refine wp_region_T [(0, 0), (1, 0), (2, 1), (3, 0), (4, 0), (5, 0), (6, 1), (7, 1), (8, 4), (9, 4)] (by kernel_rfl) fun wd hb => ?_
  replace E := hid (E.out.trans hb)
  replace Ba := hid (Ba.out.up hb)
  replace Bb := hid (Bb.out.up hb)
  replace V5 := hid (V5.out.up hb)
  replace V6 := hid (V6.out.up hb)
  replace Na := hid (Na.out.up hb)
  replace Nb := hid (Nb.out.up hb)
  replace Ra := hid (Ra.out.up hb)
  replace Rb := hid (Rb.out.up hb)
  replace Q1 := hid (Q1.out.up hb)
  replace Q2 := hid (Q2.out.up hb)
  clear hb
  refine WE.pure (d := some 36) rfl rfl (by rfl) (v := (.agg #[.bool ga, .slice Aa na ca])) (fun w' hk => ?_) ?_
  · have c0 := hk.cell (Ba.out.cell (o := 0) (v := .bool ga) rfl); have c1 := hk.cell (Ba.out.cell (o := 1) (v := .slice Aa na ca) rfl); go_simp
  simp only [Act.put, List.setIfInBounds_toArray, List.set_cons_zero, List.set_cons_succ]
  refine WE.pure (d := some 37) rfl rfl (by rfl) (v := (.agg #[.bool gb, .slice Ab nb cb])) (fun w' hk => ?_) ?_
  · have c0 := hk.cell (Bb.out.cell (o := 0) (v := .bool gb) rfl); have c1 := hk.cell (Bb.out.cell (o := 1) (v := .slice Ab nb cb) rfl); go_simp
  simp only [Act.put, List.setIfInBounds_toArray, List.set_cons_zero, List.set_cons_succ]
  refine WE.call (d := some 38) rfl rfl (by rfl) (f := 15) (args := #[(.agg #[.bool ga, .slice Aa na ca]), (.agg #[.bool gb, .slice Ab nb cb])]) (by go_simp) ?_
  refine (euclid_w Ra.out Rb.out (by omega) (by omega)).mono ?_
  rintro e wn ⟨v1, v2, rfl, x1, x2, hb⟩
  obtain ⟨g3, A3, n3, c3, rfl⟩ := x1.shape
  obtain ⟨g4, A4, n4, c4, rfl⟩ := x2.shape
  refine ⟨_, rfl, hb, ?_⟩
  replace E := hid (E.out.trans hb)
  replace Ba := hid (Ba.out.up hb)
  replace Bb := hid (Bb.out.up hb)
  replace V5 := hid (V5.out.up hb)
  replace V6 := hid (V6.out.up hb)
  replace Na := hid (Na.out.up hb)
  replace Nb := hid (Nb.out.up hb)
  replace Ra := hid (Ra.out.up hb)
  replace Rb := hid (Rb.out.up hb)
  replace Q1 := hid (Q1.out.up hb)
  replace Q2 := hid (Q2.out.up hb)
  have Q3 := hid x1
  have Q4 := hid x2
  clear hb x1 x2
  simp only [Act.put, List.setIfInBounds_toArray, List.set_cons_zero, List.set_cons_succ]
  refine WE.pure (d := some 35) rfl rfl (by rfl) (v := (.tuple #[(.agg #[.bool g3, .slice A3 n3 c3]), (.agg #[.bool g4, .slice A4 n4 c4])])) (fun w' hk => ?_) ?_
  · go_simp
  simp only [Act.put, List.setIfInBounds_toArray, List.set_cons_zero, List.set_cons_succ]
  refine WE.pure (d := some 39) rfl rfl (by rfl) (v := (.agg #[.bool g3, .slice A3 n3 c3])) (fun w' hk => ?_) ?_
  · go_simp
  simp only [Act.put, List.setIfInBounds_toArray, List.set_cons_zero, List.set_cons_succ]
  refine WE.pure (d := some 40) rfl rfl (by rfl) (v := (.agg #[.bool g4, .slice A4 n4 c4])) (fun w' hk => ?_) ?_
  · go_simp
  simp only [Act.put, List.setIfInBounds_toArray, List.set_cons_zero, List.set_cons_succ]
  refine WE.new (d := some 7) (cs := #[.bool false, .slice none 0 0]) (t := 24) (v := fun g => (.pointer (some ⟨g, 0, none⟩))) rfl rfl (by rfl) (fun w => by go_simp) fun gV7 wv hx0 hbox hge => ?_
  have HNV7Ba := hid (show gV7 ≠ (W.heap.size) by have := Ba.out.lt; omega)
  have HNV7Bb := hid (show gV7 ≠ (W.heap.size + 1) by have := Bb.out.lt; omega)
  have HNV7V5 := hid (show gV7 ≠ gV5 by have := V5.out.lt; omega)
  have HNV7V6 := hid (show gV7 ≠ gV6 by have := V6.out.lt; omega)
  have HGV7 := hid (show W.heap.size ≤ gV7 by have := E.out.size; omega)
  replace E := hid (E.out.trans hx0)
  replace Ba := hid (Ba.out.up hx0)
  replace Bb := hid (Bb.out.up hx0)
  replace V5 := hid (V5.out.up hx0)
  replace V6 := hid (V6.out.up hx0)
  replace Na := hid (Na.out.up hx0)
  replace Nb := hid (Nb.out.up hx0)
  replace Ra := hid (Ra.out.up hx0)
  replace Rb := hid (Rb.out.up hx0)
  replace Q1 := hid (Q1.out.up hx0)
  replace Q2 := hid (Q2.out.up hx0)
  replace Q3 := hid (Q3.out.up hx0)
  replace Q4 := hid (Q4.out.up hx0)
  have V7 : Hid (Box wv gV7 #[.bool false, .slice none 0 0] 24) := hid hbox
  clear hx0 hbox hge
  simp only [Act.put, List.setIfInBounds_toArray, List.set_cons_zero, List.set_cons_succ]
  refine WE.new (d := some 8) (cs := #[.bool false, .slice none 0 0]) (t := 24) (v := fun g => (.pointer (some ⟨g, 0, none⟩))) rfl rfl (by rfl) (fun w => by go_simp) fun gV8 wv hx0 hbox hge => ?_
  have HNV8Ba := hid (show gV8 ≠ (W.heap.size) by have := Ba.out.lt; omega)
  have HNV8Bb := hid (show gV8 ≠ (W.heap.size + 1) by have := Bb.out.lt; omega)
  have HNV8V5 := hid (show gV8 ≠ gV5 by have := V5.out.lt; omega)
  have HNV8V6 := hid (show gV8 ≠ gV6 by have := V6.out.lt; omega)
  have HNV8V7 := hid (show gV8 ≠ gV7 by have := V7.out.lt; omega)
  have HGV8 := hid (show W.heap.size ≤ gV8 by have := E.out.size; omega)
  replace E := hid (E.out.trans hx0)
  replace Ba := hid (Ba.out.up hx0)
  replace Bb := hid (Bb.out.up hx0)
  replace V5 := hid (V5.out.up hx0)
  replace V6 := hid (V6.out.up hx0)
  replace V7 := hid (V7.out.up hx0)
  replace Na := hid (Na.out.up hx0)
  replace Nb := hid (Nb.out.up hx0)
  replace Ra := hid (Ra.out.up hx0)
  replace Rb := hid (Rb.out.up hx0)
  replace Q1 := hid (Q1.out.up hx0)
  replace Q2 := hid (Q2.out.up hx0)
  replace Q3 := hid (Q3.out.up hx0)
  replace Q4 := hid (Q4.out.up hx0)
  have V8 : Hid (Box wv gV8 #[.bool false, .slice none 0 0] 24) := hid hbox
  clear hx0 hbox hge
  simp only [Act.put, List.setIfInBounds_toArray, List.set_cons_zero, List.set_cons_succ]
  refine WE.store2 (g := gV7) (x := .bool g3) (y := .slice A3 n3 c3) (t := 24) rfl rfl (by rfl) (fun w hb => ?_) V7.out (by rfl) fun ws hk hs => ?_
  · have c0 := hb.cell (o := 0) (v := .bool false) rfl; have f0 := hb.free 0; have c1 := hb.cell (o := 1) (v := .slice none 0 0) rfl; have f1 := hb.free 1; go_simp
  intro hbx
  replace E := hid (E.out.keptG hk HGV7.out)
  replace Ba := hid (Ba.out.kept hk (by simpa using HNV7Ba.out.symm))
  replace Bb := hid (Bb.out.kept hk (by simpa using HNV7Bb.out.symm))
  replace V5 := hid (V5.out.kept hk (by simpa using HNV7V5.out.symm))
  replace V6 := hid (V6.out.kept hk (by simpa using HNV7V6.out.symm))
  replace V7 := hid hbx
  replace V8 := hid (V8.out.kept hk (by simpa using HNV8V7.out))
  replace Na := hid (Na.out.kz hs)
  replace Nb := hid (Nb.out.kz hs)
  replace Ra := hid (Ra.out.kz hs)
  replace Rb := hid (Rb.out.kz hs)
  replace Q1 := hid (Q1.out.kz hs)
  replace Q2 := hid (Q2.out.kz hs)
  replace Q3 := hid (Q3.out.kz hs)
  replace Q4 := hid (Q4.out.kz hs)
  clear hk hs hbx
  refine WE.store2 (g := gV8) (x := .bool g4) (y := .slice A4 n4 c4) (t := 24) rfl rfl (by rfl) (fun w hb => ?_) V8.out (by rfl) fun ws hk hs => ?_
  · have c0 := hb.cell (o := 0) (v := .bool false) rfl; have f0 := hb.free 0; have c1 := hb.cell (o := 1) (v := .slice none 0 0) rfl; have f1 := hb.free 1; go_simp
  intro hbx
  replace E := hid (E.out.keptG hk HGV8.out)
  replace Ba := hid (Ba.out.kept hk (by simpa using HNV8Ba.out.symm))
  replace Bb := hid (Bb.out.kept hk (by simpa using HNV8Bb.out.symm))
  replace V5 := hid (V5.out.kept hk (by simpa using HNV8V5.out.symm))
  replace V6 := hid (V6.out.kept hk (by simpa using HNV8V6.out.symm))
  replace V7 := hid (V7.out.kept hk (by simpa using HNV8V7.out.symm))
  replace V8 := hid hbx
  replace Na := hid (Na.out.kz hs)
  replace Nb := hid (Nb.out.kz hs)
  replace Ra := hid (Ra.out.kz hs)
  replace Rb := hid (Rb.out.kz hs)
  replace Q1 := hid (Q1.out.kz hs)
  replace Q2 := hid (Q2.out.kz hs)
  replace Q3 := hid (Q3.out.kz hs)
  replace Q4 := hid (Q4.out.kz hs)
  clear hk hs hbx
  refine WE.done ?_
  go_upto_region 7 with (fail)
  refine wp_region_E [(0, 0), (1, 0), (3, 0), (5, 0), (2, 1), (4, 1), (6, 1), (7, 0), (8, 0), (9, 0), (10, 0), (12, 0), (14, 0), (11, 1), (13, 1), (15, 1), (16, 0), (17, 0)] (fun _ => (0, #[])) rfl (by kernel_rfl) (by intro j hj; cases hj) (fun _ _ d _ _ => by cases d <;> exact Iff.rfl) fun wd hb => ?_
  replace E := hid (E.out.trans hb)
  replace Ba := hid (Ba.out.up hb)
  replace Bb := hid (Bb.out.up hb)
  replace V5 := hid (V5.out.up hb)
  replace V6 := hid (V6.out.up hb)
  replace V7 := hid (V7.out.up hb)
  replace V8 := hid (V8.out.up hb)
  replace Na := hid (Na.out.up hb)
  replace Nb := hid (Nb.out.up hb)
  replace Ra := hid (Ra.out.up hb)
  replace Rb := hid (Rb.out.up hb)
  replace Q1 := hid (Q1.out.up hb)
  replace Q2 := hid (Q2.out.up hb)
  replace Q3 := hid (Q3.out.up hb)
  replace Q4 := hid (Q4.out.up hb)
  clear hb
  refine WE.pure (d := some 41) rfl rfl (by rfl) (v := (.agg #[.bool g1, .slice A1 n1 c1])) (fun w' hk => ?_) ?_
  · have c0 := hk.cell (V5.out.cell (o := 0) (v := .bool g1) rfl); have c1 := hk.cell (V5.out.cell (o := 1) (v := .slice A1 n1 c1) rfl); go_simp
  simp only [Act.put, List.setIfInBounds_toArray, List.set_cons_zero, List.set_cons_succ]
  refine WE.pure (d := some 42) rfl rfl (by rfl) (v := (.agg #[.bool gb, .slice Ab nb cb])) (fun w' hk => ?_) ?_
  · have c0 := hk.cell (Bb.out.cell (o := 0) (v := .bool gb) rfl); have c1 := hk.cell (Bb.out.cell (o := 1) (v := .slice Ab nb cb) rfl); go_simp
  simp only [Act.put, List.setIfInBounds_toArray, List.set_cons_zero, List.set_cons_succ]
  refine WE.pure (d := some 44) rfl rfl (by rfl) (v := (.agg #[.bool g2, .slice A2 n2 c2])) (fun w' hk => ?_) ?_
  · have c0 := hk.cell (V6.out.cell (o := 0) (v := .bool g2) rfl); have c1 := hk.cell (V6.out.cell (o := 1) (v := .slice A2 n2 c2) rfl); go_simp
  simp only [Act.put, List.setIfInBounds_toArray, List.set_cons_zero, List.set_cons_succ]
  refine WE.pure (d := some 46) rfl rfl (by rfl) (v := (.agg #[.bool ga, .slice Aa na ca])) (fun w' hk => ?_) ?_
  · have c0 := hk.cell (Ba.out.cell (o := 0) (v := .bool ga) rfl); have c1 := hk.cell (Ba.out.cell (o := 1) (v := .slice Aa na ca) rfl); go_simp
  simp only [Act.put, List.setIfInBounds_toArray, List.set_cons_zero, List.set_cons_succ]
  refine WE.call (d := some 43) rfl rfl (by rfl) (f := 38) (args := #[(.agg #[.bool g1, .slice A1 n1 c1]), (.agg #[.bool gb, .slice Ab nb cb])]) (by go_simp) ?_
  refine (mul_w Q1.out.worth Rb.out (by omega) (by omega) (by omega)).mono ?_
  rintro e wn ⟨v1, rfl, x1, hb⟩
  obtain ⟨g5, A5, n5, c5, rfl⟩ := x1.shape
  refine ⟨_, rfl, hb, ?_⟩
  replace E := hid (E.out.trans hb)
  replace Ba := hid (Ba.out.up hb)
  replace Bb := hid (Bb.out.up hb)
  replace V5 := hid (V5.out.up hb)
  replace V6 := hid (V6.out.up hb)
  replace V7 := hid (V7.out.up hb)
  replace V8 := hid (V8.out.up hb)
  replace Na := hid (Na.out.up hb)
  replace Nb := hid (Nb.out.up hb)
  replace Ra := hid (Ra.out.up hb)
  replace Rb := hid (Rb.out.up hb)
  replace Q1 := hid (Q1.out.up hb)
  replace Q2 := hid (Q2.out.up hb)
  replace Q3 := hid (Q3.out.up hb)
  replace Q4 := hid (Q4.out.up hb)
  have Q5 := hid x1
  clear hb x1
  simp only [Act.put, List.setIfInBounds_toArray, List.set_cons_zero, List.set_cons_succ]
  refine WE.call (d := some 45) rfl rfl (by rfl) (f := 34) (args := #[(.agg #[.bool g5, .slice A5 n5 c5]), (.agg #[.bool g2, .slice A2 n2 c2])]) (by go_simp) ?_
  refine (add_w Q5.out.worth Q2.out.worth (by omega) (by omega)).mono ?_
  rintro e wn ⟨v1, rfl, x1, hb⟩
  obtain ⟨g6, A6, n6, c6, rfl⟩ := x1.shape
  refine ⟨_, rfl, hb, ?_⟩
  replace E := hid (E.out.trans hb)
  replace Ba := hid (Ba.out.up hb)
  replace Bb := hid (Bb.out.up hb)
  replace V5 := hid (V5.out.up hb)
  replace V6 := hid (V6.out.up hb)
  replace V7 := hid (V7.out.up hb)
  replace V8 := hid (V8.out.up hb)
  replace Na := hid (Na.out.up hb)
  replace Nb := hid (Nb.out.up hb)
  replace Ra := hid (Ra.out.up hb)
  replace Rb := hid (Rb.out.up hb)
  replace Q1 := hid (Q1.out.up hb)
  replace Q2 := hid (Q2.out.up hb)
  replace Q3 := hid (Q3.out.up hb)
  replace Q4 := hid (Q4.out.up hb)
  replace Q5 := hid (Q5.out.up hb)
  have Q6 := hid x1
  clear hb x1
  simp only [Act.put, List.setIfInBounds_toArray, List.set_cons_zero, List.set_cons_succ]
  clear Q5
  refine WE.call (d := some 47) rfl rfl (by rfl) (f := 28) (args := #[(.agg #[.bool g6, .slice A6 n6 c6]), (.agg #[.bool ga, .slice Aa na ca])]) (by go_simp) ?_
  refine (same_w Q6.out.worth Ra.out (b := true) (decide_eq_true (by have := Int.mul_fdiv_add_fmod x y; rw [Int.mul_comm] at this; exact this))).mono ?_
  rintro e wn ⟨rfl, hb⟩
  refine ⟨_, rfl, hb, ?_⟩
  replace E := hid (E.out.trans hb)
  replace Ba := hid (Ba.out.up hb)
  replace Bb := hid (Bb.out.up hb)
  replace V5 := hid (V5.out.up hb)
  replace V6 := hid (V6.out.up hb)
  replace V7 := hid (V7.out.up hb)
  replace V8 := hid (V8.out.up hb)
  replace Na := hid (Na.out.up hb)
  replace Nb := hid (Nb.out.up hb)
  replace Ra := hid (Ra.out.up hb)
  replace Rb := hid (Rb.out.up hb)
  replace Q1 := hid (Q1.out.up hb)
  replace Q2 := hid (Q2.out.up hb)
  replace Q3 := hid (Q3.out.up hb)
  replace Q4 := hid (Q4.out.up hb)
  replace Q6 := hid (Q6.out.up hb)
  clear hb
  simp only [Act.put, List.setIfInBounds_toArray, List.set_cons_zero, List.set_cons_succ]
  clear Q6
  refine WE.pure (d := some 48) rfl rfl (by rfl) (v := (.bool false)) (fun w' hk => ?_) ?_
  · go_simp
  simp only [Act.put, List.setIfInBounds_toArray, List.set_cons_zero, List.set_cons_succ]
  refine WE.pure (d := some 49) rfl rfl (by rfl) (v := (.bool false)) (fun w' hk => ?_) ?_
  · go_simp
  simp only [Act.put, List.setIfInBounds_toArray, List.set_cons_zero, List.set_cons_succ]
  refine WE.pure (d := some 50) rfl rfl (by rfl) (v := (.agg #[.bool g3, .slice A3 n3 c3])) (fun w' hk => ?_) ?_
  · have c0 := hk.cell (V7.out.cell (o := 0) (v := .bool g3) rfl); have c1 := hk.cell (V7.out.cell (o := 1) (v := .slice A3 n3 c3) rfl); go_simp
  simp only [Act.put, List.setIfInBounds_toArray, List.set_cons_zero, List.set_cons_succ]
  refine WE.pure (d := some 51) rfl rfl (by rfl) (v := (.agg #[.bool gb, .slice Ab nb cb])) (fun w' hk => ?_) ?_
  · have c0 := hk.cell (Bb.out.cell (o := 0) (v := .bool gb) rfl); have c1 := hk.cell (Bb.out.cell (o := 1) (v := .slice Ab nb cb) rfl); go_simp
  simp only [Act.put, List.setIfInBounds_toArray, List.set_cons_zero, List.set_cons_succ]
  refine WE.pure (d := some 53) rfl rfl (by rfl) (v := (.agg #[.bool g4, .slice A4 n4 c4])) (fun w' hk => ?_) ?_
  · have c0 := hk.cell (V8.out.cell (o := 0) (v := .bool g4) rfl); have c1 := hk.cell (V8.out.cell (o := 1) (v := .slice A4 n4 c4) rfl); go_simp
  simp only [Act.put, List.setIfInBounds_toArray, List.set_cons_zero, List.set_cons_succ]
  refine WE.pure (d := some 55) rfl rfl (by rfl) (v := (.agg #[.bool ga, .slice Aa na ca])) (fun w' hk => ?_) ?_
  · have c0 := hk.cell (Ba.out.cell (o := 0) (v := .bool ga) rfl); have c1 := hk.cell (Ba.out.cell (o := 1) (v := .slice Aa na ca) rfl); go_simp
  simp only [Act.put, List.setIfInBounds_toArray, List.set_cons_zero, List.set_cons_succ]
  refine WE.call (d := some 52) rfl rfl (by rfl) (f := 38) (args := #[(.agg #[.bool g3, .slice A3 n3 c3]), (.agg #[.bool gb, .slice Ab nb cb])]) (by go_simp) ?_
  refine (mul_w Q3.out.worth Rb.out (by omega) (by omega) (by omega)).mono ?_
  rintro e wn ⟨v1, rfl, x1, hb⟩
  obtain ⟨g7, A7, n7, c7, rfl⟩ := x1.shape
  refine ⟨_, rfl, hb, ?_⟩
  replace E := hid (E.out.trans hb)
  replace Ba := hid (Ba.out.up hb)
  replace Bb := hid (Bb.out.up hb)
  replace V5 := hid (V5.out.up hb)
  replace V6 := hid (V6.out.up hb)
  replace V7 := hid (V7.out.up hb)
  replace V8 := hid (V8.out.up hb)
  replace Na := hid (Na.out.up hb)
  replace Nb := hid (Nb.out.up hb)
  replace Ra := hid (Ra.out.up hb)
  replace Rb := hid (Rb.out.up hb)
  replace Q1 := hid (Q1.out.up hb)
  replace Q2 := hid (Q2.out.up hb)
  replace Q3 := hid (Q3.out.up hb)
  replace Q4 := hid (Q4.out.up hb)
  have Q7 := hid x1
  clear hb x1
  simp only [Act.put, List.setIfInBounds_toArray, List.set_cons_zero, List.set_cons_succ]
  refine WE.call (d := some 54) rfl rfl (by rfl) (f := 34) (args := #[(.agg #[.bool g7, .slice A7 n7 c7]), (.agg #[.bool g4, .slice A4 n4 c4])]) (by go_simp) ?_
  refine (add_w Q7.out.worth Q4.out.worth (by omega) (by omega)).mono ?_
  rintro e wn ⟨v1, rfl, x1, hb⟩
  obtain ⟨g8, A8, n8, c8, rfl⟩ := x1.shape
  refine ⟨_, rfl, hb, ?_⟩
  replace E := hid (E.out.trans hb)
  replace Ba := hid (Ba.out.up hb)
  replace Bb := hid (Bb.out.up hb)
  replace V5 := hid (V5.out.up hb)
  replace V6 := hid (V6.out.up hb)
  replace V7 := hid (V7.out.up hb)
  replace V8 := hid (V8.out.up hb)
  replace Na := hid (Na.out.up hb)
  replace Nb := hid (Nb.out.up hb)
  replace Ra := hid (Ra.out.up hb)
  replace Rb := hid (Rb.out.up hb)
  replace Q1 := hid (Q1.out.up hb)
  replace Q2 := hid (Q2.out.up hb)
  replace Q3 := hid (Q3.out.up hb)
  replace Q4 := hid (Q4.out.up hb)
  replace Q7 := hid (Q7.out.up hb)
  have Q8 := hid x1
  clear hb x1
  simp only [Act.put, List.setIfInBounds_toArray, List.set_cons_zero, List.set_cons_succ]
  clear Q7
  refine WE.call (d := some 56) rfl rfl (by rfl) (f := 28) (args := #[(.agg #[.bool g8, .slice A8 n8 c8]), (.agg #[.bool ga, .slice Aa na ca])]) (by go_simp) ?_
  refine (same_w Q8.out.worth Ra.out (b := true) (decide_eq_true (by have := Int.mul_ediv_add_emod x y; rw [Int.mul_comm] at this; exact this))).mono ?_
  rintro e wn ⟨rfl, hb⟩
  refine ⟨_, rfl, hb, ?_⟩
  replace E := hid (E.out.trans hb)
  replace Ba := hid (Ba.out.up hb)
  replace Bb := hid (Bb.out.up hb)
  replace V5 := hid (V5.out.up hb)
  replace V6 := hid (V6.out.up hb)
  replace V7 := hid (V7.out.up hb)
  replace V8 := hid (V8.out.up hb)
  replace Na := hid (Na.out.up hb)
  replace Nb := hid (Nb.out.up hb)
  replace Ra := hid (Ra.out.up hb)
  replace Rb := hid (Rb.out.up hb)
  replace Q1 := hid (Q1.out.up hb)
  replace Q2 := hid (Q2.out.up hb)
  replace Q3 := hid (Q3.out.up hb)
  replace Q4 := hid (Q4.out.up hb)
  replace Q8 := hid (Q8.out.up hb)
  clear hb
  simp only [Act.put, List.setIfInBounds_toArray, List.set_cons_zero, List.set_cons_succ]
  clear Q8
  refine WE.pure (d := some 57) rfl rfl (by rfl) (v := (.bool false)) (fun w' hk => ?_) ?_
  · go_simp
  simp only [Act.put, List.setIfInBounds_toArray, List.set_cons_zero, List.set_cons_succ]
  refine WE.pure (d := some 58) rfl rfl (by rfl) (v := (.bool false)) (fun w' hk => ?_) ?_
  · go_simp
  simp only [Act.put, List.setIfInBounds_toArray, List.set_cons_zero, List.set_cons_succ]
  refine WE.done ?_
  go_upto_region 9 with (fail)
  refine wp_region_T [(0, 0), (1, 1), (2, 0)] (by kernel_rfl) fun wd hb => ?_
  replace E := hid (E.out.trans hb)
  replace Ba := hid (Ba.out.up hb)
  replace Bb := hid (Bb.out.up hb)
  replace V5 := hid (V5.out.up hb)
  replace V6 := hid (V6.out.up hb)
  replace V7 := hid (V7.out.up hb)
  replace V8 := hid (V8.out.up hb)
  replace Na := hid (Na.out.up hb)
  replace Nb := hid (Nb.out.up hb)
  replace Ra := hid (Ra.out.up hb)
  replace Rb := hid (Rb.out.up hb)
  replace Q1 := hid (Q1.out.up hb)
  replace Q2 := hid (Q2.out.up hb)
  replace Q3 := hid (Q3.out.up hb)
  replace Q4 := hid (Q4.out.up hb)
  clear hb
  refine WE.pure (d := some 59) rfl rfl (by rfl) (v := (.agg #[.bool gb, .slice Ab nb cb])) (fun w' hk => ?_) ?_
  · have c0 := hk.cell (Bb.out.cell (o := 0) (v := .bool gb) rfl); have c1 := hk.cell (Bb.out.cell (o := 1) (v := .slice Ab nb cb) rfl); go_simp
  simp only [Act.put, List.setIfInBounds_toArray, List.set_cons_zero, List.set_cons_succ]
  refine WE.call (d := some 60) rfl rfl (by rfl) (f := 24) (args := #[(.agg #[.bool gb, .slice Ab nb cb])]) (by go_simp) ?_
  refine (sign_e Rb.out (s := sb) (HSB.out)).mono ?_
  rintro e wn ⟨rfl, hb⟩
  refine ⟨_, rfl, hb, ?_⟩
  replace E := hid (E.out.trans hb)
  replace Ba := hid (Ba.out.up hb)
  replace Bb := hid (Bb.out.up hb)
  replace V5 := hid (V5.out.up hb)
  replace V6 := hid (V6.out.up hb)
  replace V7 := hid (V7.out.up hb)
  replace V8 := hid (V8.out.up hb)
  replace Na := hid (Na.out.up hb)
  replace Nb := hid (Nb.out.up hb)
  replace Ra := hid (Ra.out.up hb)
  replace Rb := hid (Rb.out.up hb)
  replace Q1 := hid (Q1.out.up hb)
  replace Q2 := hid (Q2.out.up hb)
  replace Q3 := hid (Q3.out.up hb)
  replace Q4 := hid (Q4.out.up hb)
  clear hb
  simp only [Act.put, List.setIfInBounds_toArray, List.set_cons_zero, List.set_cons_succ]
  refine WE.pure (d := some 61) rfl rfl (by rfl) (v := (.bool false)) (fun w' hk => ?_) ?_
  · go_simp
  simp only [Act.put, List.setIfInBounds_toArray, List.set_cons_zero, List.set_cons_succ]
  refine WE.done ?_
  go_upto_region 11 with (fail)
  refine wp_region_E [(0, 0), (1, 1), (2, 0), (3, 0), (4, 0), (5, 0), (6, 1), (7, 1), (8, 0), (9, 0)] (fun _ => (0, #[])) rfl (by kernel_rfl) (by intro j hj; cases hj) (fun _ _ d _ _ => by cases d <;> exact Iff.rfl) fun wd hb => ?_
  replace E := hid (E.out.trans hb)
  replace Ba := hid (Ba.out.up hb)
  replace Bb := hid (Bb.out.up hb)
  replace V5 := hid (V5.out.up hb)
  replace V6 := hid (V6.out.up hb)
  replace V7 := hid (V7.out.up hb)
  replace V8 := hid (V8.out.up hb)
  replace Na := hid (Na.out.up hb)
  replace Nb := hid (Nb.out.up hb)
  replace Ra := hid (Ra.out.up hb)
  replace Rb := hid (Rb.out.up hb)
  replace Q1 := hid (Q1.out.up hb)
  replace Q2 := hid (Q2.out.up hb)
  replace Q3 := hid (Q3.out.up hb)
  replace Q4 := hid (Q4.out.up hb)
  clear hb
  refine WE.pure (d := some 70) rfl rfl (by rfl) (v := (.agg #[.bool g4, .slice A4 n4 c4])) (fun w' hk => ?_) ?_
  · have c0 := hk.cell (V8.out.cell (o := 0) (v := .bool g4) rfl); have c1 := hk.cell (V8.out.cell (o := 1) (v := .slice A4 n4 c4) rfl); go_simp
  simp only [Act.put, List.setIfInBounds_toArray, List.set_cons_zero, List.set_cons_succ]
  refine WE.call (d := some 71) rfl rfl (by rfl) (f := 24) (args := #[(.agg #[.bool g4, .slice A4 n4 c4])]) (by go_simp) ?_
  refine (sign_e Q4.out.worth (s := ss) (HSS.out)).mono ?_
  rintro e wn ⟨rfl, hb⟩
  refine ⟨_, rfl, hb, ?_⟩
  replace E := hid (E.out.trans hb)
  replace Ba := hid (Ba.out.up hb)
  replace Bb := hid (Bb.out.up hb)
  replace V5 := hid (V5.out.up hb)
  replace V6 := hid (V6.out.up hb)
  replace V7 := hid (V7.out.up hb)
  replace V8 := hid (V8.out.up hb)
  replace Na := hid (Na.out.up hb)
  replace Nb := hid (Nb.out.up hb)
  replace Ra := hid (Ra.out.up hb)
  replace Rb := hid (Rb.out.up hb)
  replace Q1 := hid (Q1.out.up hb)
  replace Q2 := hid (Q2.out.up hb)
  replace Q3 := hid (Q3.out.up hb)
  replace Q4 := hid (Q4.out.up hb)
  clear hb
  simp only [Act.put, List.setIfInBounds_toArray, List.set_cons_zero, List.set_cons_succ]
  refine WE.pure (d := some 72) rfl rfl (by rfl) (v := (.bool false)) (fun w' hk => ?_) ?_
  · go_simp
  simp only [Act.put, List.setIfInBounds_toArray, List.set_cons_zero, List.set_cons_succ]
  refine WE.pure (d := some 73) rfl rfl (by rfl) (v := (.bool false)) (fun w' hk => ?_) ?_
  · go_simp
  simp only [Act.put, List.setIfInBounds_toArray, List.set_cons_zero, List.set_cons_succ]
  refine WE.pure (d := some 74) rfl rfl (by rfl) (v := (.agg #[.bool g4, .slice A4 n4 c4])) (fun w' hk => ?_) ?_
  · have c0 := hk.cell (V8.out.cell (o := 0) (v := .bool g4) rfl); have c1 := hk.cell (V8.out.cell (o := 1) (v := .slice A4 n4 c4) rfl); go_simp
  simp only [Act.put, List.setIfInBounds_toArray, List.set_cons_zero, List.set_cons_succ]
  refine WE.pure (d := some 75) rfl rfl (by rfl) (v := (.agg #[.bool gb, .slice Ab nb cb])) (fun w' hk => ?_) ?_
  · have c0 := hk.cell (Bb.out.cell (o := 0) (v := .bool gb) rfl); have c1 := hk.cell (Bb.out.cell (o := 1) (v := .slice Ab nb cb) rfl); go_simp
  simp only [Act.put, List.setIfInBounds_toArray, List.set_cons_zero, List.set_cons_succ]
  refine WE.call (d := some 76) rfl rfl (by rfl) (f := 32) (args := #[(.agg #[.bool gb, .slice Ab nb cb])]) (by go_simp) ?_
  refine (abs_w Rb.out (by omega)).mono ?_
  rintro e wn ⟨v1, rfl, x1, hb⟩
  obtain ⟨g9, A9, n9, c9, rfl⟩ := x1.shape
  refine ⟨_, rfl, hb, ?_⟩
  replace E := hid (E.out.trans hb)
  replace Ba := hid (Ba.out.up hb)
  replace Bb := hid (Bb.out.up hb)
  replace V5 := hid (V5.out.up hb)
  replace V6 := hid (V6.out.up hb)
  replace V7 := hid (V7.out.up hb)
  replace V8 := hid (V8.out.up hb)
  replace Na := hid (Na.out.up hb)
  replace Nb := hid (Nb.out.up hb)
  replace Ra := hid (Ra.out.up hb)
  replace Rb := hid (Rb.out.up hb)
  replace Q1 := hid (Q1.out.up hb)
  replace Q2 := hid (Q2.out.up hb)
  replace Q3 := hid (Q3.out.up hb)
  replace Q4 := hid (Q4.out.up hb)
  have Q9 := hid x1
  clear hb x1
  simp only [Act.put, List.setIfInBounds_toArray, List.set_cons_zero, List.set_cons_succ]
  refine WE.call (d := some 77) rfl rfl (by rfl) (f := 26) (args := #[(.agg #[.bool g4, .slice A4 n4 c4]), (.agg #[.bool g9, .slice A9 n9 c9])]) (by go_simp) ?_
  refine (cmp_w Q4.out.worth Q9.out.worth (z := (-1)) (HC1.out)).mono ?_
  rintro e wn ⟨rfl, hb⟩
  refine ⟨_, rfl, hb, ?_⟩
  replace E := hid (E.out.trans hb)
  replace Ba := hid (Ba.out.up hb)
  replace Bb := hid (Bb.out.up hb)
  replace V5 := hid (V5.out.up hb)
  replace V6 := hid (V6.out.up hb)
  replace V7 := hid (V7.out.up hb)
  replace V8 := hid (V8.out.up hb)
  replace Na := hid (Na.out.up hb)
  replace Nb := hid (Nb.out.up hb)
  replace Ra := hid (Ra.out.up hb)
  replace Rb := hid (Rb.out.up hb)
  replace Q1 := hid (Q1.out.up hb)
  replace Q2 := hid (Q2.out.up hb)
  replace Q3 := hid (Q3.out.up hb)
  replace Q4 := hid (Q4.out.up hb)
  replace Q9 := hid (Q9.out.up hb)
  clear hb
  simp only [Act.put, List.setIfInBounds_toArray, List.set_cons_zero, List.set_cons_succ]
  clear Q9
  refine WE.pure (d := some 78) rfl rfl (by rfl) (v := (.bool false)) (fun w' hk => ?_) ?_
  · go_simp
  simp only [Act.put, List.setIfInBounds_toArray, List.set_cons_zero, List.set_cons_succ]
  refine WE.pure (d := some 79) rfl rfl (by rfl) (v := (.bool false)) (fun w' hk => ?_) ?_
  · go_simp
  simp only [Act.put, List.setIfInBounds_toArray, List.set_cons_zero, List.set_cons_succ]
  refine WE.done ?_
  go_upto_region 13 with (fail)
  refine wp_region_E [(0, 0), (1, 1), (2, 0), (3, 0), (4, 0), (6, 0), (5, 1), (7, 1), (8, 0), (9, 0), (10, 0), (12, 0), (11, 1), (13, 1), (14, 1), (15, 0), (16, 0), (17, 0), (18, 0)] (fun _ => (0, #[])) rfl (by kernel_rfl) (by intro j hj; cases hj) (fun _ _ d _ _ => by cases d <;> exact Iff.rfl) fun wd hb => ?_
  replace E := hid (E.out.trans hb)
  replace Ba := hid (Ba.out.up hb)
  replace Bb := hid (Bb.out.up hb)
  replace V5 := hid (V5.out.up hb)
  replace V6 := hid (V6.out.up hb)
  replace V7 := hid (V7.out.up hb)
  replace V8 := hid (V8.out.up hb)
  replace Na := hid (Na.out.up hb)
  replace Nb := hid (Nb.out.up hb)
  replace Ra := hid (Ra.out.up hb)
  replace Rb := hid (Rb.out.up hb)
  replace Q1 := hid (Q1.out.up hb)
  replace Q2 := hid (Q2.out.up hb)
  replace Q3 := hid (Q3.out.up hb)
  replace Q4 := hid (Q4.out.up hb)
  clear hb
  refine WE.pure (d := some 80) rfl rfl (by rfl) (v := (.agg #[.bool g2, .slice A2 n2 c2])) (fun w' hk => ?_) ?_
  · have c0 := hk.cell (V6.out.cell (o := 0) (v := .bool g2) rfl); have c1 := hk.cell (V6.out.cell (o := 1) (v := .slice A2 n2 c2) rfl); go_simp
  simp only [Act.put, List.setIfInBounds_toArray, List.set_cons_zero, List.set_cons_succ]
  refine WE.call (d := some 81) rfl rfl (by rfl) (f := 24) (args := #[(.agg #[.bool g2, .slice A2 n2 c2])]) (by go_simp) ?_
  refine (sign_e Q2.out.worth (s := 0) (by rw [hcond.out.2]; rfl)).mono ?_
  rintro e wn ⟨rfl, hb⟩
  refine ⟨_, rfl, hb, ?_⟩
  replace E := hid (E.out.trans hb)
  replace Ba := hid (Ba.out.up hb)
  replace Bb := hid (Bb.out.up hb)
  replace V5 := hid (V5.out.up hb)
  replace V6 := hid (V6.out.up hb)
  replace V7 := hid (V7.out.up hb)
  replace V8 := hid (V8.out.up hb)
  replace Na := hid (Na.out.up hb)
  replace Nb := hid (Nb.out.up hb)
  replace Ra := hid (Ra.out.up hb)
  replace Rb := hid (Rb.out.up hb)
  replace Q1 := hid (Q1.out.up hb)
  replace Q2 := hid (Q2.out.up hb)
  replace Q3 := hid (Q3.out.up hb)
  replace Q4 := hid (Q4.out.up hb)
  clear hb
  simp only [Act.put, List.setIfInBounds_toArray, List.set_cons_zero, List.set_cons_succ]
  refine WE.pure (d := some 82) rfl rfl (by rfl) (v := (.bool true)) (fun w' hk => ?_) ?_
  · go_simp
  simp only [Act.put, List.setIfInBounds_toArray, List.set_cons_zero, List.set_cons_succ]
  refine WE.pure (d := some 83) rfl rfl (by rfl) (v := (.bool true)) (fun w' hk => ?_) ?_
  · go_simp
  simp only [Act.put, List.setIfInBounds_toArray, List.set_cons_zero, List.set_cons_succ]
  refine WE.skip (d := some 84) rfl rfl (by rfl) ?_
  simp only [Act.put, List.setIfInBounds_toArray, List.set_cons_zero, List.set_cons_succ]
  refine WE.skip (d := some 86) rfl rfl (by rfl) ?_
  simp only [Act.put, List.setIfInBounds_toArray, List.set_cons_zero, List.set_cons_succ]
  refine WE.pass (d := some 85) rfl rfl (by rfl) ?_
  simp only [Act.put, List.setIfInBounds_toArray, List.set_cons_zero, List.set_cons_succ]
  refine WE.pass (d := some 87) rfl rfl (by rfl) ?_
  simp only [Act.put, List.setIfInBounds_toArray, List.set_cons_zero, List.set_cons_succ]
  refine WE.skip (d := some 88) rfl rfl (by rfl) ?_
  simp only [Act.put, List.setIfInBounds_toArray, List.set_cons_zero, List.set_cons_succ]
  refine WE.skip (d := some 89) rfl rfl (by rfl) ?_
  simp only [Act.put, List.setIfInBounds_toArray, List.set_cons_zero, List.set_cons_succ]
  refine WE.skip (d := some 90) rfl rfl (by rfl) ?_
  simp only [Act.put, List.setIfInBounds_toArray, List.set_cons_zero, List.set_cons_succ]
  refine WE.skip (d := some 92) rfl rfl (by rfl) ?_
  simp only [Act.put, List.setIfInBounds_toArray, List.set_cons_zero, List.set_cons_succ]
  refine WE.pass (d := some 91) rfl rfl (by rfl) ?_
  simp only [Act.put, List.setIfInBounds_toArray, List.set_cons_zero, List.set_cons_succ]
  refine WE.pass (d := some 93) rfl rfl (by rfl) ?_
  simp only [Act.put, List.setIfInBounds_toArray, List.set_cons_zero, List.set_cons_succ]
  refine WE.pass (d := some 94) rfl rfl (by rfl) ?_
  simp only [Act.put, List.setIfInBounds_toArray, List.set_cons_zero, List.set_cons_succ]
  refine WE.skip (d := some 95) rfl rfl (by rfl) ?_
  simp only [Act.put, List.setIfInBounds_toArray, List.set_cons_zero, List.set_cons_succ]
  refine WE.skip (d := some 96) rfl rfl (by rfl) ?_
  simp only [Act.put, List.setIfInBounds_toArray, List.set_cons_zero, List.set_cons_succ]
  refine WE.pure (d := some 97) rfl rfl (by rfl) (v := (.bool true)) (fun w' hk => ?_) ?_
  · go_simp
  simp only [Act.put, List.setIfInBounds_toArray, List.set_cons_zero, List.set_cons_succ]
  refine WE.pure (d := some 4) rfl rfl (by rfl) (v := (.bool true)) (fun w' hk => ?_) ?_
  · go_simp
  simp only [Act.put, List.setIfInBounds_toArray, List.set_cons_zero, List.set_cons_succ]
  refine WE.done ?_
  go_wp2
  go_ret
  exact ⟨rfl, E.out⟩

set_option maxHeartbeats 8000000 in
theorem wholeDivides_rest (W : World) (ga : Bool) (Aa : Option Addr) (na ca : Nat) (la : List Nat) (ha : Num W W.heap.size (.slice Aa na ca) la) (gb : Bool) (Ab : Option Addr) (nb cb : Nat) (lb : List Nat) (hb : Num W W.heap.size (.slice Ab nb cb) lb) (fa : Hid (decide (la.length ≤ 8) = true)) (fb : Hid (decide (lb.length ≤ 8) = true)) (ia : Hid (M.isZ ga la = true)) (ib : Hid (M.isZ gb lb = true)) (x : Int) (HX : Hid (x = M.zv ga la)) (y : Int) (HY : Hid (y = M.zv gb lb)) (hcond : Hid (y ≠ 0 ∧ x.fmod y ≠ 0)) :
    Calls Try.prog 5 #[.agg #[.bool ga, .slice Aa na ca], .agg #[.bool gb, .slice Ab nb cb]] W (fun e w' => e = .returned (.bool true) ∧ Ext W w') := by
  obtain ⟨sb, hsb⟩ : ∃ s : Int, y.sign = s := ⟨_, rfl⟩
  obtain ⟨ss, hss⟩ : ∃ s : Int, (x % y).sign = s := ⟨_, rfl⟩
  have HSB := hid hsb
  have HSS := hid hss
  have hyn : y ≠ 0 := by have := hcond.out; first | exact this.1 | exact this
  have hsb0 : (sb == 0) = false := by rw [← hsb]; simpa using hyn
  have hss0 : decide (ss < 0) = false := by have h1 := Int.emod_nonneg x hyn; rw [← hss]; have := Int.sign_nonneg_iff.2 h1; simpa using this
  have HC1 := hid (show M.zcmp (x % y) (y.natAbs : Int) = -1 from M.zcmp_lt (by have := Int.emod_lt_abs_natAbs x hyn; exact this))
  obtain ⟨sr, hsr⟩ : ∃ s : Int, (x.fmod y).sign = s := ⟨_, rfl⟩
  have HSR := hid hsr
  have hsr0 : (sr == 0) = false := by rw [← hsr]; simpa using hcond.out.2
  have hsrb : (sr == sb) = true := by rw [← hsr, ← hsb, fmod_sign hyn hcond.out.2]; simp
  have HC2 := hid (show M.zcmp ((x.fmod y).natAbs : Int) (y.natAbs : Int) = -1 from M.zcmp_lt (by have := fmod_natAbs_lt x hyn; omega))
  clear hsb hss hyn hsr
  have Na := hid ha
  have Nb := hid hb
  have Ra := hid (worth_of ha (of_decide_eq_true fa.out) HX.out)
  have Rb := hid (worth_of hb (of_decide_eq_true fb.out) HY.out)
  clear ha hb
  go_enter Try.func5, Try.ntmps5
  go_upto_region 1 with (fail)
  have E := hid (((Ext.refl W).alloc' (.cells #[.bool ga, .slice Aa na ca] 24)).alloc' (.cells #[.bool gb, .slice Ab nb cb] 24))
  have Ba : Hid (Box ((W.alloc (.cells #[.bool ga, .slice Aa na ca] 24)).alloc (.cells #[.bool gb, .slice Ab nb cb] 24)) (W.heap.size) #[.bool ga, .slice Aa na ca] 24) := hid ((Box.at_ (w := W) #[.bool ga, .slice Aa na ca] 24 (by simp)).alloc (.cells #[.bool gb, .slice Ab nb cb] 24))
  have Bb : Hid (Box ((W.alloc (.cells #[.bool ga, .slice Aa na ca] 24)).alloc (.cells #[.bool gb, .slice Ab nb cb] 24)) (W.heap.size + 1) #[.bool gb, .slice Ab nb cb] 24) := hid (Box.at_ (w := (W.alloc (.cells #[.bool ga, .slice Aa na ca] 24))) #[.bool gb, .slice Ab nb cb] 24 (by simp))
  replace Na := hid (Na.out.up E.out)
  replace Nb := hid (Nb.out.up E.out)
  replace Ra := hid (Ra.out.up E.out)
  replace Rb := hid (Rb.out.up E.out)
  go_upto_region 1 with (fail)
  refine wp_region_T [(0, 1), (1, 0)] (by kernel_rfl) fun wd hb => ?_
  replace E := hid (E.out.trans hb)
  replace Ba := hid (Ba.out.up hb)
  replace Bb := hid (Bb.out.up hb)
  replace Na := hid (Na.out.up hb)
  replace Nb := hid (Nb.out.up hb)
  replace Ra := hid (Ra.out.up hb)
  replace Rb := hid (Rb.out.up hb)
  clear hb
  refine WE.call (d := some 9) rfl rfl (by rfl) (f := 11) (args := #[]) (by go_simp) ?_
  refine (known2 _).mono ?_
  rintro e wn ⟨rfl, hb⟩
  refine ⟨_, rfl, hb, ?_⟩
  replace E := hid (E.out.trans hb)
  replace Ba := hid (Ba.out.up hb)
  replace Bb := hid (Bb.out.up hb)
  replace Na := hid (Na.out.up hb)
  replace Nb := hid (Nb.out.up hb)
  replace Ra := hid (Ra.out.up hb)
  replace Rb := hid (Rb.out.up hb)
  clear hb
  simp only [Act.put, List.setIfInBounds_toArray, List.set_cons_zero, List.set_cons_succ]
  refine WE.pure (d := some 10) rfl rfl (by rfl) (v := (.bool false)) (fun w' hk => ?_) ?_
  · go_simp
  simp only [Act.put, List.setIfInBounds_toArray, List.set_cons_zero, List.set_cons_succ]
  refine WE.done ?_
  go_upto_region 3 with (fail)
  refine wp_region_T [(0, 0), (1, 1), (2, 0), (3, 0), (4, 0), (5, 1), (6, 0), (7, 0), (8, 0), (9, 0), (10, 1), (11, 0), (12, 0), (13, 0), (14, 0), (15, 1), (16, 0), (17, 0)] (by kernel_rfl) fun wd hb => ?_
  replace E := hid (E.out.trans hb)
  replace Ba := hid (Ba.out.up hb)
  replace Bb := hid (Bb.out.up hb)
  replace Na := hid (Na.out.up hb)
  replace Nb := hid (Nb.out.up hb)
  replace Ra := hid (Ra.out.up hb)
  replace Rb := hid (Rb.out.up hb)
  clear hb
  refine WE.pure (d := some 11) rfl rfl (by rfl) (v := (.agg #[.bool ga, .slice Aa na ca])) (fun w' hk => ?_) ?_
  · have c0 := hk.cell (Ba.out.cell (o := 0) (v := .bool ga) rfl); have c1 := hk.cell (Ba.out.cell (o := 1) (v := .slice Aa na ca) rfl); go_simp
  simp only [Act.put, List.setIfInBounds_toArray, List.set_cons_zero, List.set_cons_succ]
  refine WE.call (d := some 12) rfl rfl (by rfl) (f := 12) (args := #[(.agg #[.bool ga, .slice Aa na ca])]) (by go_simp) ?_
  refine (few_z Na.out fa.out).mono ?_
  rintro e wn ⟨rfl, hb⟩
  refine ⟨_, rfl, hb, ?_⟩
  replace E := hid (E.out.trans hb)
  replace Ba := hid (Ba.out.up hb)
  replace Bb := hid (Bb.out.up hb)
  replace Na := hid (Na.out.up hb)
  replace Nb := hid (Nb.out.up hb)
  replace Ra := hid (Ra.out.up hb)
  replace Rb := hid (Rb.out.up hb)
  clear hb
  simp only [Act.put, List.setIfInBounds_toArray, List.set_cons_zero, List.set_cons_succ]
  refine WE.pure (d := some 13) rfl rfl (by rfl) (v := (.bool false)) (fun w' hk => ?_) ?_
  · go_simp
  simp only [Act.put, List.setIfInBounds_toArray, List.set_cons_zero, List.set_cons_succ]
  refine WE.pure (d := some 14) rfl rfl (by rfl) (v := (.bool false)) (fun w' hk => ?_) ?_
  · go_simp
  simp only [Act.put, List.setIfInBounds_toArray, List.set_cons_zero, List.set_cons_succ]
  refine WE.pure (d := some 15) rfl rfl (by rfl) (v := (.agg #[.bool gb, .slice Ab nb cb])) (fun w' hk => ?_) ?_
  · have c0 := hk.cell (Bb.out.cell (o := 0) (v := .bool gb) rfl); have c1 := hk.cell (Bb.out.cell (o := 1) (v := .slice Ab nb cb) rfl); go_simp
  simp only [Act.put, List.setIfInBounds_toArray, List.set_cons_zero, List.set_cons_succ]
  refine WE.call (d := some 16) rfl rfl (by rfl) (f := 12) (args := #[(.agg #[.bool gb, .slice Ab nb cb])]) (by go_simp) ?_
  refine (few_z Nb.out fb.out).mono ?_
  rintro e wn ⟨rfl, hb⟩
  refine ⟨_, rfl, hb, ?_⟩
  replace E := hid (E.out.trans hb)
  replace Ba := hid (Ba.out.up hb)
  replace Bb := hid (Bb.out.up hb)
  replace Na := hid (Na.out.up hb)
  replace Nb := hid (Nb.out.up hb)
  replace Ra := hid (Ra.out.up hb)
  replace Rb := hid (Rb.out.up hb)
  clear hb
  simp only [Act.put, List.setIfInBounds_toArray, List.set_cons_zero, List.set_cons_succ]
  refine WE.pure (d := some 17) rfl rfl (by rfl) (v := (.bool false)) (fun w' hk => ?_) ?_
  · go_simp
  simp only [Act.put, List.setIfInBounds_toArray, List.set_cons_zero, List.set_cons_succ]
  refine WE.pure (d := some 18) rfl rfl (by rfl) (v := (.bool false)) (fun w' hk => ?_) ?_
  · go_simp
  simp only [Act.put, List.setIfInBounds_toArray, List.set_cons_zero, List.set_cons_succ]
  refine WE.pure (d := some 19) rfl rfl (by rfl) (v := (.bool false)) (fun w' hk => ?_) ?_
  · go_simp
  simp only [Act.put, List.setIfInBounds_toArray, List.set_cons_zero, List.set_cons_succ]
  refine WE.pure (d := some 20) rfl rfl (by rfl) (v := (.agg #[.bool ga, .slice Aa na ca])) (fun w' hk => ?_) ?_
  · have c0 := hk.cell (Ba.out.cell (o := 0) (v := .bool ga) rfl); have c1 := hk.cell (Ba.out.cell (o := 1) (v := .slice Aa na ca) rfl); go_simp
  simp only [Act.put, List.setIfInBounds_toArray, List.set_cons_zero, List.set_cons_succ]
  refine WE.call (d := some 21) rfl rfl (by rfl) (f := 19) (args := #[(.agg #[.bool ga, .slice Aa na ca])]) (by go_simp) ?_
  refine (wIs_any Na.out ia.out).mono ?_
  rintro e wn ⟨rfl, hb⟩
  refine ⟨_, rfl, hb, ?_⟩
  replace E := hid (E.out.trans hb)
  replace Ba := hid (Ba.out.up hb)
  replace Bb := hid (Bb.out.up hb)
  replace Na := hid (Na.out.up hb)
  replace Nb := hid (Nb.out.up hb)
  replace Ra := hid (Ra.out.up hb)
  replace Rb := hid (Rb.out.up hb)
  clear hb
  simp only [Act.put, List.setIfInBounds_toArray, List.set_cons_zero, List.set_cons_succ]
  refine WE.pure (d := some 22) rfl rfl (by rfl) (v := (.bool false)) (fun w' hk => ?_) ?_
  · go_simp
  simp only [Act.put, List.setIfInBounds_toArray, List.set_cons_zero, List.set_cons_succ]
  refine WE.pure (d := some 23) rfl rfl (by rfl) (v := (.bool false)) (fun w' hk => ?_) ?_
  · go_simp
  simp only [Act.put, List.setIfInBounds_toArray, List.set_cons_zero, List.set_cons_succ]
  refine WE.pure (d := some 24) rfl rfl (by rfl) (v := (.bool false)) (fun w' hk => ?_) ?_
  · go_simp
  simp only [Act.put, List.setIfInBounds_toArray, List.set_cons_zero, List.set_cons_succ]
  refine WE.pure (d := some 25) rfl rfl (by rfl) (v := (.agg #[.bool gb, .slice Ab nb cb])) (fun w' hk => ?_) ?_
  · have c0 := hk.cell (Bb.out.cell (o := 0) (v := .bool gb) rfl); have c1 := hk.cell (Bb.out.cell (o := 1) (v := .slice Ab nb cb) rfl); go_simp
  simp only [Act.put, List.setIfInBounds_toArray, List.set_cons_zero, List.set_cons_succ]
  refine WE.call (d := some 26) rfl rfl (by rfl) (f := 19) (args := #[(.agg #[.bool gb, .slice Ab nb cb])]) (by go_simp) ?_
  refine (wIs_any Nb.out ib.out).mono ?_
  rintro e wn ⟨rfl, hb⟩
  refine ⟨_, rfl, hb, ?_⟩
  replace E := hid (E.out.trans hb)
  replace Ba := hid (Ba.out.up hb)
  replace Bb := hid (Bb.out.up hb)
  replace Na := hid (Na.out.up hb)
  replace Nb := hid (Nb.out.up hb)
  replace Ra := hid (Ra.out.up hb)
  replace Rb := hid (Rb.out.up hb)
  clear hb
  simp only [Act.put, List.setIfInBounds_toArray, List.set_cons_zero, List.set_cons_succ]
  refine WE.pure (d := some 27) rfl rfl (by rfl) (v := (.bool false)) (fun w' hk => ?_) ?_
  · go_simp
  simp only [Act.put, List.setIfInBounds_toArray, List.set_cons_zero, List.set_cons_succ]
  refine WE.pure (d := some 28) rfl rfl (by rfl) (v := (.bool false)) (fun w' hk => ?_) ?_
  · go_simp
  simp only [Act.put, List.setIfInBounds_toArray, List.set_cons_zero, List.set_cons_succ]
  refine WE.done ?_
  go_upto_region 5 with (fail)
  refine wp_region_T [(0, 0), (1, 0), (2, 1), (3, 0), (4, 0), (5, 0), (6, 1), (7, 1), (8, 4), (9, 4)] (by kernel_rfl) fun wd hb => ?_
  replace E := hid (E.out.trans hb)
  replace Ba := hid (Ba.out.up hb)
  replace Bb := hid (Bb.out.up hb)
  replace Na := hid (Na.out.up hb)
  replace Nb := hid (Nb.out.up hb)
  replace Ra := hid (Ra.out.up hb)
  replace Rb := hid (Rb.out.up hb)
  clear hb
  refine WE.pure (d := some 30) rfl rfl (by rfl) (v := (.agg #[.bool ga, .slice Aa na ca])) (fun w' hk => ?_) ?_
  · have c0 := hk.cell (Ba.out.cell (o := 0) (v := .bool ga) rfl); have c1 := hk.cell (Ba.out.cell (o := 1) (v := .slice Aa na ca) rfl); go_simp
  simp only [Act.put, List.setIfInBounds_toArray, List.set_cons_zero, List.set_cons_succ]
  refine WE.pure (d := some 31) rfl rfl (by rfl) (v := (.agg #[.bool gb, .slice Ab nb cb])) (fun w' hk => ?_) ?_
  · have c0 := hk.cell (Bb.out.cell (o := 0) (v := .bool gb) rfl); have c1 := hk.cell (Bb.out.cell (o := 1) (v := .slice Ab nb cb) rfl); go_simp
  simp only [Act.put, List.setIfInBounds_toArray, List.set_cons_zero, List.set_cons_succ]
  refine WE.call (d := some 32) rfl rfl (by rfl) (f := 13) (args := #[(.agg #[.bool ga, .slice Aa na ca]), (.agg #[.bool gb, .slice Ab nb cb])]) (by go_simp) ?_
  refine (floor_w Ra.out Rb.out (by omega) (by omega)).mono ?_
  rintro e wn ⟨v1, v2, rfl, x1, x2, hb⟩
  obtain ⟨g1, A1, n1, c1, rfl⟩ := x1.shape
  obtain ⟨g2, A2, n2, c2, rfl⟩ := x2.shape
  refine ⟨_, rfl, hb, ?_⟩
  replace E := hid (E.out.trans hb)
  replace Ba := hid (Ba.out.up hb)
  replace Bb := hid (Bb.out.up hb)
  replace Na := hid (Na.out.up hb)
  replace Nb := hid (Nb.out.up hb)
  replace Ra := hid (Ra.out.up hb)
  replace Rb := hid (Rb.out.up hb)
  have Q1 := hid x1
  have Q2 := hid x2
  clear hb x1 x2
  simp only [Act.put, List.setIfInBounds_toArray, List.set_cons_zero, List.set_cons_succ]
  refine WE.pure (d := some 29) rfl rfl (by rfl) (v := (.tuple #[(.agg #[.bool g1, .slice A1 n1 c1]), (.agg #[.bool g2, .slice A2 n2 c2])])) (fun w' hk => ?_) ?_
  · go_simp
  simp only [Act.put, List.setIfInBounds_toArray, List.set_cons_zero, List.set_cons_succ]
  refine WE.pure (d := some 33) rfl rfl (by rfl) (v := (.agg #[.bool g1, .slice A1 n1 c1])) (fun w' hk => ?_) ?_
  · go_simp
  simp only [Act.put, List.setIfInBounds_toArray, List.set_cons_zero, List.set_cons_succ]
  refine WE.pure (d := some 34) rfl rfl (by rfl) (v := (.agg #[.bool g2, .slice A2 n2 c2])) (fun w' hk => ?_) ?_
  · go_simp
  simp only [Act.put, List.setIfInBounds_toArray, List.set_cons_zero, List.set_cons_succ]
  refine WE.new (d := some 5) (cs := #[.bool false, .slice none 0 0]) (t := 24) (v := fun g => (.pointer (some ⟨g, 0, none⟩))) rfl rfl (by rfl) (fun w => by go_simp) fun gV5 wv hx0 hbox hge => ?_
  have HNV5Ba := hid (show gV5 ≠ (W.heap.size) by have := Ba.out.lt; omega)
  have HNV5Bb := hid (show gV5 ≠ (W.heap.size + 1) by have := Bb.out.lt; omega)
  have HGV5 := hid (show W.heap.size ≤ gV5 by have := E.out.size; omega)
  replace E := hid (E.out.trans hx0)
  replace Ba := hid (Ba.out.up hx0)
  replace Bb := hid (Bb.out.up hx0)
  replace Na := hid (Na.out.up hx0)
  replace Nb := hid (Nb.out.up hx0)
  replace Ra := hid (Ra.out.up hx0)
  replace Rb := hid (Rb.out.up hx0)
  replace Q1 := hid (Q1.out.up hx0)
  replace Q2 := hid (Q2.out.up hx0)
  have V5 : Hid (Box wv gV5 #[.bool false, .slice none 0 0] 24) := hid hbox
  clear hx0 hbox hge
  simp only [Act.put, List.setIfInBounds_toArray, List.set_cons_zero, List.set_cons_succ]
  refine WE.new (d := some 6) (cs := #[.bool false, .slice none 0 0]) (t := 24) (v := fun g => (.pointer (some ⟨g, 0, none⟩))) rfl rfl (by rfl) (fun w => by go_simp) fun gV6 wv hx0 hbox hge => ?_
  have HNV6Ba := hid (show gV6 ≠ (W.heap.size) by have := Ba.out.lt; omega)
  have HNV6Bb := hid (show gV6 ≠ (W.heap.size + 1) by have := Bb.out.lt; omega)
  have HNV6V5 := hid (show gV6 ≠ gV5 by have := V5.out.lt; omega)
  have HGV6 := hid (show W.heap.size ≤ gV6 by have := E.out.size; omega)
  replace E := hid (E.out.trans hx0)
  replace Ba := hid (Ba.out.up hx0)
  replace Bb := hid (Bb.out.up hx0)
  replace V5 := hid (V5.out.up hx0)
  replace Na := hid (Na.out.up hx0)
  replace Nb := hid (Nb.out.up hx0)
  replace Ra := hid (Ra.out.up hx0)
  replace Rb := hid (Rb.out.up hx0)
  replace Q1 := hid (Q1.out.up hx0)
  replace Q2 := hid (Q2.out.up hx0)
  have V6 : Hid (Box wv gV6 #[.bool false, .slice none 0 0] 24) := hid hbox
  clear hx0 hbox hge
  simp only [Act.put, List.setIfInBounds_toArray, List.set_cons_zero, List.set_cons_succ]
  refine WE.store2 (g := gV5) (x := .bool g1) (y := .slice A1 n1 c1) (t := 24) rfl rfl (by rfl) (fun w hb => ?_) V5.out (by rfl) fun ws hk hs => ?_
  · have c0 := hb.cell (o := 0) (v := .bool false) rfl; have f0 := hb.free 0; have c1 := hb.cell (o := 1) (v := .slice none 0 0) rfl; have f1 := hb.free 1; go_simp
  intro hbx
  replace E := hid (E.out.keptG hk HGV5.out)
  replace Ba := hid (Ba.out.kept hk (by simpa using HNV5Ba.out.symm))
  replace Bb := hid (Bb.out.kept hk (by simpa using HNV5Bb.out.symm))
  replace V5 := hid hbx
  replace V6 := hid (V6.out.kept hk (by simpa using HNV6V5.out))
  replace Na := hid (Na.out.kz hs)
  replace Nb := hid (Nb.out.kz hs)
  replace Ra := hid (Ra.out.kz hs)
  replace Rb := hid (Rb.out.kz hs)
  replace Q1 := hid (Q1.out.kz hs)
  replace Q2 := hid (Q2.out.kz hs)
  clear hk hs hbx
  refine WE.store2 (g := gV6) (x := .bool g2) (y := .slice A2 n2 c2) (t := 24) rfl rfl (by rfl) (fun w hb => ?_) V6.out (by rfl) fun ws hk hs => ?_
  · have c0 := hb.cell (o := 0) (v := .bool false) rfl; have f0 := hb.free 0; have c1 := hb.cell (o := 1) (v := .slice none 0 0) rfl; have f1 := hb.free 1; go_simp
  intro hbx
  replace E := hid (E.out.keptG hk HGV6.out)
  replace Ba := hid (Ba.out.kept hk (by simpa using HNV6Ba.out.symm))
  replace Bb := hid (Bb.out.kept hk (by simpa using HNV6Bb.out.symm))
  replace V5 := hid (V5.out.kept hk (by simpa using HNV6V5.out.symm))
  replace V6 := hid hbx
  replace Na := hid (Na.out.kz hs)
  replace Nb := hid (Nb.out.kz hs)
  replace Ra := hid (Ra.out.kz hs)
  replace Rb := hid (Rb.out.kz hs)
  replace Q1 := hid (Q1.out.kz hs)
  replace Q2 := hid (Q2.out.kz hs)
  clear hk hs hbx
  refine WE.done ?_
  go_upto_region 6 with (fail)
  refine wp_region_T [(0, 0), (1, 0), (2, 1), (3, 0), (4, 0), (5, 0), (6, 1), (7, 1), (8, 4), (9, 4)] (by kernel_rfl) fun wd hb => ?_
  replace E := hid (E.out.trans hb)
  replace Ba := hid (Ba.out.up hb)
  replace Bb := hid (Bb.out.up hb)
  replace V5 := hid (V5.out.up hb)
  replace V6 := hid (V6.out.up hb)
  replace Na := hid (Na.out.up hb)
  replace Nb := hid (Nb.out.up hb)
  replace Ra := hid (Ra.out.up hb)
  replace Rb := hid (Rb.out.up hb)
  replace Q1 := hid (Q1.out.up hb)
  replace Q2 := hid (Q2.out.up hb)
  clear hb
  refine WE.pure (d := some 36) rfl rfl (by rfl) (v := (.agg #[.bool ga, .slice Aa na ca])) (fun w' hk => ?_) ?_
  · have c0 := hk.cell (Ba.out.cell (o := 0) (v := .bool ga) rfl); have c1 := hk.cell (Ba.out.cell (o := 1) (v := .slice Aa na ca) rfl); go_simp
  simp only [Act.put, List.setIfInBounds_toArray, List.set_cons_zero, List.set_cons_succ]
  refine WE.pure (d := some 37) rfl rfl (by rfl) (v := (.agg #[.bool gb, .slice Ab nb cb])) (fun w' hk => ?_) ?_
  · have c0 := hk.cell (Bb.out.cell (o := 0) (v := .bool gb) rfl); have c1 := hk.cell (Bb.out.cell (o := 1) (v := .slice Ab nb cb) rfl); go_simp
  simp only [Act.put, List.setIfInBounds_toArray, List.set_cons_zero, List.set_cons_succ]
  refine WE.call (d := some 38) rfl rfl (by rfl) (f := 15) (args := #[(.agg #[.bool ga, .slice Aa na ca]), (.agg #[.bool gb, .slice Ab nb cb])]) (by go_simp) ?_
  refine (euclid_w Ra.out Rb.out (by omega) (by omega)).mono ?_
  rintro e wn ⟨v1, v2, rfl, x1, x2, hb⟩
  obtain ⟨g3, A3, n3, c3, rfl⟩ := x1.shape
  obtain ⟨g4, A4, n4, c4, rfl⟩ := x2.shape
  refine ⟨_, rfl, hb, ?_⟩
  replace E := hid (E.out.trans hb)
  replace Ba := hid (Ba.out.up hb)
  replace Bb := hid (Bb.out.up hb)
  replace V5 := hid (V5.out.up hb)
  replace V6 := hid (V6.out.up hb)
  replace Na := hid (Na.out.up hb)
  replace Nb := hid (Nb.out.up hb)
  replace Ra := hid (Ra.out.up hb)
  replace Rb := hid (Rb.out.up hb)
  replace Q1 := hid (Q1.out.up hb)
  replace Q2 := hid (Q2.out.up hb)
  have Q3 := hid x1
  have Q4 := hid x2
  clear hb x1 x2
  simp only [Act.put, List.setIfInBounds_toArray, List.set_cons_zero, List.set_cons_succ]
  refine WE.pure (d := some 35) rfl rfl (by rfl) (v := (.tuple #[(.agg #[.bool g3, .slice A3 n3 c3]), (.agg #[.bool g4, .slice A4 n4 c4])])) (fun w' hk => ?_) ?_
  · go_simp
  simp only [Act.put, List.setIfInBounds_toArray, List.set_cons_zero, List.set_cons_succ]
  refine WE.pure (d := some 39) rfl rfl (by rfl) (v := (.agg #[.bool g3, .slice A3 n3 c3])) (fun w' hk => ?_) ?_
  · go_simp
  simp only [Act.put, List.setIfInBounds_toArray, List.set_cons_zero, List.set_cons_succ]
  refine WE.pure (d := some 40) rfl rfl (by rfl) (v := (.agg #[.bool g4, .slice A4 n4 c4])) (fun w' hk => ?_) ?_
  · go_simp
  simp only [Act.put, List.setIfInBounds_toArray, List.set_cons_zero, List.set_cons_succ]
  refine WE.new (d := some 7) (cs := #[.bool false, .slice none 0 0]) (t := 24) (v := fun g => (.pointer (some ⟨g, 0, none⟩))) rfl rfl (by rfl) (fun w => by go_simp) fun gV7 wv hx0 hbox hge => ?_
  have HNV7Ba := hid (show gV7 ≠ (W.heap.size) by have := Ba.out.lt; omega)
  have HNV7Bb := hid (show gV7 ≠ (W.heap.size + 1) by have := Bb.out.lt; omega)
  have HNV7V5 := hid (show gV7 ≠ gV5 by have := V5.out.lt; omega)
  have HNV7V6 := hid (show gV7 ≠ gV6 by have := V6.out.lt; omega)
  have HGV7 := hid (show W.heap.size ≤ gV7 by have := E.out.size; omega)
  replace E := hid (E.out.trans hx0)
  replace Ba := hid (Ba.out.up hx0)
  replace Bb := hid (Bb.out.up hx0)
  replace V5 := hid (V5.out.up hx0)
  replace V6 := hid (V6.out.up hx0)
  replace Na := hid (Na.out.up hx0)
  replace Nb := hid (Nb.out.up hx0)
  replace Ra := hid (Ra.out.up hx0)
  replace Rb := hid (Rb.out.up hx0)
  replace Q1 := hid (Q1.out.up hx0)
  replace Q2 := hid (Q2.out.up hx0)
  replace Q3 := hid (Q3.out.up hx0)
  replace Q4 := hid (Q4.out.up hx0)
  have V7 : Hid (Box wv gV7 #[.bool false, .slice none 0 0] 24) := hid hbox
  clear hx0 hbox hge
  simp only [Act.put, List.setIfInBounds_toArray, List.set_cons_zero, List.set_cons_succ]
  refine WE.new (d := some 8) (cs := #[.bool false, .slice none 0 0]) (t := 24) (v := fun g => (.pointer (some ⟨g, 0, none⟩))) rfl rfl (by rfl) (fun w => by go_simp) fun gV8 wv hx0 hbox hge => ?_
  have HNV8Ba := hid (show gV8 ≠ (W.heap.size) by have := Ba.out.lt; omega)
  have HNV8Bb := hid (show gV8 ≠ (W.heap.size + 1) by have := Bb.out.lt; omega)
  have HNV8V5 := hid (show gV8 ≠ gV5 by have := V5.out.lt; omega)
  have HNV8V6 := hid (show gV8 ≠ gV6 by have := V6.out.lt; omega)
  have HNV8V7 := hid (show gV8 ≠ gV7 by have := V7.out.lt; omega)
  have HGV8 := hid (show W.heap.size ≤ gV8 by have := E.out.size; omega)
  replace E := hid (E.out.trans hx0)
  replace Ba := hid (Ba.out.up hx0)
  replace Bb := hid (Bb.out.up hx0)
  replace V5 := hid (V5.out.up hx0)
  replace V6 := hid (V6.out.up hx0)
  replace V7 := hid (V7.out.up hx0)
  replace Na := hid (Na.out.up hx0)
  replace Nb := hid (Nb.out.up hx0)
  replace Ra := hid (Ra.out.up hx0)
  replace Rb := hid (Rb.out.up hx0)
  replace Q1 := hid (Q1.out.up hx0)
  replace Q2 := hid (Q2.out.up hx0)
  replace Q3 := hid (Q3.out.up hx0)
  replace Q4 := hid (Q4.out.up hx0)
  have V8 : Hid (Box wv gV8 #[.bool false, .slice none 0 0] 24) := hid hbox
  clear hx0 hbox hge
  simp only [Act.put, List.setIfInBounds_toArray, List.set_cons_zero, List.set_cons_succ]
  refine WE.store2 (g := gV7) (x := .bool g3) (y := .slice A3 n3 c3) (t := 24) rfl rfl (by rfl) (fun w hb => ?_) V7.out (by rfl) fun ws hk hs => ?_
  · have c0 := hb.cell (o := 0) (v := .bool false) rfl; have f0 := hb.free 0; have c1 := hb.cell (o := 1) (v := .slice none 0 0) rfl; have f1 := hb.free 1; go_simp
  intro hbx
  replace E := hid (E.out.keptG hk HGV7.out)
  replace Ba := hid (Ba.out.kept hk (by simpa using HNV7Ba.out.symm))
  replace Bb := hid (Bb.out.kept hk (by simpa using HNV7Bb.out.symm))
  replace V5 := hid (V5.out.kept hk (by simpa using HNV7V5.out.symm))
  replace V6 := hid (V6.out.kept hk (by simpa using HNV7V6.out.symm))
  replace V7 := hid hbx
  replace V8 := hid (V8.out.kept hk (by simpa using HNV8V7.out))
  replace Na := hid (Na.out.kz hs)
  replace Nb := hid (Nb.out.kz hs)
  replace Ra := hid (Ra.out.kz hs)
  replace Rb := hid (Rb.out.kz hs)
  replace Q1 := hid (Q1.out.kz hs)
  replace Q2 := hid (Q2.out.kz hs)
  replace Q3 := hid (Q3.out.kz hs)
  replace Q4 := hid (Q4.out.kz hs)
  clear hk hs hbx
  refine WE.store2 (g := gV8) (x := .bool g4) (y := .slice A4 n4 c4) (t := 24) rfl rfl (by rfl) (fun w hb => ?_) V8.out (by rfl) fun ws hk hs => ?_
  · have c0 := hb.cell (o := 0) (v := .bool false) rfl; have f0 := hb.free 0; have c1 := hb.cell (o := 1) (v := .slice none 0 0) rfl; have f1 := hb.free 1; go_simp
  intro hbx
  replace E := hid (E.out.keptG hk HGV8.out)
  replace Ba := hid (Ba.out.kept hk (by simpa using HNV8Ba.out.symm))
  replace Bb := hid (Bb.out.kept hk (by simpa using HNV8Bb.out.symm))
  replace V5 := hid (V5.out.kept hk (by simpa using HNV8V5.out.symm))
  replace V6 := hid (V6.out.kept hk (by simpa using HNV8V6.out.symm))
  replace V7 := hid (V7.out.kept hk (by simpa using HNV8V7.out.symm))
  replace V8 := hid hbx
  replace Na := hid (Na.out.kz hs)
  replace Nb := hid (Nb.out.kz hs)
  replace Ra := hid (Ra.out.kz hs)
  replace Rb := hid (Rb.out.kz hs)
  replace Q1 := hid (Q1.out.kz hs)
  replace Q2 := hid (Q2.out.kz hs)
  replace Q3 := hid (Q3.out.kz hs)
  replace Q4 := hid (Q4.out.kz hs)
  clear hk hs hbx
  refine WE.done ?_
  go_upto_region 7 with (fail)
  refine wp_region_E [(0, 0), (1, 0), (3, 0), (5, 0), (2, 1), (4, 1), (6, 1), (7, 0), (8, 0), (9, 0), (10, 0), (12, 0), (14, 0), (11, 1), (13, 1), (15, 1), (16, 0), (17, 0)] (fun _ => (0, #[])) rfl (by kernel_rfl) (by intro j hj; cases hj) (fun _ _ d _ _ => by cases d <;> exact Iff.rfl) fun wd hb => ?_
  replace E := hid (E.out.trans hb)
  replace Ba := hid (Ba.out.up hb)
  replace Bb := hid (Bb.out.up hb)
  replace V5 := hid (V5.out.up hb)
  replace V6 := hid (V6.out.up hb)
  replace V7 := hid (V7.out.up hb)
  replace V8 := hid (V8.out.up hb)
  replace Na := hid (Na.out.up hb)
  replace Nb := hid (Nb.out.up hb)
  replace Ra := hid (Ra.out.up hb)
  replace Rb := hid (Rb.out.up hb)
  replace Q1 := hid (Q1.out.up hb)
  replace Q2 := hid (Q2.out.up hb)
  replace Q3 := hid (Q3.out.up hb)
  replace Q4 := hid (Q4.out.up hb)
  clear hb
  refine WE.pure (d := some 41) rfl rfl (by rfl) (v := (.agg #[.bool g1, .slice A1 n1 c1])) (fun w' hk => ?_) ?_
  · have c0 := hk.cell (V5.out.cell (o := 0) (v := .bool g1) rfl); have c1 := hk.cell (V5.out.cell (o := 1) (v := .slice A1 n1 c1) rfl); go_simp
  simp only [Act.put, List.setIfInBounds_toArray, List.set_cons_zero, List.set_cons_succ]
  refine WE.pure (d := some 42) rfl rfl (by rfl) (v := (.agg #[.bool gb, .slice Ab nb cb])) (fun w' hk => ?_) ?_
  · have c0 := hk.cell (Bb.out.cell (o := 0) (v := .bool gb) rfl); have c1 := hk.cell (Bb.out.cell (o := 1) (v := .slice Ab nb cb) rfl); go_simp
  simp only [Act.put, List.setIfInBounds_toArray, List.set_cons_zero, List.set_cons_succ]
  refine WE.pure (d := some 44) rfl rfl (by rfl) (v := (.agg #[.bool g2, .slice A2 n2 c2])) (fun w' hk => ?_) ?_
  · have c0 := hk.cell (V6.out.cell (o := 0) (v := .bool g2) rfl); have c1 := hk.cell (V6.out.cell (o := 1) (v := .slice A2 n2 c2) rfl); go_simp
  simp only [Act.put, List.setIfInBounds_toArray, List.set_cons_zero, List.set_cons_succ]
  refine WE.pure (d := some 46) rfl rfl (by rfl) (v := (.agg #[.bool ga, .slice Aa na ca])) (fun w' hk => ?_) ?_
  · have c0 := hk.cell (Ba.out.cell (o := 0) (v := .bool ga) rfl); have c1 := hk.cell (Ba.out.cell (o := 1) (v := .slice Aa na ca) rfl); go_simp
  simp only [Act.put, List.setIfInBounds_toArray, List.set_cons_zero, List.set_cons_succ]
  refine WE.call (d := some 43) rfl rfl (by rfl) (f := 38) (args := #[(.agg #[.bool g1, .slice A1 n1 c1]), (.agg #[.bool gb, .slice Ab nb cb])]) (by go_simp) ?_
  refine (mul_w Q1.out.worth Rb.out (by omega) (by omega) (by omega)).mono ?_
  rintro e wn ⟨v1, rfl, x1, hb⟩
  obtain ⟨g5, A5, n5, c5, rfl⟩ := x1.shape
  refine ⟨_, rfl, hb, ?_⟩
  replace E := hid (E.out.trans hb)
  replace Ba := hid (Ba.out.up hb)
  replace Bb := hid (Bb.out.up hb)
  replace V5 := hid (V5.out.up hb)
  replace V6 := hid (V6.out.up hb)
  replace V7 := hid (V7.out.up hb)
  replace V8 := hid (V8.out.up hb)
  replace Na := hid (Na.out.up hb)
  replace Nb := hid (Nb.out.up hb)
  replace Ra := hid (Ra.out.up hb)
  replace Rb := hid (Rb.out.up hb)
  replace Q1 := hid (Q1.out.up hb)
  replace Q2 := hid (Q2.out.up hb)
  replace Q3 := hid (Q3.out.up hb)
  replace Q4 := hid (Q4.out.up hb)
  have Q5 := hid x1
  clear hb x1
  simp only [Act.put, List.setIfInBounds_toArray, List.set_cons_zero, List.set_cons_succ]
  refine WE.call (d := some 45) rfl rfl (by rfl) (f := 34) (args := #[(.agg #[.bool g5, .slice A5 n5 c5]), (.agg #[.bool g2, .slice A2 n2 c2])]) (by go_simp) ?_
  refine (add_w Q5.out.worth Q2.out.worth (by omega) (by omega)).mono ?_
  rintro e wn ⟨v1, rfl, x1, hb⟩
  obtain ⟨g6, A6, n6, c6, rfl⟩ := x1.shape
  refine ⟨_, rfl, hb, ?_⟩
  replace E := hid (E.out.trans hb)
  replace Ba := hid (Ba.out.up hb)
  replace Bb := hid (Bb.out.up hb)
  replace V5 := hid (V5.out.up hb)
  replace V6 := hid (V6.out.up hb)
  replace V7 := hid (V7.out.up hb)
  replace V8 := hid (V8.out.up hb)
  replace Na := hid (Na.out.up hb)
  replace Nb := hid (Nb.out.up hb)
  replace Ra := hid (Ra.out.up hb)
  replace Rb := hid (Rb.out.up hb)
  replace Q1 := hid (Q1.out.up hb)
  replace Q2 := hid (Q2.out.up hb)
  replace Q3 := hid (Q3.out.up hb)
  replace Q4 := hid (Q4.out.up hb)
  replace Q5 := hid (Q5.out.up hb)
  have Q6 := hid x1
  clear hb x1
  simp only [Act.put, List.setIfInBounds_toArray, List.set_cons_zero, List.set_cons_succ]
  clear Q5
  refine WE.call (d := some 47) rfl rfl (by rfl) (f := 28) (args := #[(.agg #[.bool g6, .slice A6 n6 c6]), (.agg #[.bool ga, .slice Aa na ca])]) (by go_simp) ?_
  refine (same_w Q6.out.worth Ra.out (b := true) (decide_eq_true (by have := Int.mul_fdiv_add_fmod x y; rw [Int.mul_comm] at this; exact this))).mono ?_
  rintro e wn ⟨rfl, hb⟩
  refine ⟨_, rfl, hb, ?_⟩
  replace E := hid (E.out.trans hb)
  replace Ba := hid (Ba.out.up hb)
  replace Bb := hid (Bb.out.up hb)
  replace V5 := hid (V5.out.up hb)
  replace V6 := hid (V6.out.up hb)
  replace V7 := hid (V7.out.up hb)
  replace V8 := hid (V8.out.up hb)
  replace Na := hid (Na.out.up hb)
  replace Nb := hid (Nb.out.up hb)
  replace Ra := hid (Ra.out.up hb)
  replace Rb := hid (Rb.out.up hb)
  replace Q1 := hid (Q1.out.up hb)
  replace Q2 := hid (Q2.out.up hb)
  replace Q3 := hid (Q3.out.up hb)
  replace Q4 := hid (Q4.out.up hb)
  replace Q6 := hid (Q6.out.up hb)
  clear hb
  simp only [Act.put, List.setIfInBounds_toArray, List.set_cons_zero, List.set_cons_succ]
  clear Q6
  refine WE.pure (d := some 48) rfl rfl (by rfl) (v := (.bool false)) (fun w' hk => ?_) ?_
  · go_simp
  simp only [Act.put, List.setIfInBounds_toArray, List.set_cons_zero, List.set_cons_succ]
  refine WE.pure (d := some 49) rfl rfl (by rfl) (v := (.bool false)) (fun w' hk => ?_) ?_
  · go_simp
  simp only [Act.put, List.setIfInBounds_toArray, List.set_cons_zero, List.set_cons_succ]
  refine WE.pure (d := some 50) rfl rfl (by rfl) (v := (.agg #[.bool g3, .slice A3 n3 c3])) (fun w' hk => ?_) ?_
  · have c0 := hk.cell (V7.out.cell (o := 0) (v := .bool g3) rfl); have c1 := hk.cell (V7.out.cell (o := 1) (v := .slice A3 n3 c3) rfl); go_simp
  simp only [Act.put, List.setIfInBounds_toArray, List.set_cons_zero, List.set_cons_succ]
  refine WE.pure (d := some 51) rfl rfl (by rfl) (v := (.agg #[.bool gb, .slice Ab nb cb])) (fun w' hk => ?_) ?_
  · have c0 := hk.cell (Bb.out.cell (o := 0) (v := .bool gb) rfl); have c1 := hk.cell (Bb.out.cell (o := 1) (v := .slice Ab nb cb) rfl); go_simp
  simp only [Act.put, List.setIfInBounds_toArray, List.set_cons_zero, List.set_cons_succ]
  refine WE.pure (d := some 53) rfl rfl (by rfl) (v := (.agg #[.bool g4, .slice A4 n4 c4])) (fun w' hk => ?_) ?_
  · have c0 := hk.cell (V8.out.cell (o := 0) (v := .bool g4) rfl); have c1 := hk.cell (V8.out.cell (o := 1) (v := .slice A4 n4 c4) rfl); go_simp
  simp only [Act.put, List.setIfInBounds_toArray, List.set_cons_zero, List.set_cons_succ]
  refine WE.pure (d := some 55) rfl rfl (by rfl) (v := (.agg #[.bool ga, .slice Aa na ca])) (fun w' hk => ?_) ?_
  · have c0 := hk.cell (Ba.out.cell (o := 0) (v := .bool ga) rfl); have c1 := hk.cell (Ba.out.cell (o := 1) (v := .slice Aa na ca) rfl); go_simp
  simp only [Act.put, List.setIfInBounds_toArray, List.set_cons_zero, List.set_cons_succ]
  refine WE.call (d := some 52) rfl rfl (by rfl) (f := 38) (args := #[(.agg #[.bool g3, .slice A3 n3 c3]), (.agg #[.bool gb, .slice Ab nb cb])]) (by go_simp) ?_
  refine (mul_w Q3.out.worth Rb.out (by omega) (by omega) (by omega)).mono ?_
  rintro e wn ⟨v1, rfl, x1, hb⟩
  obtain ⟨g7, A7, n7, c7, rfl⟩ := x1.shape
  refine ⟨_, rfl, hb, ?_⟩
  replace E := hid (E.out.trans hb)
  replace Ba := hid (Ba.out.up hb)
  replace Bb := hid (Bb.out.up hb)
  replace V5 := hid (V5.out.up hb)
  replace V6 := hid (V6.out.up hb)
  replace V7 := hid (V7.out.up hb)
  replace V8 := hid (V8.out.up hb)
  replace Na := hid (Na.out.up hb)
  replace Nb := hid (Nb.out.up hb)
  replace Ra := hid (Ra.out.up hb)
  replace Rb := hid (Rb.out.up hb)
  replace Q1 := hid (Q1.out.up hb)
  replace Q2 := hid (Q2.out.up hb)
  replace Q3 := hid (Q3.out.up hb)
  replace Q4 := hid (Q4.out.up hb)
  have Q7 := hid x1
  clear hb x1
  simp only [Act.put, List.setIfInBounds_toArray, List.set_cons_zero, List.set_cons_succ]
  refine WE.call (d := some 54) rfl rfl (by rfl) (f := 34) (args := #[(.agg #[.bool g7, .slice A7 n7 c7]), (.agg #[.bool g4, .slice A4 n4 c4])]) (by go_simp) ?_
  refine (add_w Q7.out.worth Q4.out.worth (by omega) (by omega)).mono ?_
  rintro e wn ⟨v1, rfl, x1, hb⟩
  obtain ⟨g8, A8, n8, c8, rfl⟩ := x1.shape
  refine ⟨_, rfl, hb, ?_⟩
  replace E := hid (E.out.trans hb)
  replace Ba := hid (Ba.out.up hb)
  replace Bb := hid (Bb.out.up hb)
  replace V5 := hid (V5.out.up hb)
  replace V6 := hid (V6.out.up hb)
  replace V7 := hid (V7.out.up hb)
  replace V8 := hid (V8.out.up hb)
  replace Na := hid (Na.out.up hb)
  replace Nb := hid (Nb.out.up hb)
  replace Ra := hid (Ra.out.up hb)
  replace Rb := hid (Rb.out.up hb)
  replace Q1 := hid (Q1.out.up hb)
  replace Q2 := hid (Q2.out.up hb)
  replace Q3 := hid (Q3.out.up hb)
  replace Q4 := hid (Q4.out.up hb)
  replace Q7 := hid (Q7.out.up hb)
  have Q8 := hid x1
  clear hb x1
  simp only [Act.put, List.setIfInBounds_toArray, List.set_cons_zero, List.set_cons_succ]
  clear Q7
  refine WE.call (d := some 56) rfl rfl (by rfl) (f := 28) (args := #[(.agg #[.bool g8, .slice A8 n8 c8]), (.agg #[.bool ga, .slice Aa na ca])]) (by go_simp) ?_
  refine (same_w Q8.out.worth Ra.out (b := true) (decide_eq_true (by have := Int.mul_ediv_add_emod x y; rw [Int.mul_comm] at this; exact this))).mono ?_
  rintro e wn ⟨rfl, hb⟩
  refine ⟨_, rfl, hb, ?_⟩
  replace E := hid (E.out.trans hb)
  replace Ba := hid (Ba.out.up hb)
  replace Bb := hid (Bb.out.up hb)
  replace V5 := hid (V5.out.up hb)
  replace V6 := hid (V6.out.up hb)
  replace V7 := hid (V7.out.up hb)
  replace V8 := hid (V8.out.up hb)
  replace Na := hid (Na.out.up hb)
  replace Nb := hid (Nb.out.up hb)
  replace Ra := hid (Ra.out.up hb)
  replace Rb := hid (Rb.out.up hb)
  replace Q1 := hid (Q1.out.up hb)
  replace Q2 := hid (Q2.out.up hb)
  replace Q3 := hid (Q3.out.up hb)
  replace Q4 := hid (Q4.out.up hb)
  replace Q8 := hid (Q8.out.up hb)
  clear hb
  simp only [Act.put, List.setIfInBounds_toArray, List.set_cons_zero, List.set_cons_succ]
  clear Q8
  refine WE.pure (d := some 57) rfl rfl (by rfl) (v := (.bool false)) (fun w' hk => ?_) ?_
  · go_simp
  simp only [Act.put, List.setIfInBounds_toArray, List.set_cons_zero, List.set_cons_succ]
  refine WE.pure (d := some 58) rfl rfl (by rfl) (v := (.bool false)) (fun w' hk => ?_) ?_
  · go_simp
  simp only [Act.put, List.setIfInBounds_toArray, List.set_cons_zero, List.set_cons_succ]
  refine WE.done ?_
  go_upto_region 9 with (fail)
  refine wp_region_T [(0, 0), (1, 1), (2, 0)] (by kernel_rfl) fun wd hb => ?_
  replace E := hid (E.out.trans hb)
  replace Ba := hid (Ba.out.up hb)
  replace Bb := hid (Bb.out.up hb)
  replace V5 := hid (V5.out.up hb)
  replace V6 := hid (V6.out.up hb)
  replace V7 := hid (V7.out.up hb)
  replace V8 := hid (V8.out.up hb)
  replace Na := hid (Na.out.up hb)
  replace Nb := hid (Nb.out.up hb)
  replace Ra := hid (Ra.out.up hb)
  replace Rb := hid (Rb.out.up hb)
  replace Q1 := hid (Q1.out.up hb)
  replace Q2 := hid (Q2.out.up hb)
  replace Q3 := hid (Q3.out.up hb)
  replace Q4 := hid (Q4.out.up hb)
  clear hb
  refine WE.pure (d := some 59) rfl rfl (by rfl) (v := (.agg #[.bool gb, .slice Ab nb cb])) (fun w' hk => ?_) ?_
  · have c0 := hk.cell (Bb.out.cell (o := 0) (v := .bool gb) rfl); have c1 := hk.cell (Bb.out.cell (o := 1) (v := .slice Ab nb cb) rfl); go_simp
  simp only [Act.put, List.setIfInBounds_toArray, List.set_cons_zero, List.set_cons_succ]
  refine WE.call (d := some 60) rfl rfl (by rfl) (f := 24) (args := #[(.agg #[.bool gb, .slice Ab nb cb])]) (by go_simp) ?_
  refine (sign_e Rb.out (s := sb) (HSB.out)).mono ?_
  rintro e wn ⟨rfl, hb⟩
  refine ⟨_, rfl, hb, ?_⟩
  replace E := hid (E.out.trans hb)
  replace Ba := hid (Ba.out.up hb)
  replace Bb := hid (Bb.out.up hb)
  replace V5 := hid (V5.out.up hb)
  replace V6 := hid (V6.out.up hb)
  replace V7 := hid (V7.out.up hb)
  replace V8 := hid (V8.out.up hb)
  replace Na := hid (Na.out.up hb)
  replace Nb := hid (Nb.out.up hb)
  replace Ra := hid (Ra.out.up hb)
  replace Rb := hid (Rb.out.up hb)
  replace Q1 := hid (Q1.out.up hb)
  replace Q2 := hid (Q2.out.up hb)
  replace Q3 := hid (Q3.out.up hb)
  replace Q4 := hid (Q4.out.up hb)
  clear hb
  simp only [Act.put, List.setIfInBounds_toArray, List.set_cons_zero, List.set_cons_succ]
  refine WE.pure (d := some 61) rfl rfl (by rfl) (v := (.bool false)) (fun w' hk => ?_) ?_
  · go_simp
  simp only [Act.put, List.setIfInBounds_toArray, List.set_cons_zero, List.set_cons_succ]
  refine WE.done ?_
  go_upto_region 11 with (fail)
  refine wp_region_E [(0, 0), (1, 1), (2, 0), (3, 0), (4, 0), (5, 0), (6, 1), (7, 1), (8, 0), (9, 0)] (fun _ => (0, #[])) rfl (by kernel_rfl) (by intro j hj; cases hj) (fun _ _ d _ _ => by cases d <;> exact Iff.rfl) fun wd hb => ?_
  replace E := hid (E.out.trans hb)
  replace Ba := hid (Ba.out.up hb)
  replace Bb := hid (Bb.out.up hb)
  replace V5 := hid (V5.out.up hb)
  replace V6 := hid (V6.out.up hb)
  replace V7 := hid (V7.out.up hb)
  replace V8 := hid (V8.out.up hb)
  replace Na := hid (Na.out.up hb)
  replace Nb := hid (Nb.out.up hb)
  replace Ra := hid (Ra.out.up hb)
  replace Rb := hid (Rb.out.up hb)
  replace Q1 := hid (Q1.out.up hb)
  replace Q2 := hid (Q2.out.up hb)
  replace Q3 := hid (Q3.out.up hb)
  replace Q4 := hid (Q4.out.up hb)
  clear hb
  refine WE.pure (d := some 70) rfl rfl (by rfl) (v := (.agg #[.bool g4, .slice A4 n4 c4])) (fun w' hk => ?_) ?_
  · have c0 := hk.cell (V8.out.cell (o := 0) (v := .bool g4) rfl); have c1 := hk.cell (V8.out.cell (o := 1) (v := .slice A4 n4 c4) rfl); go_simp
  simp only [Act.put, List.setIfInBounds_toArray, List.set_cons_zero, List.set_cons_succ]
  refine WE.call (d := some 71) rfl rfl (by rfl) (f := 24) (args := #[(.agg #[.bool g4, .slice A4 n4 c4])]) (by go_simp) ?_
  refine (sign_e Q4.out.worth (s := ss) (HSS.out)).mono ?_
  rintro e wn ⟨rfl, hb⟩
  refine ⟨_, rfl, hb, ?_⟩
  replace E := hid (E.out.trans hb)
  replace Ba := hid (Ba.out.up hb)
  replace Bb := hid (Bb.out.up hb)
  replace V5 := hid (V5.out.up hb)
  replace V6 := hid (V6.out.up hb)
  replace V7 := hid (V7.out.up hb)
  replace V8 := hid (V8.out.up hb)
  replace Na := hid (Na.out.up hb)
  replace Nb := hid (Nb.out.up hb)
  replace Ra := hid (Ra.out.up hb)
  replace Rb := hid (Rb.out.up hb)
  replace Q1 := hid (Q1.out.up hb)
  replace Q2 := hid (Q2.out.up hb)
  replace Q3 := hid (Q3.out.up hb)
  replace Q4 := hid (Q4.out.up hb)
  clear hb
  simp only [Act.put, List.setIfInBounds_toArray, List.set_cons_zero, List.set_cons_succ]
  refine WE.pure (d := some 72) rfl rfl (by rfl) (v := (.bool false)) (fun w' hk => ?_) ?_
  · go_simp
  simp only [Act.put, List.setIfInBounds_toArray, List.set_cons_zero, List.set_cons_succ]
  refine WE.pure (d := some 73) rfl rfl (by rfl) (v := (.bool false)) (fun w' hk => ?_) ?_
  · go_simp
  simp only [Act.put, List.setIfInBounds_toArray, List.set_cons_zero, List.set_cons_succ]
  refine WE.pure (d := some 74) rfl rfl (by rfl) (v := (.agg #[.bool g4, .slice A4 n4 c4])) (fun w' hk => ?_) ?_
  · have c0 := hk.cell (V8.out.cell (o := 0) (v := .bool g4) rfl); have c1 := hk.cell (V8.out.cell (o := 1) (v := .slice A4 n4 c4) rfl); go_simp
  simp only [Act.put, List.setIfInBounds_toArray, List.set_cons_zero, List.set_cons_succ]
  refine WE.pure (d := some 75) rfl rfl (by rfl) (v := (.agg #[.bool gb, .slice Ab nb cb])) (fun w' hk => ?_) ?_
  · have c0 := hk.cell (Bb.out.cell (o := 0) (v := .bool gb) rfl); have c1 := hk.cell (Bb.out.cell (o := 1) (v := .slice Ab nb cb) rfl); go_simp
  simp only [Act.put, List.setIfInBounds_toArray, List.set_cons_zero, List.set_cons_succ]
  refine WE.call (d := some 76) rfl rfl (by rfl) (f := 32) (args := #[(.agg #[.bool gb, .slice Ab nb cb])]) (by go_simp) ?_
  refine (abs_w Rb.out (by omega)).mono ?_
  rintro e wn ⟨v1, rfl, x1, hb⟩
  obtain ⟨g9, A9, n9, c9, rfl⟩ := x1.shape
  refine ⟨_, rfl, hb, ?_⟩
  replace E := hid (E.out.trans hb)
  replace Ba := hid (Ba.out.up hb)
  replace Bb := hid (Bb.out.up hb)
  replace V5 := hid (V5.out.up hb)
  replace V6 := hid (V6.out.up hb)
  replace V7 := hid (V7.out.up hb)
  replace V8 := hid (V8.out.up hb)
  replace Na := hid (Na.out.up hb)
  replace Nb := hid (Nb.out.up hb)
  replace Ra := hid (Ra.out.up hb)
  replace Rb := hid (Rb.out.up hb)
  replace Q1 := hid (Q1.out.up hb)
  replace Q2 := hid (Q2.out.up hb)
  replace Q3 := hid (Q3.out.up hb)
  replace Q4 := hid (Q4.out.up hb)
  have Q9 := hid x1
  clear hb x1
  simp only [Act.put, List.setIfInBounds_toArray, List.set_cons_zero, List.set_cons_succ]
  refine WE.call (d := some 77) rfl rfl (by rfl) (f := 26) (args := #[(.agg #[.bool g4, .slice A4 n4 c4]), (.agg #[.bool g9, .slice A9 n9 c9])]) (by go_simp) ?_
  refine (cmp_w Q4.out.worth Q9.out.worth (z := (-1)) (HC1.out)).mono ?_
  rintro e wn ⟨rfl, hb⟩
  refine ⟨_, rfl, hb, ?_⟩
  replace E := hid (E.out.trans hb)
  replace Ba := hid (Ba.out.up hb)
  replace Bb := hid (Bb.out.up hb)
  replace V5 := hid (V5.out.up hb)
  replace V6 := hid (V6.out.up hb)
  replace V7 := hid (V7.out.up hb)
  replace V8 := hid (V8.out.up hb)
  replace Na := hid (Na.out.up hb)
  replace Nb := hid (Nb.out.up hb)
  replace Ra := hid (Ra.out.up hb)
  replace Rb := hid (Rb.out.up hb)
  replace Q1 := hid (Q1.out.up hb)
  replace Q2 := hid (Q2.out.up hb)
  replace Q3 := hid (Q3.out.up hb)
  replace Q4 := hid (Q4.out.up hb)
  replace Q9 := hid (Q9.out.up hb)
  clear hb
  simp only [Act.put, List.setIfInBounds_toArray, List.set_cons_zero, List.set_cons_succ]
  clear Q9
  refine WE.pure (d := some 78) rfl rfl (by rfl) (v := (.bool false)) (fun w' hk => ?_) ?_
  · go_simp
  simp only [Act.put, List.setIfInBounds_toArray, List.set_cons_zero, List.set_cons_succ]
  refine WE.pure (d := some 79) rfl rfl (by rfl) (v := (.bool false)) (fun w' hk => ?_) ?_
  · go_simp
  simp only [Act.put, List.setIfInBounds_toArray, List.set_cons_zero, List.set_cons_succ]
  refine WE.done ?_
  go_upto_region 13 with (fail)
  refine wp_region_E [(0, 0), (1, 1), (2, 0), (3, 0), (4, 0), (6, 0), (5, 1), (7, 1), (8, 0), (9, 0), (10, 0), (12, 0), (11, 1), (13, 1), (14, 1), (15, 0), (16, 0), (17, 0), (18, 0)] (fun _ => (0, #[])) rfl (by kernel_rfl) (by intro j hj; cases hj) (fun _ _ d _ _ => by cases d <;> exact Iff.rfl) fun wd hb => ?_
  replace E := hid (E.out.trans hb)
  replace Ba := hid (Ba.out.up hb)
  replace Bb := hid (Bb.out.up hb)
  replace V5 := hid (V5.out.up hb)
  replace V6 := hid (V6.out.up hb)
  replace V7 := hid (V7.out.up hb)
  replace V8 := hid (V8.out.up hb)
  replace Na := hid (Na.out.up hb)
  replace Nb := hid (Nb.out.up hb)
  replace Ra := hid (Ra.out.up hb)
  replace Rb := hid (Rb.out.up hb)
  replace Q1 := hid (Q1.out.up hb)
  replace Q2 := hid (Q2.out.up hb)
  replace Q3 := hid (Q3.out.up hb)
  replace Q4 := hid (Q4.out.up hb)
  clear hb
  refine WE.pure (d := some 80) rfl rfl (by rfl) (v := (.agg #[.bool g2, .slice A2 n2 c2])) (fun w' hk => ?_) ?_
  · have c0 := hk.cell (V6.out.cell (o := 0) (v := .bool g2) rfl); have c1 := hk.cell (V6.out.cell (o := 1) (v := .slice A2 n2 c2) rfl); go_simp
  simp only [Act.put, List.setIfInBounds_toArray, List.set_cons_zero, List.set_cons_succ]
  refine WE.call (d := some 81) rfl rfl (by rfl) (f := 24) (args := #[(.agg #[.bool g2, .slice A2 n2 c2])]) (by go_simp) ?_
  refine (sign_e Q2.out.worth (s := sr) (HSR.out)).mono ?_
  rintro e wn ⟨rfl, hb⟩
  refine ⟨_, rfl, hb, ?_⟩
  replace E := hid (E.out.trans hb)
  replace Ba := hid (Ba.out.up hb)
  replace Bb := hid (Bb.out.up hb)
  replace V5 := hid (V5.out.up hb)
  replace V6 := hid (V6.out.up hb)
  replace V7 := hid (V7.out.up hb)
  replace V8 := hid (V8.out.up hb)
  replace Na := hid (Na.out.up hb)
  replace Nb := hid (Nb.out.up hb)
  replace Ra := hid (Ra.out.up hb)
  replace Rb := hid (Rb.out.up hb)
  replace Q1 := hid (Q1.out.up hb)
  replace Q2 := hid (Q2.out.up hb)
  replace Q3 := hid (Q3.out.up hb)
  replace Q4 := hid (Q4.out.up hb)
  clear hb
  simp only [Act.put, List.setIfInBounds_toArray, List.set_cons_zero, List.set_cons_succ]
  refine WE.pure (d := some 82) rfl rfl (by rfl) (v := (.bool false)) (fun w' hk => ?_) ?_
  · go_simp
  simp only [Act.put, List.setIfInBounds_toArray, List.set_cons_zero, List.set_cons_succ]
  refine WE.pure (d := some 83) rfl rfl (by rfl) (v := (.bool false)) (fun w' hk => ?_) ?_
  · go_simp
  simp only [Act.put, List.setIfInBounds_toArray, List.set_cons_zero, List.set_cons_succ]
  refine WE.pure (d := some 84) rfl rfl (by rfl) (v := (.agg #[.bool g2, .slice A2 n2 c2])) (fun w' hk => ?_) ?_
  · have c0 := hk.cell (V6.out.cell (o := 0) (v := .bool g2) rfl); have c1 := hk.cell (V6.out.cell (o := 1) (v := .slice A2 n2 c2) rfl); go_simp
  simp only [Act.put, List.setIfInBounds_toArray, List.set_cons_zero, List.set_cons_succ]
  refine WE.pure (d := some 86) rfl rfl (by rfl) (v := (.agg #[.bool gb, .slice Ab nb cb])) (fun w' hk => ?_) ?_
  · have c0 := hk.cell (Bb.out.cell (o := 0) (v := .bool gb) rfl); have c1 := hk.cell (Bb.out.cell (o := 1) (v := .slice Ab nb cb) rfl); go_simp
  simp only [Act.put, List.setIfInBounds_toArray, List.set_cons_zero, List.set_cons_succ]
  refine WE.call (d := some 85) rfl rfl (by rfl) (f := 24) (args := #[(.agg #[.bool g2, .slice A2 n2 c2])]) (by go_simp) ?_
  refine (sign_e Q2.out.worth (s := sr) (HSR.out)).mono ?_
  rintro e wn ⟨rfl, hb⟩
  refine ⟨_, rfl, hb, ?_⟩
  replace E := hid (E.out.trans hb)
  replace Ba := hid (Ba.out.up hb)
  replace Bb := hid (Bb.out.up hb)
  replace V5 := hid (V5.out.up hb)
  replace V6 := hid (V6.out.up hb)
  replace V7 := hid (V7.out.up hb)
  replace V8 := hid (V8.out.up hb)
  replace Na := hid (Na.out.up hb)
  replace Nb := hid (Nb.out.up hb)
  replace Ra := hid (Ra.out.up hb)
  replace Rb := hid (Rb.out.up hb)
  replace Q1 := hid (Q1.out.up hb)
  replace Q2 := hid (Q2.out.up hb)
  replace Q3 := hid (Q3.out.up hb)
  replace Q4 := hid (Q4.out.up hb)
  clear hb
  simp only [Act.put, List.setIfInBounds_toArray, List.set_cons_zero, List.set_cons_succ]
  refine WE.call (d := some 87) rfl rfl (by rfl) (f := 24) (args := #[(.agg #[.bool gb, .slice Ab nb cb])]) (by go_simp) ?_
  refine (sign_e Rb.out (s := sb) (HSB.out)).mono ?_
  rintro e wn ⟨rfl, hb⟩
  refine ⟨_, rfl, hb, ?_⟩
  replace E := hid (E.out.trans hb)
  replace Ba := hid (Ba.out.up hb)
  replace Bb := hid (Bb.out.up hb)
  replace V5 := hid (V5.out.up hb)
  replace V6 := hid (V6.out.up hb)
  replace V7 := hid (V7.out.up hb)
  replace V8 := hid (V8.out.up hb)
  replace Na := hid (Na.out.up hb)
  replace Nb := hid (Nb.out.up hb)
  replace Ra := hid (Ra.out.up hb)
  replace Rb := hid (Rb.out.up hb)
  replace Q1 := hid (Q1.out.up hb)
  replace Q2 := hid (Q2.out.up hb)
  replace Q3 := hid (Q3.out.up hb)
  replace Q4 := hid (Q4.out.up hb)
  clear hb
  simp only [Act.put, List.setIfInBounds_toArray, List.set_cons_zero, List.set_cons_succ]
  refine WE.pure (d := some 88) rfl rfl (by rfl) (v := (.bool true)) (fun w' hk => ?_) ?_
  · go_simp
  simp only [Act.put, List.setIfInBounds_toArray, List.set_cons_zero, List.set_cons_succ]
  refine WE.pure (d := some 89) rfl rfl (by rfl) (v := (.bool true)) (fun w' hk => ?_) ?_
  · go_simp
  simp only [Act.put, List.setIfInBounds_toArray, List.set_cons_zero, List.set_cons_succ]
  refine WE.pure (d := some 90) rfl rfl (by rfl) (v := (.agg #[.bool g2, .slice A2 n2 c2])) (fun w' hk => ?_) ?_
  · have c0 := hk.cell (V6.out.cell (o := 0) (v := .bool g2) rfl); have c1 := hk.cell (V6.out.cell (o := 1) (v := .slice A2 n2 c2) rfl); go_simp
  simp only [Act.put, List.setIfInBounds_toArray, List.set_cons_zero, List.set_cons_succ]
  refine WE.pure (d := some 92) rfl rfl (by rfl) (v := (.agg #[.bool gb, .slice Ab nb cb])) (fun w' hk => ?_) ?_
  · have c0 := hk.cell (Bb.out.cell (o := 0) (v := .bool gb) rfl); have c1 := hk.cell (Bb.out.cell (o := 1) (v := .slice Ab nb cb) rfl); go_simp
  simp only [Act.put, List.setIfInBounds_toArray, List.set_cons_zero, List.set_cons_succ]
  refine WE.call (d := some 91) rfl rfl (by rfl) (f := 32) (args := #[(.agg #[.bool g2, .slice A2 n2 c2])]) (by go_simp) ?_
  refine (abs_w Q2.out.worth (by omega)).mono ?_
  rintro e wn ⟨v1, rfl, x1, hb⟩
  obtain ⟨g10, A10, n10, c10, rfl⟩ := x1.shape
  refine ⟨_, rfl, hb, ?_⟩
  replace E := hid (E.out.trans hb)
  replace Ba := hid (Ba.out.up hb)
  replace Bb := hid (Bb.out.up hb)
  replace V5 := hid (V5.out.up hb)
  replace V6 := hid (V6.out.up hb)
  replace V7 := hid (V7.out.up hb)
  replace V8 := hid (V8.out.up hb)
  replace Na := hid (Na.out.up hb)
  replace Nb := hid (Nb.out.up hb)
  replace Ra := hid (Ra.out.up hb)
  replace Rb := hid (Rb.out.up hb)
  replace Q1 := hid (Q1.out.up hb)
  replace Q2 := hid (Q2.out.up hb)
  replace Q3 := hid (Q3.out.up hb)
  replace Q4 := hid (Q4.out.up hb)
  have Q10 := hid x1
  clear hb x1
  simp only [Act.put, List.setIfInBounds_toArray, List.set_cons_zero, List.set_cons_succ]
  refine WE.call (d := some 93) rfl rfl (by rfl) (f := 32) (args := #[(.agg #[.bool gb, .slice Ab nb cb])]) (by go_simp) ?_
  refine (abs_w Rb.out (by omega)).mono ?_
  rintro e wn ⟨v1, rfl, x1, hb⟩
  obtain ⟨g11, A11, n11, c11, rfl⟩ := x1.shape
  refine ⟨_, rfl, hb, ?_⟩
  replace E := hid (E.out.trans hb)
  replace Ba := hid (Ba.out.up hb)
  replace Bb := hid (Bb.out.up hb)
  replace V5 := hid (V5.out.up hb)
  replace V6 := hid (V6.out.up hb)
  replace V7 := hid (V7.out.up hb)
  replace V8 := hid (V8.out.up hb)
  replace Na := hid (Na.out.up hb)
  replace Nb := hid (Nb.out.up hb)
  replace Ra := hid (Ra.out.up hb)
  replace Rb := hid (Rb.out.up hb)
  replace Q1 := hid (Q1.out.up hb)
  replace Q2 := hid (Q2.out.up hb)
  replace Q3 := hid (Q3.out.up hb)
  replace Q4 := hid (Q4.out.up hb)
  replace Q10 := hid (Q10.out.up hb)
  have Q11 := hid x1
  clear hb x1
  simp only [Act.put, List.setIfInBounds_toArray, List.set_cons_zero, List.set_cons_succ]
  refine WE.call (d := some 94) rfl rfl (by rfl) (f := 26) (args := #[(.agg #[.bool g10, .slice A10 n10 c10]), (.agg #[.bool g11, .slice A11 n11 c11])]) (by go_simp) ?_
  refine (cmp_w Q10.out.worth Q11.out.worth (z := (-1)) (HC2.out)).mono ?_
  rintro e wn ⟨rfl, hb⟩
  refine ⟨_, rfl, hb, ?_⟩
  replace E := hid (E.out.trans hb)
  replace Ba := hid (Ba.out.up hb)
  replace Bb := hid (Bb.out.up hb)
  replace V5 := hid (V5.out.up hb)
  replace V6 := hid (V6.out.up hb)
  replace V7 := hid (V7.out.up hb)
  replace V8 := hid (V8.out.up hb)
  replace Na := hid (Na.out.up hb)
  replace Nb := hid (Nb.out.up hb)
  replace Ra := hid (Ra.out.up hb)
  replace Rb := hid (Rb.out.up hb)
  replace Q1 := hid (Q1.out.up hb)
  replace Q2 := hid (Q2.out.up hb)
  replace Q3 := hid (Q3.out.up hb)
  replace Q4 := hid (Q4.out.up hb)
  replace Q10 := hid (Q10.out.up hb)
  replace Q11 := hid (Q11.out.up hb)
  clear hb
  simp only [Act.put, List.setIfInBounds_toArray, List.set_cons_zero, List.set_cons_succ]
  clear Q10
  clear Q11
  refine WE.pure (d := some 95) rfl rfl (by rfl) (v := (.bool true)) (fun w' hk => ?_) ?_
  · go_simp
  simp only [Act.put, List.setIfInBounds_toArray, List.set_cons_zero, List.set_cons_succ]
  refine WE.pure (d := some 96) rfl rfl (by rfl) (v := (.bool true)) (fun w' hk => ?_) ?_
  · go_simp
  simp only [Act.put, List.setIfInBounds_toArray, List.set_cons_zero, List.set_cons_succ]
  refine WE.pure (d := some 97) rfl rfl (by rfl) (v := (.bool true)) (fun w' hk => ?_) ?_
  · go_simp
  simp only [Act.put, List.setIfInBounds_toArray, List.set_cons_zero, List.set_cons_succ]
  refine WE.pure (d := some 4) rfl rfl (by rfl) (v := (.bool true)) (fun w' hk => ?_) ?_
  · go_simp
  simp only [Act.put, List.setIfInBounds_toArray, List.set_cons_zero, List.set_cons_succ]
  refine WE.done ?_
  go_wp2
  go_ret
  exact ⟨rfl, E.out⟩

theorem wholeDivides_walk (W : World) (ga : Bool) (Aa : Option Addr) (na ca : Nat) (la : List Nat) (ha : Num W W.heap.size (.slice Aa na ca) la) (gb : Bool) (Ab : Option Addr) (nb cb : Nat) (lb : List Nat) (hb : Num W W.heap.size (.slice Ab nb cb) lb) :
    Calls Try.prog 5 #[.agg #[.bool ga, .slice Aa na ca], .agg #[.bool gb, .slice Ab nb cb]] W (fun e w' => e = .returned (.bool true) ∧ Ext W w') := by
  rcases fa : (decide (la.length ≤ 8)) with _ | _
  · exact wholeDivides_skip0 W ga Aa na ca la ha gb Ab nb cb lb hb fa
  rcases fb : (decide (lb.length ≤ 8)) with _ | _
  · exact wholeDivides_skip1 W ga Aa na ca la ha gb Ab nb cb lb hb fa fb
  rcases ia : (M.isZ ga la) with _ | _
  · exact wholeDivides_skip2 W ga Aa na ca la ha gb Ab nb cb lb hb fa fb ia
  rcases ib : (M.isZ gb lb) with _ | _
  · exact wholeDivides_skip3 W ga Aa na ca la ha gb Ab nb cb lb hb fa fb ia ib
  by_cases hy : M.zv gb lb = 0
  · exact wholeDivides_zero W ga Aa na ca la ha gb Ab nb cb lb hb fa fb ia ib _ rfl _ rfl hy
  · by_cases hr : (M.zv ga la).fmod (M.zv gb lb) = 0
    · exact wholeDivides_even W ga Aa na ca la ha gb Ab nb cb lb hb fa fb ia ib _ rfl _ rfl ⟨hy, hr⟩
    · exact wholeDivides_rest W ga Aa na ca la ha gb Ab nb cb lb hb fa fb ia ib _ rfl _ rfl ⟨hy, hr⟩

set_option maxRecDepth 100000 in
theorem wholeDivides_lifted (os : Os) (started : os.Started) (H : Type) (enc : TypeId × Value → H) :
    ReturnsInHanded {} Try.checked os 5 .any (Rows.wholeDividesSpec.pre6 enc Try.prog Try.f5 Rows.wholeDividesRow.domain false) (Rows.wholeDividesSpec.post enc Try.prog Try.f5 false true false false) := by
  refine returnsInHanded_of_change (C := Try.checked) own started (by kernel_rfl) Try.func5
    (ChangeSpec.witness6 (enc := enc) (C := Try.checked) false ⟨#[], #[.agg #[.bool false, .slice none 0 0], .agg #[.bool false, .slice none 0 0]], []⟩ 8 (by kernel_rfl) (by kernel_rfl) (by kernel_rfl) (by kernel_rfl)) ?_
  intro W base args ds gs before hval0 hW _ _
  have hval : ∀ (j : Nat) t v, Try.f5.params[j]? = some t → args[j]? = some v → Value.okWide Try.prog W .any base t v := hval0
  have hW' := hW
  obtain ⟨p, q, hA0, hV, rfl, hfz, hnd⟩ := hW
  have hA : DataW.TrodAll enc Try.prog W 0 (fun _ => true) true Try.f5.params.toList args.toList ds p := hA0
  rw [Try.params5] at hA hval
  obtain ⟨v0, vs0, d0, ds0, p0, q0, hargs, rfl, rfl, h0, r0⟩ := trodAll_cons hA
  obtain ⟨v1, vs1, d1, ds1, p1, q1, rfl, rfl, rfl, h1, r1⟩ := trodAll_cons r0
  obtain ⟨rfl, rfl, rfl⟩ := trodAll_nil r1
  obtain rfl : args = #[v0, v1] := by cases args; simp_all
  obtain ⟨rfl, rfl⟩ := trodVars_none hV
  obtain ⟨g0, A0, n0, c0, l0, rfl, e0⟩ := open_Z (hval 0 24 _ rfl rfl) h0
  obtain ⟨g1, A1, n1, c1, l1, rfl, e1⟩ := open_Z (hval 1 24 _ rfl rfl) h1
  clear hA0 hval0
  refine (wholeDivides_walk W g0 A0 n0 c0 l0 e0 g1 A1 n1 c1 l1 e1).mono fun e W' ⟨he, hg⟩ => ?_
  subst he
  exact ⟨_, rfl, law_post hW' rfl rfl (by kernel_rfl) (by kernel_rfl) hg⟩

theorem wholeDivides_over : Rows.wholeDividesRow.holds Try.pinned (OpenSpec.ofChange Rows.wholeDividesSpec) :=
  OpenClaim.holds_of_wide 5 Try.f5 rfl rfl rfl rfl rfl rfl rfl ⟨rfl, rfl, rfl, rfl, rfl⟩ rfl rfl rfl rfl rfl (by kernel_rfl) Try.func5 (by kernel_rfl)
    (of_decide_eq_true (by kernel_rfl)) (by unfold Func.isWrapper; first | (rw [if_pos (by decide +kernel)]; kernel_rfl) | (rw [if_neg (by decide +kernel)]; exact ⟨rfl, rfl⟩))
    (fun os started H enc _ => wholeDivides_lifted os started H enc)

theorem wholeDivides_proved : Rows.WholeDividesSaid := wholeDivides_over

end Go.Proofs.Ytjmonmbgfihgmaa
