/-
  RatBetween: whatever two fractions, or what is none: true, and the input reads as it did. No conditions.
-/
import Derived.Test.YtkjfeedclaedfaaGreatRKnown
import Derived.Test.YtkjfeedclaedfaaGreatRLMath
namespace Go.Proofs.YtkjfeedclaedfaaGreat
open Go.ChangeShapes Go.WideShapes Go.ChangeAt Go.RowKit
set_option linter.unusedSimpArgs false
set_option linter.unusedVariables false

set_option maxRecDepth 100000 in
set_option maxHeartbeats 2000000 in
theorem ratBetween_skip0 (W : World) (ga : Bool) (Aa : Option Addr) (na ca : Nat) (la : List Nat) (Ba : Option Addr) (ma da : Nat) (ra : List Nat) (ha : Num W W.heap.size (.slice Aa na ca) la) (ka : Num W W.heap.size (.slice Ba ma da) ra) (gb : Bool) (Ab : Option Addr) (nb cb : Nat) (lb : List Nat) (Bb : Option Addr) (mb db : Nat) (rb : List Nat) (hb : Num W W.heap.size (.slice Ab nb cb) lb) (kb : Num W W.heap.size (.slice Bb mb db) rb) (fa : Hid ((decide (la.length ≤ 4) && decide (ra.length ≤ 4)) = false)) :
    Calls Tryz.prog 6 #[.agg #[.bool ga, .slice Aa na ca, .slice Ba ma da], .agg #[.bool gb, .slice Ab nb cb, .slice Bb mb db]] W (fun e w' => e = .returned (.bool true) ∧ Ext W w') := by
  have Na := hid ha
  have Ma := hid ka
  clear ha ka hb kb
  go_enter Tryz.func6, Tryz.ntmps6
  go_upto_region 1 with (fail)
  have E := hid (((Ext.refl W).alloc' (.cells #[.bool ga, .slice Aa na ca, .slice Ba ma da] 26)).alloc' (.cells #[.bool gb, .slice Ab nb cb, .slice Bb mb db] 26))
  have BX0 : Hid (Box ((W.alloc (.cells #[.bool ga, .slice Aa na ca, .slice Ba ma da] 26)).alloc (.cells #[.bool gb, .slice Ab nb cb, .slice Bb mb db] 26)) (W.heap.size) #[.bool ga, .slice Aa na ca, .slice Ba ma da] 26) := hid ((Box.at_ (w := W) #[.bool ga, .slice Aa na ca, .slice Ba ma da] 26 (by simp)).alloc (.cells #[.bool gb, .slice Ab nb cb, .slice Bb mb db] 26))
  replace Na := hid (Na.out.up E.out)
  replace Ma := hid (Ma.out.up E.out)
  refine wp_region_T [(0, 1), (1, 0)] (by kernel_rfl) fun wd hb => ?_
  replace E := hid (E.out.trans hb)
  replace BX0 := hid (BX0.out.up hb)
  replace Na := hid (Na.out.up hb)
  replace Ma := hid (Ma.out.up hb)
  clear hb
  have EY := hid (Ext.refl wd)
  refine WE.call (d := some 7) rfl rfl (by rfl) (by go_simp) ((known5 _).mono ?_)
  rintro e wn ⟨rfl, hb⟩
  refine ⟨_, rfl, hb, ?_⟩
  replace EY := hid (EY.out.trans hb)
  clear hb
  simp only [Act.put, pA, pB, pC]
  refine WE.pure (d := some 8) rfl rfl (by rfl) (v := (.bool false)) (fun w' hk => by go_simp) ?_
  simp only [Act.put, pA, pB, pC]
  refine WE.done ?_
  go_upto_region 3 with (fail)
  refine wp_region_T [(0, 0), (1, 1), (2, 0), (3, 0), (4, 0), (5, 1), (6, 0), (7, 0), (8, 0), (9, 0), (10, 1), (11, 0), (12, 0), (13, 0), (14, 0), (15, 1), (16, 0), (17, 0)] (by kernel_rfl) fun wd hb => ?_
  replace EY := hid (EY.out.trans hb)
  clear hb
  refine WE.pure (d := some 9) rfl rfl (by rfl) (v := (.agg #[.bool ga, .slice Aa na ca, .slice Ba ma da])) (fun w' hk => ?_) ?_
  · obtain ⟨ce0, ce1, ce2⟩ := ((BX0.out.up EY.out).up hk).c3; go_simp
  simp only [Act.put, pA, pB, pC]
  refine WE.call (d := some 10) rfl rfl (by rfl) (by go_simp) ((few5 (g := ga) (Na.out.up EY.out) (Ma.out.up EY.out) fa.out).mono ?_)
  rintro e wn ⟨rfl, hb⟩
  refine ⟨_, rfl, hb, ?_⟩
  replace EY := hid (EY.out.trans hb)
  clear hb
  simp only [Act.put, pA, pB, pC]
  refine WE.pure (d := some 11) rfl rfl (by rfl) (v := (.bool true)) (fun w' hk => by go_simp) ?_
  simp only [Act.put, pA, pB, pC]
  refine WE.pure (d := some 12) rfl rfl (by rfl) (v := (.bool true)) (fun w' hk => by go_simp) ?_
  simp only [Act.put, pA, pB, pC]
  refine WE.skip (d := some 13) rfl rfl (by rfl) ?_
  simp only [Act.put, pA, pB, pC]
  refine WE.pass (d := some 14) rfl rfl (by rfl) ?_
  simp only [Act.put, pA, pB, pC]
  refine WE.skip (d := some 15) rfl rfl (by rfl) ?_
  simp only [Act.put, pA, pB, pC]
  refine WE.pure (d := some 16) rfl rfl (by rfl) (v := (.bool true)) (fun w' hk => by go_simp) ?_
  simp only [Act.put, pA, pB, pC]
  refine WE.pure (d := some 17) rfl rfl (by rfl) (v := (.bool true)) (fun w' hk => by go_simp) ?_
  simp only [Act.put, pA, pB, pC]
  refine WE.skip (d := some 18) rfl rfl (by rfl) ?_
  simp only [Act.put, pA, pB, pC]
  refine WE.pass (d := some 19) rfl rfl (by rfl) ?_
  simp only [Act.put, pA, pB, pC]
  refine WE.skip (d := some 20) rfl rfl (by rfl) ?_
  simp only [Act.put, pA, pB, pC]
  refine WE.pure (d := some 21) rfl rfl (by rfl) (v := (.bool true)) (fun w' hk => by go_simp) ?_
  simp only [Act.put, pA, pB, pC]
  refine WE.pure (d := some 22) rfl rfl (by rfl) (v := (.bool true)) (fun w' hk => by go_simp) ?_
  simp only [Act.put, pA, pB, pC]
  refine WE.skip (d := some 23) rfl rfl (by rfl) ?_
  simp only [Act.put, pA, pB, pC]
  refine WE.pass (d := some 24) rfl rfl (by rfl) ?_
  simp only [Act.put, pA, pB, pC]
  refine WE.skip (d := some 25) rfl rfl (by rfl) ?_
  simp only [Act.put, pA, pB, pC]
  refine WE.pure (d := some 26) rfl rfl (by rfl) (v := (.bool true)) (fun w' hk => by go_simp) ?_
  simp only [Act.put, pA, pB, pC]
  refine WE.done ?_
  repeat go_step
  go_ret
  exact ⟨rfl, (E.out.trans EY.out)⟩

set_option maxRecDepth 100000 in
set_option maxHeartbeats 2000000 in
theorem ratBetween_skip1 (W : World) (ga : Bool) (Aa : Option Addr) (na ca : Nat) (la : List Nat) (Ba : Option Addr) (ma da : Nat) (ra : List Nat) (ha : Num W W.heap.size (.slice Aa na ca) la) (ka : Num W W.heap.size (.slice Ba ma da) ra) (gb : Bool) (Ab : Option Addr) (nb cb : Nat) (lb : List Nat) (Bb : Option Addr) (mb db : Nat) (rb : List Nat) (hb : Num W W.heap.size (.slice Ab nb cb) lb) (kb : Num W W.heap.size (.slice Bb mb db) rb) (fa : Hid ((decide (la.length ≤ 4) && decide (ra.length ≤ 4)) = true)) (fb : Hid ((decide (lb.length ≤ 4) && decide (rb.length ≤ 4)) = false)) :
    Calls Tryz.prog 6 #[.agg #[.bool ga, .slice Aa na ca, .slice Ba ma da], .agg #[.bool gb, .slice Ab nb cb, .slice Bb mb db]] W (fun e w' => e = .returned (.bool true) ∧ Ext W w') := by
  have Na := hid ha
  have Ma := hid ka
  have Nb := hid hb
  have Mb := hid kb
  clear ha ka hb kb
  go_enter Tryz.func6, Tryz.ntmps6
  go_upto_region 1 with (fail)
  have E := hid (((Ext.refl W).alloc' (.cells #[.bool ga, .slice Aa na ca, .slice Ba ma da] 26)).alloc' (.cells #[.bool gb, .slice Ab nb cb, .slice Bb mb db] 26))
  have BX0 : Hid (Box ((W.alloc (.cells #[.bool ga, .slice Aa na ca, .slice Ba ma da] 26)).alloc (.cells #[.bool gb, .slice Ab nb cb, .slice Bb mb db] 26)) (W.heap.size) #[.bool ga, .slice Aa na ca, .slice Ba ma da] 26) := hid ((Box.at_ (w := W) #[.bool ga, .slice Aa na ca, .slice Ba ma da] 26 (by simp)).alloc (.cells #[.bool gb, .slice Ab nb cb, .slice Bb mb db] 26))
  have BX1 : Hid (Box ((W.alloc (.cells #[.bool ga, .slice Aa na ca, .slice Ba ma da] 26)).alloc (.cells #[.bool gb, .slice Ab nb cb, .slice Bb mb db] 26)) (W.heap.size + 1) #[.bool gb, .slice Ab nb cb, .slice Bb mb db] 26) := hid (Box.at_ (w := (W.alloc (.cells #[.bool ga, .slice Aa na ca, .slice Ba ma da] 26))) #[.bool gb, .slice Ab nb cb, .slice Bb mb db] 26 (by simp))
  replace Na := hid (Na.out.up E.out)
  replace Ma := hid (Ma.out.up E.out)
  replace Nb := hid (Nb.out.up E.out)
  replace Mb := hid (Mb.out.up E.out)
  refine wp_region_T [(0, 1), (1, 0)] (by kernel_rfl) fun wd hb => ?_
  replace E := hid (E.out.trans hb)
  replace BX0 := hid (BX0.out.up hb)
  replace BX1 := hid (BX1.out.up hb)
  replace Na := hid (Na.out.up hb)
  replace Ma := hid (Ma.out.up hb)
  replace Nb := hid (Nb.out.up hb)
  replace Mb := hid (Mb.out.up hb)
  clear hb
  have EY := hid (Ext.refl wd)
  refine WE.call (d := some 7) rfl rfl (by rfl) (by go_simp) ((known5 _).mono ?_)
  rintro e wn ⟨rfl, hb⟩
  refine ⟨_, rfl, hb, ?_⟩
  replace EY := hid (EY.out.trans hb)
  clear hb
  simp only [Act.put, pA, pB, pC]
  refine WE.pure (d := some 8) rfl rfl (by rfl) (v := (.bool false)) (fun w' hk => by go_simp) ?_
  simp only [Act.put, pA, pB, pC]
  refine WE.done ?_
  go_upto_region 3 with (fail)
  refine wp_region_T [(0, 0), (1, 1), (2, 0), (3, 0), (4, 0), (5, 1), (6, 0), (7, 0), (8, 0), (9, 0), (10, 1), (11, 0), (12, 0), (13, 0), (14, 0), (15, 1), (16, 0), (17, 0)] (by kernel_rfl) fun wd hb => ?_
  replace EY := hid (EY.out.trans hb)
  clear hb
  refine WE.pure (d := some 9) rfl rfl (by rfl) (v := (.agg #[.bool ga, .slice Aa na ca, .slice Ba ma da])) (fun w' hk => ?_) ?_
  · obtain ⟨ce0, ce1, ce2⟩ := ((BX0.out.up EY.out).up hk).c3; go_simp
  simp only [Act.put, pA, pB, pC]
  refine WE.call (d := some 10) rfl rfl (by rfl) (by go_simp) ((few5 (g := ga) (Na.out.up EY.out) (Ma.out.up EY.out) fa.out).mono ?_)
  rintro e wn ⟨rfl, hb⟩
  refine ⟨_, rfl, hb, ?_⟩
  replace EY := hid (EY.out.trans hb)
  clear hb
  simp only [Act.put, pA, pB, pC]
  refine WE.pure (d := some 11) rfl rfl (by rfl) (v := (.bool false)) (fun w' hk => by go_simp) ?_
  simp only [Act.put, pA, pB, pC]
  refine WE.pure (d := some 12) rfl rfl (by rfl) (v := (.bool false)) (fun w' hk => by go_simp) ?_
  simp only [Act.put, pA, pB, pC]
  refine WE.pure (d := some 13) rfl rfl (by rfl) (v := (.agg #[.bool gb, .slice Ab nb cb, .slice Bb mb db])) (fun w' hk => ?_) ?_
  · obtain ⟨ce0, ce1, ce2⟩ := ((BX1.out.up EY.out).up hk).c3; go_simp
  simp only [Act.put, pA, pB, pC]
  refine WE.call (d := some 14) rfl rfl (by rfl) (by go_simp) ((few5 (g := gb) (Nb.out.up EY.out) (Mb.out.up EY.out) fb.out).mono ?_)
  rintro e wn ⟨rfl, hb⟩
  refine ⟨_, rfl, hb, ?_⟩
  replace EY := hid (EY.out.trans hb)
  clear hb
  simp only [Act.put, pA, pB, pC]
  refine WE.pure (d := some 15) rfl rfl (by rfl) (v := (.bool true)) (fun w' hk => by go_simp) ?_
  simp only [Act.put, pA, pB, pC]
  refine WE.pure (d := some 16) rfl rfl (by rfl) (v := (.bool true)) (fun w' hk => by go_simp) ?_
  simp only [Act.put, pA, pB, pC]
  refine WE.pure (d := some 17) rfl rfl (by rfl) (v := (.bool true)) (fun w' hk => by go_simp) ?_
  simp only [Act.put, pA, pB, pC]
  refine WE.skip (d := some 18) rfl rfl (by rfl) ?_
  simp only [Act.put, pA, pB, pC]
  refine WE.pass (d := some 19) rfl rfl (by rfl) ?_
  simp only [Act.put, pA, pB, pC]
  refine WE.skip (d := some 20) rfl rfl (by rfl) ?_
  simp only [Act.put, pA, pB, pC]
  refine WE.pure (d := some 21) rfl rfl (by rfl) (v := (.bool true)) (fun w' hk => by go_simp) ?_
  simp only [Act.put, pA, pB, pC]
  refine WE.pure (d := some 22) rfl rfl (by rfl) (v := (.bool true)) (fun w' hk => by go_simp) ?_
  simp only [Act.put, pA, pB, pC]
  refine WE.skip (d := some 23) rfl rfl (by rfl) ?_
  simp only [Act.put, pA, pB, pC]
  refine WE.pass (d := some 24) rfl rfl (by rfl) ?_
  simp only [Act.put, pA, pB, pC]
  refine WE.skip (d := some 25) rfl rfl (by rfl) ?_
  simp only [Act.put, pA, pB, pC]
  refine WE.pure (d := some 26) rfl rfl (by rfl) (v := (.bool true)) (fun w' hk => by go_simp) ?_
  simp only [Act.put, pA, pB, pC]
  refine WE.done ?_
  repeat go_step
  go_ret
  exact ⟨rfl, (E.out.trans EY.out)⟩

set_option maxRecDepth 100000 in
set_option maxHeartbeats 2000000 in
theorem ratBetween_skip2 (W : World) (ga : Bool) (Aa : Option Addr) (na ca : Nat) (la : List Nat) (Ba : Option Addr) (ma da : Nat) (ra : List Nat) (ha : Num W W.heap.size (.slice Aa na ca) la) (ka : Num W W.heap.size (.slice Ba ma da) ra) (gb : Bool) (Ab : Option Addr) (nb cb : Nat) (lb : List Nat) (Bb : Option Addr) (mb db : Nat) (rb : List Nat) (hb : Num W W.heap.size (.slice Ab nb cb) lb) (kb : Num W W.heap.size (.slice Bb mb db) rb) (fa : Hid ((decide (la.length ≤ 4) && decide (ra.length ≤ 4)) = true)) (fb : Hid ((decide (lb.length ≤ 4) && decide (rb.length ≤ 4)) = true)) (ia : Hid (M.isR ga la ra = false)) :
    Calls Tryz.prog 6 #[.agg #[.bool ga, .slice Aa na ca, .slice Ba ma da], .agg #[.bool gb, .slice Ab nb cb, .slice Bb mb db]] W (fun e w' => e = .returned (.bool true) ∧ Ext W w') := by
  have Na := hid ha
  have Ma := hid ka
  have Nb := hid hb
  have Mb := hid kb
  have KLa := hid (few_l fa.out)
  have KRa := hid (few_r fa.out)
  clear ha ka hb kb
  go_enter Tryz.func6, Tryz.ntmps6
  go_upto_region 1 with (fail)
  have E := hid (((Ext.refl W).alloc' (.cells #[.bool ga, .slice Aa na ca, .slice Ba ma da] 26)).alloc' (.cells #[.bool gb, .slice Ab nb cb, .slice Bb mb db] 26))
  have BX0 : Hid (Box ((W.alloc (.cells #[.bool ga, .slice Aa na ca, .slice Ba ma da] 26)).alloc (.cells #[.bool gb, .slice Ab nb cb, .slice Bb mb db] 26)) (W.heap.size) #[.bool ga, .slice Aa na ca, .slice Ba ma da] 26) := hid ((Box.at_ (w := W) #[.bool ga, .slice Aa na ca, .slice Ba ma da] 26 (by simp)).alloc (.cells #[.bool gb, .slice Ab nb cb, .slice Bb mb db] 26))
  have BX1 : Hid (Box ((W.alloc (.cells #[.bool ga, .slice Aa na ca, .slice Ba ma da] 26)).alloc (.cells #[.bool gb, .slice Ab nb cb, .slice Bb mb db] 26)) (W.heap.size + 1) #[.bool gb, .slice Ab nb cb, .slice Bb mb db] 26) := hid (Box.at_ (w := (W.alloc (.cells #[.bool ga, .slice Aa na ca, .slice Ba ma da] 26))) #[.bool gb, .slice Ab nb cb, .slice Bb mb db] 26 (by simp))
  replace Na := hid (Na.out.up E.out)
  replace Ma := hid (Ma.out.up E.out)
  replace Nb := hid (Nb.out.up E.out)
  replace Mb := hid (Mb.out.up E.out)
  refine wp_region_T [(0, 1), (1, 0)] (by kernel_rfl) fun wd hb => ?_
  replace E := hid (E.out.trans hb)
  replace BX0 := hid (BX0.out.up hb)
  replace BX1 := hid (BX1.out.up hb)
  replace Na := hid (Na.out.up hb)
  replace Ma := hid (Ma.out.up hb)
  replace Nb := hid (Nb.out.up hb)
  replace Mb := hid (Mb.out.up hb)
  clear hb
  have EY := hid (Ext.refl wd)
  refine WE.call (d := some 7) rfl rfl (by rfl) (by go_simp) ((known5 _).mono ?_)
  rintro e wn ⟨rfl, hb⟩
  refine ⟨_, rfl, hb, ?_⟩
  replace EY := hid (EY.out.trans hb)
  clear hb
  simp only [Act.put, pA, pB, pC]
  refine WE.pure (d := some 8) rfl rfl (by rfl) (v := (.bool false)) (fun w' hk => by go_simp) ?_
  simp only [Act.put, pA, pB, pC]
  refine WE.done ?_
  go_upto_region 3 with (fail)
  refine wp_region_T [(0, 0), (1, 1), (2, 0), (3, 0), (4, 0), (5, 1), (6, 0), (7, 0), (8, 0), (9, 0), (10, 1), (11, 0), (12, 0), (13, 0), (14, 0), (15, 1), (16, 0), (17, 0)] (by kernel_rfl) fun wd hb => ?_
  replace EY := hid (EY.out.trans hb)
  clear hb
  refine WE.pure (d := some 9) rfl rfl (by rfl) (v := (.agg #[.bool ga, .slice Aa na ca, .slice Ba ma da])) (fun w' hk => ?_) ?_
  · obtain ⟨ce0, ce1, ce2⟩ := ((BX0.out.up EY.out).up hk).c3; go_simp
  simp only [Act.put, pA, pB, pC]
  refine WE.call (d := some 10) rfl rfl (by rfl) (by go_simp) ((few5 (g := ga) (Na.out.up EY.out) (Ma.out.up EY.out) fa.out).mono ?_)
  rintro e wn ⟨rfl, hb⟩
  refine ⟨_, rfl, hb, ?_⟩
  replace EY := hid (EY.out.trans hb)
  clear hb
  simp only [Act.put, pA, pB, pC]
  refine WE.pure (d := some 11) rfl rfl (by rfl) (v := (.bool false)) (fun w' hk => by go_simp) ?_
  simp only [Act.put, pA, pB, pC]
  refine WE.pure (d := some 12) rfl rfl (by rfl) (v := (.bool false)) (fun w' hk => by go_simp) ?_
  simp only [Act.put, pA, pB, pC]
  refine WE.pure (d := some 13) rfl rfl (by rfl) (v := (.agg #[.bool gb, .slice Ab nb cb, .slice Bb mb db])) (fun w' hk => ?_) ?_
  · obtain ⟨ce0, ce1, ce2⟩ := ((BX1.out.up EY.out).up hk).c3; go_simp
  simp only [Act.put, pA, pB, pC]
  refine WE.call (d := some 14) rfl rfl (by rfl) (by go_simp) ((few5 (g := gb) (Nb.out.up EY.out) (Mb.out.up EY.out) fb.out).mono ?_)
  rintro e wn ⟨rfl, hb⟩
  refine ⟨_, rfl, hb, ?_⟩
  replace EY := hid (EY.out.trans hb)
  clear hb
  simp only [Act.put, pA, pB, pC]
  refine WE.pure (d := some 15) rfl rfl (by rfl) (v := (.bool false)) (fun w' hk => by go_simp) ?_
  simp only [Act.put, pA, pB, pC]
  refine WE.pure (d := some 16) rfl rfl (by rfl) (v := (.bool false)) (fun w' hk => by go_simp) ?_
  simp only [Act.put, pA, pB, pC]
  refine WE.pure (d := some 17) rfl rfl (by rfl) (v := (.bool false)) (fun w' hk => by go_simp) ?_
  simp only [Act.put, pA, pB, pC]
  refine WE.pure (d := some 18) rfl rfl (by rfl) (v := (.agg #[.bool ga, .slice Aa na ca, .slice Ba ma da])) (fun w' hk => ?_) ?_
  · obtain ⟨ce0, ce1, ce2⟩ := ((BX0.out.up EY.out).up hk).c3; go_simp
  simp only [Act.put, pA, pB, pC]
  refine WE.call (d := some 19) rfl rfl (by rfl) (by go_simp) ((fIs_any (Na.out.up EY.out) (Ma.out.up EY.out) KLa.out KRa.out (by omega) ia.out).mono ?_)
  rintro e wn ⟨rfl, hb⟩
  refine ⟨_, rfl, hb, ?_⟩
  replace EY := hid (EY.out.trans hb)
  clear hb
  simp only [Act.put, pA, pB, pC]
  refine WE.pure (d := some 20) rfl rfl (by rfl) (v := (.bool true)) (fun w' hk => by go_simp) ?_
  simp only [Act.put, pA, pB, pC]
  refine WE.pure (d := some 21) rfl rfl (by rfl) (v := (.bool true)) (fun w' hk => by go_simp) ?_
  simp only [Act.put, pA, pB, pC]
  refine WE.pure (d := some 22) rfl rfl (by rfl) (v := (.bool true)) (fun w' hk => by go_simp) ?_
  simp only [Act.put, pA, pB, pC]
  refine WE.skip (d := some 23) rfl rfl (by rfl) ?_
  simp only [Act.put, pA, pB, pC]
  refine WE.pass (d := some 24) rfl rfl (by rfl) ?_
  simp only [Act.put, pA, pB, pC]
  refine WE.skip (d := some 25) rfl rfl (by rfl) ?_
  simp only [Act.put, pA, pB, pC]
  refine WE.pure (d := some 26) rfl rfl (by rfl) (v := (.bool true)) (fun w' hk => by go_simp) ?_
  simp only [Act.put, pA, pB, pC]
  refine WE.done ?_
  repeat go_step
  go_ret
  exact ⟨rfl, (E.out.trans EY.out)⟩

set_option maxRecDepth 100000 in
set_option maxHeartbeats 2000000 in
theorem ratBetween_skip3 (W : World) (ga : Bool) (Aa : Option Addr) (na ca : Nat) (la : List Nat) (Ba : Option Addr) (ma da : Nat) (ra : List Nat) (ha : Num W W.heap.size (.slice Aa na ca) la) (ka : Num W W.heap.size (.slice Ba ma da) ra) (gb : Bool) (Ab : Option Addr) (nb cb : Nat) (lb : List Nat) (Bb : Option Addr) (mb db : Nat) (rb : List Nat) (hb : Num W W.heap.size (.slice Ab nb cb) lb) (kb : Num W W.heap.size (.slice Bb mb db) rb) (fa : Hid ((decide (la.length ≤ 4) && decide (ra.length ≤ 4)) = true)) (fb : Hid ((decide (lb.length ≤ 4) && decide (rb.length ≤ 4)) = true)) (ia : Hid (M.isR ga la ra = true)) (ib : Hid (M.isR gb lb rb = false)) :
    Calls Tryz.prog 6 #[.agg #[.bool ga, .slice Aa na ca, .slice Ba ma da], .agg #[.bool gb, .slice Ab nb cb, .slice Bb mb db]] W (fun e w' => e = .returned (.bool true) ∧ Ext W w') := by
  have Na := hid ha
  have Ma := hid ka
  have Nb := hid hb
  have Mb := hid kb
  have KLa := hid (few_l fa.out)
  have KLb := hid (few_l fb.out)
  have KRa := hid (few_r fa.out)
  have KRb := hid (few_r fb.out)
  clear ha ka hb kb
  go_enter Tryz.func6, Tryz.ntmps6
  go_upto_region 1 with (fail)
  have E := hid (((Ext.refl W).alloc' (.cells #[.bool ga, .slice Aa na ca, .slice Ba ma da] 26)).alloc' (.cells #[.bool gb, .slice Ab nb cb, .slice Bb mb db] 26))
  have BX0 : Hid (Box ((W.alloc (.cells #[.bool ga, .slice Aa na ca, .slice Ba ma da] 26)).alloc (.cells #[.bool gb, .slice Ab nb cb, .slice Bb mb db] 26)) (W.heap.size) #[.bool ga, .slice Aa na ca, .slice Ba ma da] 26) := hid ((Box.at_ (w := W) #[.bool ga, .slice Aa na ca, .slice Ba ma da] 26 (by simp)).alloc (.cells #[.bool gb, .slice Ab nb cb, .slice Bb mb db] 26))
  have BX1 : Hid (Box ((W.alloc (.cells #[.bool ga, .slice Aa na ca, .slice Ba ma da] 26)).alloc (.cells #[.bool gb, .slice Ab nb cb, .slice Bb mb db] 26)) (W.heap.size + 1) #[.bool gb, .slice Ab nb cb, .slice Bb mb db] 26) := hid (Box.at_ (w := (W.alloc (.cells #[.bool ga, .slice Aa na ca, .slice Ba ma da] 26))) #[.bool gb, .slice Ab nb cb, .slice Bb mb db] 26 (by simp))
  replace Na := hid (Na.out.up E.out)
  replace Ma := hid (Ma.out.up E.out)
  replace Nb := hid (Nb.out.up E.out)
  replace Mb := hid (Mb.out.up E.out)
  refine wp_region_T [(0, 1), (1, 0)] (by kernel_rfl) fun wd hb => ?_
  replace E := hid (E.out.trans hb)
  replace BX0 := hid (BX0.out.up hb)
  replace BX1 := hid (BX1.out.up hb)
  replace Na := hid (Na.out.up hb)
  replace Ma := hid (Ma.out.up hb)
  replace Nb := hid (Nb.out.up hb)
  replace Mb := hid (Mb.out.up hb)
  clear hb
  have EY := hid (Ext.refl wd)
  refine WE.call (d := some 7) rfl rfl (by rfl) (by go_simp) ((known5 _).mono ?_)
  rintro e wn ⟨rfl, hb⟩
  refine ⟨_, rfl, hb, ?_⟩
  replace EY := hid (EY.out.trans hb)
  clear hb
  simp only [Act.put, pA, pB, pC]
  refine WE.pure (d := some 8) rfl rfl (by rfl) (v := (.bool false)) (fun w' hk => by go_simp) ?_
  simp only [Act.put, pA, pB, pC]
  refine WE.done ?_
  go_upto_region 3 with (fail)
  refine wp_region_T [(0, 0), (1, 1), (2, 0), (3, 0), (4, 0), (5, 1), (6, 0), (7, 0), (8, 0), (9, 0), (10, 1), (11, 0), (12, 0), (13, 0), (14, 0), (15, 1), (16, 0), (17, 0)] (by kernel_rfl) fun wd hb => ?_
  replace EY := hid (EY.out.trans hb)
  clear hb
  refine WE.pure (d := some 9) rfl rfl (by rfl) (v := (.agg #[.bool ga, .slice Aa na ca, .slice Ba ma da])) (fun w' hk => ?_) ?_
  · obtain ⟨ce0, ce1, ce2⟩ := ((BX0.out.up EY.out).up hk).c3; go_simp
  simp only [Act.put, pA, pB, pC]
  refine WE.call (d := some 10) rfl rfl (by rfl) (by go_simp) ((few5 (g := ga) (Na.out.up EY.out) (Ma.out.up EY.out) fa.out).mono ?_)
  rintro e wn ⟨rfl, hb⟩
  refine ⟨_, rfl, hb, ?_⟩
  replace EY := hid (EY.out.trans hb)
  clear hb
  simp only [Act.put, pA, pB, pC]
  refine WE.pure (d := some 11) rfl rfl (by rfl) (v := (.bool false)) (fun w' hk => by go_simp) ?_
  simp only [Act.put, pA, pB, pC]
  refine WE.pure (d := some 12) rfl rfl (by rfl) (v := (.bool false)) (fun w' hk => by go_simp) ?_
  simp only [Act.put, pA, pB, pC]
  refine WE.pure (d := some 13) rfl rfl (by rfl) (v := (.agg #[.bool gb, .slice Ab nb cb, .slice Bb mb db])) (fun w' hk => ?_) ?_
  · obtain ⟨ce0, ce1, ce2⟩ := ((BX1.out.up EY.out).up hk).c3; go_simp
  simp only [Act.put, pA, pB, pC]
  refine WE.call (d := some 14) rfl rfl (by rfl) (by go_simp) ((few5 (g := gb) (Nb.out.up EY.out) (Mb.out.up EY.out) fb.out).mono ?_)
  rintro e wn ⟨rfl, hb⟩
  refine ⟨_, rfl, hb, ?_⟩
  replace EY := hid (EY.out.trans hb)
  clear hb
  simp only [Act.put, pA, pB, pC]
  refine WE.pure (d := some 15) rfl rfl (by rfl) (v := (.bool false)) (fun w' hk => by go_simp) ?_
  simp only [Act.put, pA, pB, pC]
  refine WE.pure (d := some 16) rfl rfl (by rfl) (v := (.bool false)) (fun w' hk => by go_simp) ?_
  simp only [Act.put, pA, pB, pC]
  refine WE.pure (d := some 17) rfl rfl (by rfl) (v := (.bool false)) (fun w' hk => by go_simp) ?_
  simp only [Act.put, pA, pB, pC]
  refine WE.pure (d := some 18) rfl rfl (by rfl) (v := (.agg #[.bool ga, .slice Aa na ca, .slice Ba ma da])) (fun w' hk => ?_) ?_
  · obtain ⟨ce0, ce1, ce2⟩ := ((BX0.out.up EY.out).up hk).c3; go_simp
  simp only [Act.put, pA, pB, pC]
  refine WE.call (d := some 19) rfl rfl (by rfl) (by go_simp) ((fIs_any (Na.out.up EY.out) (Ma.out.up EY.out) KLa.out KRa.out (by omega) ia.out).mono ?_)
  rintro e wn ⟨rfl, hb⟩
  refine ⟨_, rfl, hb, ?_⟩
  replace EY := hid (EY.out.trans hb)
  clear hb
  simp only [Act.put, pA, pB, pC]
  refine WE.pure (d := some 20) rfl rfl (by rfl) (v := (.bool false)) (fun w' hk => by go_simp) ?_
  simp only [Act.put, pA, pB, pC]
  refine WE.pure (d := some 21) rfl rfl (by rfl) (v := (.bool false)) (fun w' hk => by go_simp) ?_
  simp only [Act.put, pA, pB, pC]
  refine WE.pure (d := some 22) rfl rfl (by rfl) (v := (.bool false)) (fun w' hk => by go_simp) ?_
  simp only [Act.put, pA, pB, pC]
  refine WE.pure (d := some 23) rfl rfl (by rfl) (v := (.agg #[.bool gb, .slice Ab nb cb, .slice Bb mb db])) (fun w' hk => ?_) ?_
  · obtain ⟨ce0, ce1, ce2⟩ := ((BX1.out.up EY.out).up hk).c3; go_simp
  simp only [Act.put, pA, pB, pC]
  refine WE.call (d := some 24) rfl rfl (by rfl) (by go_simp) ((fIs_any (Nb.out.up EY.out) (Mb.out.up EY.out) KLb.out KRb.out (by omega) ib.out).mono ?_)
  rintro e wn ⟨rfl, hb⟩
  refine ⟨_, rfl, hb, ?_⟩
  replace EY := hid (EY.out.trans hb)
  clear hb
  simp only [Act.put, pA, pB, pC]
  refine WE.pure (d := some 25) rfl rfl (by rfl) (v := (.bool true)) (fun w' hk => by go_simp) ?_
  simp only [Act.put, pA, pB, pC]
  refine WE.pure (d := some 26) rfl rfl (by rfl) (v := (.bool true)) (fun w' hk => by go_simp) ?_
  simp only [Act.put, pA, pB, pC]
  refine WE.done ?_
  repeat go_step
  go_ret
  exact ⟨rfl, (E.out.trans EY.out)⟩

set_option maxRecDepth 100000 in
set_option maxHeartbeats 8000000 in
theorem ratBetween_main (W : World) (ga : Bool) (Aa : Option Addr) (na ca : Nat) (la : List Nat) (Ba : Option Addr) (ma da : Nat) (ra : List Nat) (ha : Num W W.heap.size (.slice Aa na ca) la) (ka : Num W W.heap.size (.slice Ba ma da) ra) (gb : Bool) (Ab : Option Addr) (nb cb : Nat) (lb : List Nat) (Bb : Option Addr) (mb db : Nat) (rb : List Nat) (hb : Num W W.heap.size (.slice Ab nb cb) lb) (kb : Num W W.heap.size (.slice Bb mb db) rb) (fa : Hid ((decide (la.length ≤ 4) && decide (ra.length ≤ 4)) = true)) (fb : Hid ((decide (lb.length ≤ 4) && decide (rb.length ≤ 4)) = true)) (ia : Hid (M.isR ga la ra = true)) (ib : Hid (M.isR gb lb rb = true)) (x : Rat) (HX : Hid (x = M.rv ga la ra)) (y : Rat) (HY : Hid (y = M.rv gb lb rb)) :
    Calls Tryz.prog 6 #[.agg #[.bool ga, .slice Aa na ca, .slice Ba ma da], .agg #[.bool gb, .slice Ab nb cb, .slice Bb mb db]] W (fun e w' => e = .returned (.bool true) ∧ Ext W w') := by
  have Na := hid ha
  have Ma := hid ka
  have Nb := hid hb
  have Mb := hid kb
  have KLa := hid (few_l fa.out)
  have KRa := hid (few_r fa.out)
  have Ra := hid (worthR_of ha ka KLa.out KRa.out HX.out)
  have KLb := hid (few_l fb.out)
  have KRb := hid (few_r fb.out)
  have Rb := hid (worthR_of hb kb KLb.out KRb.out HY.out)
  obtain ⟨z, hz⟩ : ∃ z : Int, M.rcmp x y = z := ⟨_, rfl⟩
  obtain ⟨nz, hnz⟩ : ∃ n : Int, -z = n := ⟨_, rfl⟩
  obtain ⟨b, hb⟩ : ∃ b : Bool, decide (x = y) = b := ⟨_, rfl⟩
  have hzb : (z == 0) = b := by rw [← hb, ← hz, Bool.eq_iff_iff, beq_iff_eq, decide_eq_true_iff]; exact M.rcmp_eq
  have hzr := M.rcmp_range x y
  have hwz : IntKind.i64.wrap nz = nz := by rw [IntKind.wrap_i64]; omega
  have HZ := hid hz
  have HNZ := hid hnz
  have HB := hid hb
  clear hz hb hzr
  clear ha ka hb kb
  go_enter Tryz.func6, Tryz.ntmps6
  go_upto_region 1 with (fail)
  have E := hid (((Ext.refl W).alloc' (.cells #[.bool ga, .slice Aa na ca, .slice Ba ma da] 26)).alloc' (.cells #[.bool gb, .slice Ab nb cb, .slice Bb mb db] 26))
  have BX0 : Hid (Box ((W.alloc (.cells #[.bool ga, .slice Aa na ca, .slice Ba ma da] 26)).alloc (.cells #[.bool gb, .slice Ab nb cb, .slice Bb mb db] 26)) (W.heap.size) #[.bool ga, .slice Aa na ca, .slice Ba ma da] 26) := hid ((Box.at_ (w := W) #[.bool ga, .slice Aa na ca, .slice Ba ma da] 26 (by simp)).alloc (.cells #[.bool gb, .slice Ab nb cb, .slice Bb mb db] 26))
  have BX1 : Hid (Box ((W.alloc (.cells #[.bool ga, .slice Aa na ca, .slice Ba ma da] 26)).alloc (.cells #[.bool gb, .slice Ab nb cb, .slice Bb mb db] 26)) (W.heap.size + 1) #[.bool gb, .slice Ab nb cb, .slice Bb mb db] 26) := hid (Box.at_ (w := (W.alloc (.cells #[.bool ga, .slice Aa na ca, .slice Ba ma da] 26))) #[.bool gb, .slice Ab nb cb, .slice Bb mb db] 26 (by simp))
  replace Na := hid (Na.out.up E.out)
  replace Ma := hid (Ma.out.up E.out)
  replace Nb := hid (Nb.out.up E.out)
  replace Mb := hid (Mb.out.up E.out)
  replace Ra := hid (Ra.out.up E.out)
  replace Rb := hid (Rb.out.up E.out)
  refine wp_region_T [(0, 1), (1, 0)] (by kernel_rfl) fun wd hb => ?_
  replace E := hid (E.out.trans hb)
  replace BX0 := hid (BX0.out.up hb)
  replace BX1 := hid (BX1.out.up hb)
  replace Na := hid (Na.out.up hb)
  replace Ma := hid (Ma.out.up hb)
  replace Nb := hid (Nb.out.up hb)
  replace Mb := hid (Mb.out.up hb)
  replace Ra := hid (Ra.out.up hb)
  replace Rb := hid (Rb.out.up hb)
  clear hb
  have EY := hid (Ext.refl wd)
  refine WE.call (d := some 7) rfl rfl (by rfl) (by go_simp) ((known5 _).mono ?_)
  rintro e wn ⟨rfl, hb⟩
  refine ⟨_, rfl, hb, ?_⟩
  replace EY := hid (EY.out.trans hb)
  clear hb
  simp only [Act.put, pA, pB, pC]
  refine WE.pure (d := some 8) rfl rfl (by rfl) (v := (.bool false)) (fun w' hk => by go_simp) ?_
  simp only [Act.put, pA, pB, pC]
  refine WE.done ?_
  go_upto_region 3 with (fail)
  refine wp_region_T [(0, 0), (1, 1), (2, 0), (3, 0), (4, 0), (5, 1), (6, 0), (7, 0), (8, 0), (9, 0), (10, 1), (11, 0), (12, 0), (13, 0), (14, 0), (15, 1), (16, 0), (17, 0)] (by kernel_rfl) fun wd hb => ?_
  replace EY := hid (EY.out.trans hb)
  clear hb
  refine WE.pure (d := some 9) rfl rfl (by rfl) (v := (.agg #[.bool ga, .slice Aa na ca, .slice Ba ma da])) (fun w' hk => ?_) ?_
  · obtain ⟨ce0, ce1, ce2⟩ := ((BX0.out.up EY.out).up hk).c3; go_simp
  simp only [Act.put, pA, pB, pC]
  refine WE.call (d := some 10) rfl rfl (by rfl) (by go_simp) ((few5 (g := ga) (Na.out.up EY.out) (Ma.out.up EY.out) fa.out).mono ?_)
  rintro e wn ⟨rfl, hb⟩
  refine ⟨_, rfl, hb, ?_⟩
  replace EY := hid (EY.out.trans hb)
  clear hb
  simp only [Act.put, pA, pB, pC]
  refine WE.pure (d := some 11) rfl rfl (by rfl) (v := (.bool false)) (fun w' hk => by go_simp) ?_
  simp only [Act.put, pA, pB, pC]
  refine WE.pure (d := some 12) rfl rfl (by rfl) (v := (.bool false)) (fun w' hk => by go_simp) ?_
  simp only [Act.put, pA, pB, pC]
  refine WE.pure (d := some 13) rfl rfl (by rfl) (v := (.agg #[.bool gb, .slice Ab nb cb, .slice Bb mb db])) (fun w' hk => ?_) ?_
  · obtain ⟨ce0, ce1, ce2⟩ := ((BX1.out.up EY.out).up hk).c3; go_simp
  simp only [Act.put, pA, pB, pC]
  refine WE.call (d := some 14) rfl rfl (by rfl) (by go_simp) ((few5 (g := gb) (Nb.out.up EY.out) (Mb.out.up EY.out) fb.out).mono ?_)
  rintro e wn ⟨rfl, hb⟩
  refine ⟨_, rfl, hb, ?_⟩
  replace EY := hid (EY.out.trans hb)
  clear hb
  simp only [Act.put, pA, pB, pC]
  refine WE.pure (d := some 15) rfl rfl (by rfl) (v := (.bool false)) (fun w' hk => by go_simp) ?_
  simp only [Act.put, pA, pB, pC]
  refine WE.pure (d := some 16) rfl rfl (by rfl) (v := (.bool false)) (fun w' hk => by go_simp) ?_
  simp only [Act.put, pA, pB, pC]
  refine WE.pure (d := some 17) rfl rfl (by rfl) (v := (.bool false)) (fun w' hk => by go_simp) ?_
  simp only [Act.put, pA, pB, pC]
  as_aux_lemma =>
  refine WE.pure (d := some 18) rfl rfl (by rfl) (v := (.agg #[.bool ga, .slice Aa na ca, .slice Ba ma da])) (fun w' hk => ?_) ?_
  · obtain ⟨ce0, ce1, ce2⟩ := ((BX0.out.up EY.out).up hk).c3; go_simp
  simp only [Act.put, pA, pB, pC]
  refine WE.call (d := some 19) rfl rfl (by rfl) (by go_simp) ((fIs_any (Na.out.up EY.out) (Ma.out.up EY.out) KLa.out KRa.out (by omega) ia.out).mono ?_)
  rintro e wn ⟨rfl, hb⟩
  refine ⟨_, rfl, hb, ?_⟩
  replace EY := hid (EY.out.trans hb)
  clear hb
  simp only [Act.put, pA, pB, pC]
  refine WE.pure (d := some 20) rfl rfl (by rfl) (v := (.bool false)) (fun w' hk => by go_simp) ?_
  simp only [Act.put, pA, pB, pC]
  refine WE.pure (d := some 21) rfl rfl (by rfl) (v := (.bool false)) (fun w' hk => by go_simp) ?_
  simp only [Act.put, pA, pB, pC]
  refine WE.pure (d := some 22) rfl rfl (by rfl) (v := (.bool false)) (fun w' hk => by go_simp) ?_
  simp only [Act.put, pA, pB, pC]
  refine WE.pure (d := some 23) rfl rfl (by rfl) (v := (.agg #[.bool gb, .slice Ab nb cb, .slice Bb mb db])) (fun w' hk => ?_) ?_
  · obtain ⟨ce0, ce1, ce2⟩ := ((BX1.out.up EY.out).up hk).c3; go_simp
  simp only [Act.put, pA, pB, pC]
  refine WE.call (d := some 24) rfl rfl (by rfl) (by go_simp) ((fIs_any (Nb.out.up EY.out) (Mb.out.up EY.out) KLb.out KRb.out (by omega) ib.out).mono ?_)
  rintro e wn ⟨rfl, hb⟩
  refine ⟨_, rfl, hb, ?_⟩
  replace EY := hid (EY.out.trans hb)
  clear hb
  simp only [Act.put, pA, pB, pC]
  refine WE.pure (d := some 25) rfl rfl (by rfl) (v := (.bool false)) (fun w' hk => by go_simp) ?_
  simp only [Act.put, pA, pB, pC]
  refine WE.pure (d := some 26) rfl rfl (by rfl) (v := (.bool false)) (fun w' hk => by go_simp) ?_
  simp only [Act.put, pA, pB, pC]
  refine WE.done ?_
  go_upto_region 5 with (fail)
  refine wp_region_T [(0, 0), (1, 0), (2, 1), (3, 1), (4, 1), (5, 1), (6, 1), (7, 1), (8, 4)] (by kernel_rfl) fun wd hb => ?_
  replace EY := hid (EY.out.trans hb)
  clear hb
  refine WE.pure (d := some 27) rfl rfl (by rfl) (v := (.agg #[.bool ga, .slice Aa na ca, .slice Ba ma da])) (fun w' hk => ?_) ?_
  · obtain ⟨ce0, ce1, ce2⟩ := ((BX0.out.up EY.out).up hk).c3; go_simp
  simp only [Act.put, pA, pB, pC]
  refine WE.pure (d := some 28) rfl rfl (by rfl) (v := (.agg #[.bool gb, .slice Ab nb cb, .slice Bb mb db])) (fun w' hk => ?_) ?_
  · obtain ⟨ce0, ce1, ce2⟩ := ((BX1.out.up EY.out).up hk).c3; go_simp
  simp only [Act.put, pA, pB, pC]
  refine WE.call (d := some 29) rfl rfl (by rfl) (by go_simp) ((fAdd_r (WorthR.wide (Ra.out.up EY.out) (k := 4) (by omega)) (WorthR.wide (Rb.out.up EY.out) (k := 4) (by omega)) (by omega) (by omega)).mono ?_)
  rintro e wn ⟨v1, rfl, x1, hb⟩
  obtain ⟨g11, A11, n11, c11, B11, m11, d11, rfl, p1, q1⟩ := x1
  refine ⟨_, rfl, hb, ?_⟩
  replace EY := hid (EY.out.trans hb)
  have P11 := hid p1
  have D11 := hid q1
  clear hb p1 q1
  simp only [Act.put, pA, pB, pC]
  as_aux_lemma =>
  refine WE.call (d := some 30) rfl rfl (by rfl) (by go_simp) ((rOf_z (n := (1)) (by decide) (by decide) _).mono ?_)
  rintro e wn ⟨v1, rfl, x1, hb⟩
  obtain ⟨g12, A12, n12, c12, rfl⟩ := x1.shape
  refine ⟨_, rfl, hb, ?_⟩
  replace EY := hid (EY.out.trans hb)
  replace P11 := hid (P11.out.up hb)
  replace D11 := hid (D11.out.up hb)
  have Q12 := hid x1
  clear hb x1
  simp only [Act.put, pA, pB, pC]
  refine WE.call (d := some 31) rfl rfl (by rfl) (by go_simp) ((rOf_z (n := (2)) (by decide) (by decide) _).mono ?_)
  rintro e wn ⟨v1, rfl, x1, hb⟩
  obtain ⟨g13, A13, n13, c13, rfl⟩ := x1.shape
  refine ⟨_, rfl, hb, ?_⟩
  replace EY := hid (EY.out.trans hb)
  replace P11 := hid (P11.out.up hb)
  replace D11 := hid (D11.out.up hb)
  replace Q12 := hid (Q12.out.up hb)
  have Q13 := hid x1
  clear hb x1
  simp only [Act.put, pA, pB, pC]
  refine WE.call (d := some 32) rfl rfl (by rfl) (by go_simp) ((fOf_r (Worth.wide Q12.out.worth (k := 3) (by omega)) (Worth.wide Q13.out.worth (k := 3) (by omega)) (by omega)).mono ?_)
  rintro e wn ⟨v1, rfl, x1, hb⟩
  obtain ⟨g14, A14, n14, c14, B14, m14, d14, rfl, p1, q1⟩ := x1
  refine ⟨_, rfl, hb, ?_⟩
  replace EY := hid (EY.out.trans hb)
  replace P11 := hid (P11.out.up hb)
  replace D11 := hid (D11.out.up hb)
  have P14 := hid p1
  have D14 := hid q1
  clear hb p1 q1
  simp only [Act.put, pA, pB, pC]
  refine WE.call (d := some 33) rfl rfl (by rfl) (by go_simp) ((fMul_r (WorthR.wide (IsR.mk P11.out D11.out).worth (k := 13) (by omega)) (WorthR.wide (IsR.mk P14.out D14.out).worth (k := 13) (by omega)) (by omega) (by omega)).mono ?_)
  rintro e wn ⟨v1, rfl, x1, hb⟩
  obtain ⟨g15, A15, n15, c15, B15, m15, d15, rfl, p1, q1⟩ := x1
  refine ⟨_, rfl, hb, ?_⟩
  replace EY := hid (EY.out.trans hb)
  have P15 := hid p1
  have D15 := hid q1
  clear hb p1 q1
  simp only [Act.put, pA, pB, pC]
  refine WE.new (d := some 5) (cs := #[.bool false, .slice none 0 0, .slice none 0 0]) (t := 26) (v := fun g => (.pointer (some ⟨g, 0, none⟩))) rfl rfl (by rfl) (fun w => by go_simp) fun gV5 wv hx0 hbox hge => ?_
  have HNV5BX0 := hid (show gV5 ≠ (W.heap.size) by have := (BX0.out.up EY.out).lt; omega)
  have HNV5BX1 := hid (show gV5 ≠ (W.heap.size + 1) by have := (BX1.out.up EY.out).lt; omega)
  have HGV5 := hid (show W.heap.size ≤ gV5 by have := (E.out.trans EY.out).size; omega)
  replace EY := hid (EY.out.trans hx0)
  replace P15 := hid (P15.out.up hx0)
  replace D15 := hid (D15.out.up hx0)
  have V5 : Hid (Box wv gV5 #[.bool false, .slice none 0 0, .slice none 0 0] 26) := hid hbox
  clear hx0 hbox hge
  simp only [Act.put, pA, pB, pC]
  refine WE.store3 (g := gV5) (x := .bool g15) (y := .slice A15 n15 c15) (z := .slice B15 m15 d15) (t := 26) rfl rfl (by rfl) (fun w hb => ?_) V5.out (by rfl) fun ws hk hs => ?_
  · obtain ⟨ce0, ce1, ce2⟩ := hb.c3; obtain ⟨f0, f1, f2⟩ := hb.f3; go_simp
  intro hbx
  replace E := hid ((E.out.trans EY.out).keptG hk HGV5.out)
  replace BX0 := hid ((BX0.out.up EY.out).kept hk (by simpa using HNV5BX0.out.symm))
  replace BX1 := hid ((BX1.out.up EY.out).kept hk (by simpa using HNV5BX1.out.symm))
  replace V5 := hid hbx
  replace Ra := hid ((Ra.out.up EY.out).kz hs)
  replace Rb := hid ((Rb.out.up EY.out).kz hs)
  replace P15 := hid (P15.out.kz hs)
  replace D15 := hid (D15.out.kz hs)
  clear hk hs hbx
  replace EY := hid (Ext.refl ws)
  refine WE.done ?_
  go_upto_region 6 with (fail)
  refine wp_region_T [(0, 0), (1, 0), (2, 1), (3, 0)] (by kernel_rfl) fun wd hb => ?_
  replace EY := hid (EY.out.trans hb)
  clear hb
  refine WE.pure (d := some 34) rfl rfl (by rfl) (v := (.agg #[.bool ga, .slice Aa na ca, .slice Ba ma da])) (fun w' hk => ?_) ?_
  · obtain ⟨ce0, ce1, ce2⟩ := ((BX0.out.up EY.out).up hk).c3; go_simp
  simp only [Act.put, pA, pB, pC]
  refine WE.pure (d := some 35) rfl rfl (by rfl) (v := (.agg #[.bool gb, .slice Ab nb cb, .slice Bb mb db])) (fun w' hk => ?_) ?_
  · obtain ⟨ce0, ce1, ce2⟩ := ((BX1.out.up EY.out).up hk).c3; go_simp
  simp only [Act.put, pA, pB, pC]
  refine WE.call (d := some 36) rfl rfl (by rfl) (by go_simp) ((fCmp_r (WorthR.wide (Ra.out.up EY.out) (k := 4) (by omega)) (WorthR.wide (Rb.out.up EY.out) (k := 4) (by omega)) (by omega) (by omega) (z := z) (HZ.out)).mono ?_)
  rintro e wn ⟨rfl, hb⟩
  refine ⟨_, rfl, hb, ?_⟩
  replace EY := hid (EY.out.trans hb)
  clear hb
  simp only [Act.put, pA, pB, pC]
  refine WE.pure (d := some 6) rfl rfl (by rfl) (v := (.int .i64 z)) (fun w' hk => by go_simp) ?_
  simp only [Act.put, pA, pB, pC]
  refine WE.done ?_
  go_upto_region 7 with (fail)
  refine wp_region_E [(0, 0), (1, 0), (3, 0), (2, 1), (4, 0), (5, 0), (6, 0), (7, 0), (9, 0), (8, 1), (10, 0), (11, 0), (12, 0), (13, 0), (14, 0), (16, 0), (17, 0), (15, 1), (18, 0), (19, 0), (20, 0), (21, 0), (22, 0), (24, 0), (25, 0), (23, 1), (26, 0), (27, 0), (28, 0), (29, 0), (31, 0), (34, 0), (35, 0), (30, 1), (32, 1), (33, 1), (36, 0), (37, 0), (38, 0)] (fun _ => (0, #[])) rfl (by kernel_rfl) (by intro j hj; cases hj) (fun _ _ d _ _ => by cases d <;> exact Iff.rfl) fun wd hb => ?_
  replace EY := hid (EY.out.trans hb)
  clear hb
  refine WE.pure (d := some 37) rfl rfl (by rfl) (v := (.agg #[.bool ga, .slice Aa na ca, .slice Ba ma da])) (fun w' hk => ?_) ?_
  · obtain ⟨ce0, ce1, ce2⟩ := ((BX0.out.up EY.out).up hk).c3; go_simp
  simp only [Act.put, pA, pB, pC]
  refine WE.pure (d := some 38) rfl rfl (by rfl) (v := (.agg #[.bool g15, .slice A15 n15 c15, .slice B15 m15 d15])) (fun w' hk => ?_) ?_
  · obtain ⟨ce0, ce1, ce2⟩ := ((V5.out.up EY.out).up hk).c3; go_simp
  simp only [Act.put, pA, pB, pC]
  as_aux_lemma =>
  refine WE.pure (d := some 40) rfl rfl (by rfl) (v := (.int .i64 z)) (fun w' hk => by go_simp) ?_
  simp only [Act.put, pA, pB, pC]
  refine WE.call (d := some 39) rfl rfl (by rfl) (by go_simp) ((fCmp_r (WorthR.wide (Ra.out.up EY.out) (k := 31) (by omega)) (WorthR.wide (IsR.mk (P15.out.up EY.out) (D15.out.up EY.out)).worth (k := 31) (by omega)) (by omega) (by omega) (z := z) (by rw [(M.mid_cmp x y).1]; exact HZ.out)).mono ?_)
  rintro e wn ⟨rfl, hb⟩
  refine ⟨_, rfl, hb, ?_⟩
  replace EY := hid (EY.out.trans hb)
  clear hb
  simp only [Act.put, pA, pB, pC]
  clear P11
  clear D11
  clear Q12
  clear Q13
  clear P14
  clear D14
  refine WE.pure (d := some 41) rfl rfl (by rfl) (v := (.bool true)) (fun w' hk => by go_simp) ?_
  simp only [Act.put, pA, pB, pC]
  refine WE.pure (d := some 42) rfl rfl (by rfl) (v := (.bool true)) (fun w' hk => by go_simp) ?_
  simp only [Act.put, pA, pB, pC]
  refine WE.pure (d := some 43) rfl rfl (by rfl) (v := (.agg #[.bool g15, .slice A15 n15 c15, .slice B15 m15 d15])) (fun w' hk => ?_) ?_
  · obtain ⟨ce0, ce1, ce2⟩ := ((V5.out.up EY.out).up hk).c3; go_simp
  simp only [Act.put, pA, pB, pC]
  refine WE.pure (d := some 44) rfl rfl (by rfl) (v := (.agg #[.bool gb, .slice Ab nb cb, .slice Bb mb db])) (fun w' hk => ?_) ?_
  · obtain ⟨ce0, ce1, ce2⟩ := ((BX1.out.up EY.out).up hk).c3; go_simp
  simp only [Act.put, pA, pB, pC]
  refine WE.pure (d := some 46) rfl rfl (by rfl) (v := (.int .i64 z)) (fun w' hk => by go_simp) ?_
  simp only [Act.put, pA, pB, pC]
  refine WE.call (d := some 45) rfl rfl (by rfl) (by go_simp) ((fCmp_r (WorthR.wide (IsR.mk (P15.out.up EY.out) (D15.out.up EY.out)).worth (k := 31) (by omega)) (WorthR.wide (Rb.out.up EY.out) (k := 31) (by omega)) (by omega) (by omega) (z := z) (by rw [(M.mid_cmp x y).2]; exact HZ.out)).mono ?_)
  rintro e wn ⟨rfl, hb⟩
  refine ⟨_, rfl, hb, ?_⟩
  replace EY := hid (EY.out.trans hb)
  clear hb
  simp only [Act.put, pA, pB, pC]
  refine WE.pure (d := some 47) rfl rfl (by rfl) (v := (.bool true)) (fun w' hk => by go_simp) ?_
  simp only [Act.put, pA, pB, pC]
  refine WE.pure (d := some 48) rfl rfl (by rfl) (v := (.bool true)) (fun w' hk => by go_simp) ?_
  simp only [Act.put, pA, pB, pC]
  refine WE.pure (d := some 49) rfl rfl (by rfl) (v := (.bool true)) (fun w' hk => by go_simp) ?_
  simp only [Act.put, pA, pB, pC]
  refine WE.pure (d := some 50) rfl rfl (by rfl) (v := (.agg #[.bool gb, .slice Ab nb cb, .slice Bb mb db])) (fun w' hk => ?_) ?_
  · obtain ⟨ce0, ce1, ce2⟩ := ((BX1.out.up EY.out).up hk).c3; go_simp
  simp only [Act.put, pA, pB, pC]
  as_aux_lemma =>
  refine WE.pure (d := some 51) rfl rfl (by rfl) (v := (.agg #[.bool ga, .slice Aa na ca, .slice Ba ma da])) (fun w' hk => ?_) ?_
  · obtain ⟨ce0, ce1, ce2⟩ := ((BX0.out.up EY.out).up hk).c3; go_simp
  simp only [Act.put, pA, pB, pC]
  refine WE.pure (d := some 53) rfl rfl (by rfl) (v := (.int .i64 z)) (fun w' hk => by go_simp) ?_
  simp only [Act.put, pA, pB, pC]
  refine WE.pure (d := some 54) rfl rfl (by rfl) (v := (.int .i64 nz)) (fun w' hk => by go_simp) ?_
  simp only [Act.put, pA, pB, pC]
  refine WE.call (d := some 52) rfl rfl (by rfl) (by go_simp) ((fCmp_r (WorthR.wide (Rb.out.up EY.out) (k := 4) (by omega)) (WorthR.wide (Ra.out.up EY.out) (k := 4) (by omega)) (by omega) (by omega) (z := nz) (by rw [M.rcmp_swap, HZ.out]; exact HNZ.out)).mono ?_)
  rintro e wn ⟨rfl, hb⟩
  refine ⟨_, rfl, hb, ?_⟩
  replace EY := hid (EY.out.trans hb)
  clear hb
  simp only [Act.put, pA, pB, pC]
  refine WE.pure (d := some 55) rfl rfl (by rfl) (v := (.bool true)) (fun w' hk => by go_simp) ?_
  simp only [Act.put, pA, pB, pC]
  refine WE.pure (d := some 56) rfl rfl (by rfl) (v := (.bool true)) (fun w' hk => by go_simp) ?_
  simp only [Act.put, pA, pB, pC]
  refine WE.pure (d := some 57) rfl rfl (by rfl) (v := (.bool true)) (fun w' hk => by go_simp) ?_
  simp only [Act.put, pA, pB, pC]
  refine WE.pure (d := some 58) rfl rfl (by rfl) (v := (.agg #[.bool ga, .slice Aa na ca, .slice Ba ma da])) (fun w' hk => ?_) ?_
  · obtain ⟨ce0, ce1, ce2⟩ := ((BX0.out.up EY.out).up hk).c3; go_simp
  simp only [Act.put, pA, pB, pC]
  refine WE.pure (d := some 59) rfl rfl (by rfl) (v := (.agg #[.bool gb, .slice Ab nb cb, .slice Bb mb db])) (fun w' hk => ?_) ?_
  · obtain ⟨ce0, ce1, ce2⟩ := ((BX1.out.up EY.out).up hk).c3; go_simp
  simp only [Act.put, pA, pB, pC]
  refine WE.pure (d := some 61) rfl rfl (by rfl) (v := (.int .i64 z)) (fun w' hk => by go_simp) ?_
  simp only [Act.put, pA, pB, pC]
  refine WE.pure (d := some 62) rfl rfl (by rfl) (v := (.bool b)) (fun w' hk => by go_simp) ?_
  simp only [Act.put, pA, pB, pC]
  refine WE.call (d := some 60) rfl rfl (by rfl) (by go_simp) ((fSame_r (WorthR.wide (Ra.out.up EY.out) (k := 4) (by omega)) (WorthR.wide (Rb.out.up EY.out) (k := 4) (by omega)) (by omega) (by omega) (b := b) (HB.out)).mono ?_)
  rintro e wn ⟨rfl, hb⟩
  refine ⟨_, rfl, hb, ?_⟩
  replace EY := hid (EY.out.trans hb)
  clear hb
  simp only [Act.put, pA, pB, pC]
  as_aux_lemma =>
  refine WE.pure (d := some 63) rfl rfl (by rfl) (v := (.bool true)) (fun w' hk => by go_simp) ?_
  simp only [Act.put, pA, pB, pC]
  refine WE.pure (d := some 64) rfl rfl (by rfl) (v := (.bool true)) (fun w' hk => by go_simp) ?_
  simp only [Act.put, pA, pB, pC]
  refine WE.pure (d := some 65) rfl rfl (by rfl) (v := (.bool true)) (fun w' hk => by go_simp) ?_
  simp only [Act.put, pA, pB, pC]
  refine WE.pure (d := some 66) rfl rfl (by rfl) (v := (.agg #[.bool ga, .slice Aa na ca, .slice Ba ma da])) (fun w' hk => ?_) ?_
  · obtain ⟨ce0, ce1, ce2⟩ := ((BX0.out.up EY.out).up hk).c3; go_simp
  simp only [Act.put, pA, pB, pC]
  refine WE.pure (d := some 68) rfl rfl (by rfl) (v := (.agg #[.bool gb, .slice Ab nb cb, .slice Bb mb db])) (fun w' hk => ?_) ?_
  · obtain ⟨ce0, ce1, ce2⟩ := ((BX1.out.up EY.out).up hk).c3; go_simp
  simp only [Act.put, pA, pB, pC]
  refine WE.pure (d := some 71) rfl rfl (by rfl) (v := (.int .i64 z)) (fun w' hk => by go_simp) ?_
  simp only [Act.put, pA, pB, pC]
  refine WE.pure (d := some 72) rfl rfl (by rfl) (v := (.int .i64 nz)) (fun w' hk => by go_simp) ?_
  simp only [Act.put, pA, pB, pC]
  refine WE.call (d := some 67) rfl rfl (by rfl) (by go_simp) ((fNeg_r (WorthR.wide (Ra.out.up EY.out) (k := 4) (by omega)) (by omega) (by omega)).mono ?_)
  rintro e wn ⟨v1, rfl, x1, hb⟩
  obtain ⟨g16, A16, n16, c16, B16, m16, d16, rfl, p1, q1⟩ := x1
  refine ⟨_, rfl, hb, ?_⟩
  replace EY := hid (EY.out.trans hb)
  have P16 := hid p1
  have D16 := hid q1
  clear hb p1 q1
  simp only [Act.put, pA, pB, pC]
  refine WE.call (d := some 69) rfl rfl (by rfl) (by go_simp) ((fNeg_r (WorthR.wide (Rb.out.up EY.out) (k := 4) (by omega)) (by omega) (by omega)).mono ?_)
  rintro e wn ⟨v1, rfl, x1, hb⟩
  obtain ⟨g17, A17, n17, c17, B17, m17, d17, rfl, p1, q1⟩ := x1
  refine ⟨_, rfl, hb, ?_⟩
  replace EY := hid (EY.out.trans hb)
  replace P16 := hid (P16.out.up hb)
  replace D16 := hid (D16.out.up hb)
  have P17 := hid p1
  have D17 := hid q1
  clear hb p1 q1
  simp only [Act.put, pA, pB, pC]
  refine WE.call (d := some 70) rfl rfl (by rfl) (by go_simp) ((fCmp_r (WorthR.wide (IsR.mk P16.out D16.out).worth (k := 4) (by omega)) (WorthR.wide (IsR.mk P17.out D17.out).worth (k := 4) (by omega)) (by omega) (by omega) (z := nz) (by rw [M.rcmp_neg, HZ.out]; exact HNZ.out)).mono ?_)
  rintro e wn ⟨rfl, hb⟩
  refine ⟨_, rfl, hb, ?_⟩
  replace EY := hid (EY.out.trans hb)
  clear hb
  simp only [Act.put, pA, pB, pC]
  clear P16
  clear D16
  clear P17
  clear D17
  refine WE.pure (d := some 73) rfl rfl (by rfl) (v := (.bool true)) (fun w' hk => by go_simp) ?_
  simp only [Act.put, pA, pB, pC]
  refine WE.pure (d := some 74) rfl rfl (by rfl) (v := (.bool true)) (fun w' hk => by go_simp) ?_
  simp only [Act.put, pA, pB, pC]
  as_aux_lemma =>
  refine WE.pure (d := some 4) rfl rfl (by rfl) (v := (.bool true)) (fun w' hk => by go_simp) ?_
  simp only [Act.put, pA, pB, pC]
  refine WE.done ?_
  repeat go_step
  go_ret
  exact ⟨rfl, (E.out.trans EY.out)⟩

theorem ratBetween_walk (W : World) (ga : Bool) (Aa : Option Addr) (na ca : Nat) (la : List Nat) (Ba : Option Addr) (ma da : Nat) (ra : List Nat) (ha : Num W W.heap.size (.slice Aa na ca) la) (ka : Num W W.heap.size (.slice Ba ma da) ra) (gb : Bool) (Ab : Option Addr) (nb cb : Nat) (lb : List Nat) (Bb : Option Addr) (mb db : Nat) (rb : List Nat) (hb : Num W W.heap.size (.slice Ab nb cb) lb) (kb : Num W W.heap.size (.slice Bb mb db) rb) :
    Calls Tryz.prog 6 #[.agg #[.bool ga, .slice Aa na ca, .slice Ba ma da], .agg #[.bool gb, .slice Ab nb cb, .slice Bb mb db]] W (fun e w' => e = .returned (.bool true) ∧ Ext W w') := by
  rcases fa : ((decide (la.length ≤ 4) && decide (ra.length ≤ 4))) with _ | _
  · exact ratBetween_skip0 W ga Aa na ca la Ba ma da ra ha ka gb Ab nb cb lb Bb mb db rb hb kb fa
  rcases fb : ((decide (lb.length ≤ 4) && decide (rb.length ≤ 4))) with _ | _
  · exact ratBetween_skip1 W ga Aa na ca la Ba ma da ra ha ka gb Ab nb cb lb Bb mb db rb hb kb fa fb
  rcases ia : (M.isR ga la ra) with _ | _
  · exact ratBetween_skip2 W ga Aa na ca la Ba ma da ra ha ka gb Ab nb cb lb Bb mb db rb hb kb fa fb ia
  rcases ib : (M.isR gb lb rb) with _ | _
  · exact ratBetween_skip3 W ga Aa na ca la Ba ma da ra ha ka gb Ab nb cb lb Bb mb db rb hb kb fa fb ia ib
  exact ratBetween_main W ga Aa na ca la Ba ma da ra ha ka gb Ab nb cb lb Bb mb db rb hb kb fa fb ia ib _ rfl _ rfl

set_option maxRecDepth 100000 in
theorem ratBetween_lifted (os : Os) (started : os.Started) (H : Type) (enc : TypeId × Value → H) :
    ReturnsInHanded {} Tryz.checked os 6 .any (Rows.ratBetweenSpec.pre6 enc Tryz.prog Tryz.f6 Rows.ratBetweenRow.domain false) (Rows.ratBetweenSpec.post enc Tryz.prog Tryz.f6 false true false false) := by
  refine returnsInHanded_of_change (C := Tryz.checked) own started (by kernel_rfl) Tryz.func6
    (ChangeSpec.witness6 (enc := enc) (C := Tryz.checked) false ⟨#[], #[.agg #[.bool false, .slice none 0 0, .slice none 0 0], .agg #[.bool false, .slice none 0 0, .slice none 0 0]], []⟩ 8 (by kernel_rfl) (by kernel_rfl) (by kernel_rfl) (by kernel_rfl)) ?_
  intro W base args ds gs before hval0 hW _ _
  have hval : ∀ (j : Nat) t v, Tryz.f6.params[j]? = some t → args[j]? = some v → Value.okWide Tryz.prog W .any base t v := hval0
  have hW' := hW
  obtain ⟨p, q, hA0, hV, rfl, hfz, hnd⟩ := hW
  have hA : DataW.TrodAll enc Tryz.prog W 0 (fun _ => true) true Tryz.f6.params.toList args.toList ds p := hA0
  rw [Tryz.params6] at hA hval
  obtain ⟨v0, vs0, d0, ds0, p0, q0, hargs, rfl, rfl, h0, r0⟩ := trodAll_cons hA
  obtain ⟨v1, vs1, d1, ds1, p1, q1, rfl, rfl, rfl, h1, r1⟩ := trodAll_cons r0
  obtain ⟨rfl, rfl, rfl⟩ := trodAll_nil r1
  obtain rfl : args = #[v0, v1] := by cases args; simp_all
  obtain ⟨rfl, rfl⟩ := trodVars_none hV
  obtain ⟨g0, A0, n0, c0, l0, B0, m0, z0, t0, rfl, e0, f0⟩ := open_R (hval 0 26 _ rfl rfl) h0
  obtain ⟨g1, A1, n1, c1, l1, B1, m1, z1, t1, rfl, e1, f1⟩ := open_R (hval 1 26 _ rfl rfl) h1
  clear hA0 hval0
  refine (ratBetween_walk W g0 A0 n0 c0 l0 B0 m0 z0 t0 e0 f0 g1 A1 n1 c1 l1 B1 m1 z1 t1 e1 f1).mono fun e W' ⟨he, hg⟩ => ?_
  subst he
  exact ⟨_, rfl, law_post hW' rfl rfl (by kernel_rfl) (by kernel_rfl) hg⟩

theorem ratBetween_over : Rows.ratBetweenRow.holds Tryz.pinned (OpenSpec.ofChange Rows.ratBetweenSpec) :=
  OpenClaim.holds_of_wide 6 Tryz.f6 rfl rfl rfl rfl rfl rfl rfl ⟨rfl, rfl, rfl, rfl, rfl⟩ rfl rfl rfl rfl rfl (by kernel_rfl) Tryz.func6 (by kernel_rfl)
    (of_decide_eq_true (by kernel_rfl)) (by unfold Func.isWrapper; first | (rw [if_pos (by decide +kernel)]; kernel_rfl) | (rw [if_neg (by decide +kernel)]; exact ⟨rfl, rfl⟩))
    (fun os started H enc _ => ratBetween_lifted os started H enc)

theorem ratBetween_proved : Rows.RatBetweenSaid := ratBetween_over

end Go.Proofs.YtkjfeedclaedfaaGreat
