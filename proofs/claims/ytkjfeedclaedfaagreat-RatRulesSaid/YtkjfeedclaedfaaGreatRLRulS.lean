/-
  RatRules's law: the ways that ask nothing.
-/
import Derived.Test.YtkjfeedclaedfaaGreatRKnown
import Derived.Test.YtkjfeedclaedfaaGreatRLMath
namespace Go.Proofs.YtkjfeedclaedfaaGreat
open Go.ChangeShapes Go.WideShapes Go.ChangeAt Go.RowKit
set_option linter.unusedSimpArgs false
set_option linter.unusedVariables false

set_option maxRecDepth 100000 in
set_option maxHeartbeats 2000000 in
theorem ratRules_skip0 (W : World) (ga : Bool) (Aa : Option Addr) (na ca : Nat) (la : List Nat) (Ba : Option Addr) (ma da : Nat) (ra : List Nat) (ha : Num W W.heap.size (.slice Aa na ca) la) (ka : Num W W.heap.size (.slice Ba ma da) ra) (gb : Bool) (Ab : Option Addr) (nb cb : Nat) (lb : List Nat) (Bb : Option Addr) (mb db : Nat) (rb : List Nat) (hb : Num W W.heap.size (.slice Ab nb cb) lb) (kb : Num W W.heap.size (.slice Bb mb db) rb) (gc : Bool) (Ac : Option Addr) (nc cc : Nat) (lc : List Nat) (Bc : Option Addr) (mc dc : Nat) (rc : List Nat) (hc : Num W W.heap.size (.slice Ac nc cc) lc) (kc : Num W W.heap.size (.slice Bc mc dc) rc) (fa : Hid ((decide (la.length ≤ 4) && decide (ra.length ≤ 4)) = false)) :
    Calls Tryz.prog 4 #[.agg #[.bool ga, .slice Aa na ca, .slice Ba ma da], .agg #[.bool gb, .slice Ab nb cb, .slice Bb mb db], .agg #[.bool gc, .slice Ac nc cc, .slice Bc mc dc]] W (fun e w' => e = .returned (.bool true) ∧ Ext W w') := by
  have Na := hid ha
  have Ma := hid ka
  clear ha ka hb kb hc kc
  go_enter Tryz.func4, Tryz.ntmps4
  go_upto_region 1 with (fail)
  have E := hid ((((Ext.refl W).alloc' (.cells #[.bool ga, .slice Aa na ca, .slice Ba ma da] 26)).alloc' (.cells #[.bool gb, .slice Ab nb cb, .slice Bb mb db] 26)).alloc' (.cells #[.bool gc, .slice Ac nc cc, .slice Bc mc dc] 26))
  have BX0 : Hid (Box (((W.alloc (.cells #[.bool ga, .slice Aa na ca, .slice Ba ma da] 26)).alloc (.cells #[.bool gb, .slice Ab nb cb, .slice Bb mb db] 26)).alloc (.cells #[.bool gc, .slice Ac nc cc, .slice Bc mc dc] 26)) (W.heap.size) #[.bool ga, .slice Aa na ca, .slice Ba ma da] 26) := hid (((Box.at_ (w := W) #[.bool ga, .slice Aa na ca, .slice Ba ma da] 26 (by simp)).alloc (.cells #[.bool gb, .slice Ab nb cb, .slice Bb mb db] 26)).alloc (.cells #[.bool gc, .slice Ac nc cc, .slice Bc mc dc] 26))
  replace Na := hid (Na.out.up E.out)
  replace Ma := hid (Ma.out.up E.out)
  refine wp_region_T [(0, 1), (1, 0)] (by kernel_rfl) fun wd hb => ?_
  replace E := hid (E.out.trans hb)
  replace BX0 := hid (BX0.out.up hb)
  replace Na := hid (Na.out.up hb)
  replace Ma := hid (Ma.out.up hb)
  clear hb
  have EY := hid (Ext.refl wd)
  refine WE.call (d := some 13) rfl rfl (by rfl) (by go_simp) ((known5 _).mono ?_)
  rintro e wn ⟨rfl, hb⟩
  refine ⟨_, rfl, hb, ?_⟩
  replace EY := hid (EY.out.trans hb)
  clear hb
  simp only [Act.put, pA, pB, pC]
  refine WE.pure (d := some 14) rfl rfl (by rfl) (v := (.bool false)) (fun w' hk => by go_simp) ?_
  simp only [Act.put, pA, pB, pC]
  refine WE.done ?_
  go_upto_region 3 with (fail)
  refine wp_region_T [(0, 0), (1, 1), (2, 0), (3, 0), (4, 0), (5, 1), (6, 0), (7, 0), (8, 0), (9, 0), (10, 1), (11, 0), (12, 0), (13, 0), (14, 0), (15, 1), (16, 0), (17, 0), (18, 0), (19, 0), (20, 1), (21, 0), (22, 0), (23, 0), (24, 0), (25, 1), (26, 0), (27, 0)] (by kernel_rfl) fun wd hb => ?_
  replace EY := hid (EY.out.trans hb)
  clear hb
  refine WE.pure (d := some 15) rfl rfl (by rfl) (v := (.agg #[.bool ga, .slice Aa na ca, .slice Ba ma da])) (fun w' hk => ?_) ?_
  · obtain ⟨ce0, ce1, ce2⟩ := ((BX0.out.up EY.out).up hk).c3; go_simp
  simp only [Act.put, pA, pB, pC]
  refine WE.call (d := some 16) rfl rfl (by rfl) (by go_simp) ((few5 (g := ga) (Na.out.up EY.out) (Ma.out.up EY.out) fa.out).mono ?_)
  rintro e wn ⟨rfl, hb⟩
  refine ⟨_, rfl, hb, ?_⟩
  replace EY := hid (EY.out.trans hb)
  clear hb
  simp only [Act.put, pA, pB, pC]
  refine WE.pure (d := some 17) rfl rfl (by rfl) (v := (.bool true)) (fun w' hk => by go_simp) ?_
  simp only [Act.put, pA, pB, pC]
  refine WE.pure (d := some 18) rfl rfl (by rfl) (v := (.bool true)) (fun w' hk => by go_simp) ?_
  simp only [Act.put, pA, pB, pC]
  refine WE.skip (d := some 19) rfl rfl (by rfl) ?_
  simp only [Act.put, pA, pB, pC]
  refine WE.pass (d := some 20) rfl rfl (by rfl) ?_
  simp only [Act.put, pA, pB, pC]
  refine WE.skip (d := some 21) rfl rfl (by rfl) ?_
  simp only [Act.put, pA, pB, pC]
  refine WE.pure (d := some 22) rfl rfl (by rfl) (v := (.bool true)) (fun w' hk => by go_simp) ?_
  simp only [Act.put, pA, pB, pC]
  refine WE.pure (d := some 23) rfl rfl (by rfl) (v := (.bool true)) (fun w' hk => by go_simp) ?_
  simp only [Act.put, pA, pB, pC]
  refine WE.skip (d := some 24) rfl rfl (by rfl) ?_
  simp only [Act.put, pA, pB, pC]
  refine WE.pass (d := some 25) rfl rfl (by rfl) ?_
  simp only [Act.put, pA, pB, pC]
  refine WE.skip (d := some 26) rfl rfl (by rfl) ?_
  simp only [Act.put, pA, pB, pC]
  refine WE.pure (d := some 27) rfl rfl (by rfl) (v := (.bool true)) (fun w' hk => by go_simp) ?_
  simp only [Act.put, pA, pB, pC]
  refine WE.pure (d := some 28) rfl rfl (by rfl) (v := (.bool true)) (fun w' hk => by go_simp) ?_
  simp only [Act.put, pA, pB, pC]
  refine WE.skip (d := some 29) rfl rfl (by rfl) ?_
  simp only [Act.put, pA, pB, pC]
  refine WE.pass (d := some 30) rfl rfl (by rfl) ?_
  simp only [Act.put, pA, pB, pC]
  refine WE.skip (d := some 31) rfl rfl (by rfl) ?_
  simp only [Act.put, pA, pB, pC]
  refine WE.pure (d := some 32) rfl rfl (by rfl) (v := (.bool true)) (fun w' hk => by go_simp) ?_
  simp only [Act.put, pA, pB, pC]
  refine WE.pure (d := some 33) rfl rfl (by rfl) (v := (.bool true)) (fun w' hk => by go_simp) ?_
  simp only [Act.put, pA, pB, pC]
  refine WE.skip (d := some 34) rfl rfl (by rfl) ?_
  simp only [Act.put, pA, pB, pC]
  refine WE.pass (d := some 35) rfl rfl (by rfl) ?_
  simp only [Act.put, pA, pB, pC]
  refine WE.skip (d := some 36) rfl rfl (by rfl) ?_
  simp only [Act.put, pA, pB, pC]
  refine WE.pure (d := some 37) rfl rfl (by rfl) (v := (.bool true)) (fun w' hk => by go_simp) ?_
  simp only [Act.put, pA, pB, pC]
  refine WE.pure (d := some 38) rfl rfl (by rfl) (v := (.bool true)) (fun w' hk => by go_simp) ?_
  simp only [Act.put, pA, pB, pC]
  refine WE.skip (d := some 39) rfl rfl (by rfl) ?_
  simp only [Act.put, pA, pB, pC]
  refine WE.pass (d := some 40) rfl rfl (by rfl) ?_
  simp only [Act.put, pA, pB, pC]
  refine WE.skip (d := some 41) rfl rfl (by rfl) ?_
  simp only [Act.put, pA, pB, pC]
  refine WE.pure (d := some 42) rfl rfl (by rfl) (v := (.bool true)) (fun w' hk => by go_simp) ?_
  simp only [Act.put, pA, pB, pC]
  refine WE.done ?_
  repeat go_step
  go_ret
  exact ⟨rfl, (E.out.trans EY.out)⟩

set_option maxRecDepth 100000 in
set_option maxHeartbeats 2000000 in
theorem ratRules_skip1 (W : World) (ga : Bool) (Aa : Option Addr) (na ca : Nat) (la : List Nat) (Ba : Option Addr) (ma da : Nat) (ra : List Nat) (ha : Num W W.heap.size (.slice Aa na ca) la) (ka : Num W W.heap.size (.slice Ba ma da) ra) (gb : Bool) (Ab : Option Addr) (nb cb : Nat) (lb : List Nat) (Bb : Option Addr) (mb db : Nat) (rb : List Nat) (hb : Num W W.heap.size (.slice Ab nb cb) lb) (kb : Num W W.heap.size (.slice Bb mb db) rb) (gc : Bool) (Ac : Option Addr) (nc cc : Nat) (lc : List Nat) (Bc : Option Addr) (mc dc : Nat) (rc : List Nat) (hc : Num W W.heap.size (.slice Ac nc cc) lc) (kc : Num W W.heap.size (.slice Bc mc dc) rc) (fa : Hid ((decide (la.length ≤ 4) && decide (ra.length ≤ 4)) = true)) (fb : Hid ((decide (lb.length ≤ 4) && decide (rb.length ≤ 4)) = false)) :
    Calls Tryz.prog 4 #[.agg #[.bool ga, .slice Aa na ca, .slice Ba ma da], .agg #[.bool gb, .slice Ab nb cb, .slice Bb mb db], .agg #[.bool gc, .slice Ac nc cc, .slice Bc mc dc]] W (fun e w' => e = .returned (.bool true) ∧ Ext W w') := by
  have Na := hid ha
  have Ma := hid ka
  have Nb := hid hb
  have Mb := hid kb
  clear ha ka hb kb hc kc
  go_enter Tryz.func4, Tryz.ntmps4
  go_upto_region 1 with (fail)
  have E := hid ((((Ext.refl W).alloc' (.cells #[.bool ga, .slice Aa na ca, .slice Ba ma da] 26)).alloc' (.cells #[.bool gb, .slice Ab nb cb, .slice Bb mb db] 26)).alloc' (.cells #[.bool gc, .slice Ac nc cc, .slice Bc mc dc] 26))
  have BX0 : Hid (Box (((W.alloc (.cells #[.bool ga, .slice Aa na ca, .slice Ba ma da] 26)).alloc (.cells #[.bool gb, .slice Ab nb cb, .slice Bb mb db] 26)).alloc (.cells #[.bool gc, .slice Ac nc cc, .slice Bc mc dc] 26)) (W.heap.size) #[.bool ga, .slice Aa na ca, .slice Ba ma da] 26) := hid (((Box.at_ (w := W) #[.bool ga, .slice Aa na ca, .slice Ba ma da] 26 (by simp)).alloc (.cells #[.bool gb, .slice Ab nb cb, .slice Bb mb db] 26)).alloc (.cells #[.bool gc, .slice Ac nc cc, .slice Bc mc dc] 26))
  have BX1 : Hid (Box (((W.alloc (.cells #[.bool ga, .slice Aa na ca, .slice Ba ma da] 26)).alloc (.cells #[.bool gb, .slice Ab nb cb, .slice Bb mb db] 26)).alloc (.cells #[.bool gc, .slice Ac nc cc, .slice Bc mc dc] 26)) (W.heap.size + 1) #[.bool gb, .slice Ab nb cb, .slice Bb mb db] 26) := hid ((Box.at_ (w := (W.alloc (.cells #[.bool ga, .slice Aa na ca, .slice Ba ma da] 26))) #[.bool gb, .slice Ab nb cb, .slice Bb mb db] 26 (by simp)).alloc (.cells #[.bool gc, .slice Ac nc cc, .slice Bc mc dc] 26))
  replace Na := hid (Na.out.up E.out)
  replace Ma := hid (Ma.out.up E.out)
  replace Nb := hid (Nb.out.up E.out)
  replace Mb := hid (Mb.out.up E.out)
  refine wp_region_T [(0, 1), (1, 0)] (by kernel_rfl) fun wd hb => ?_
  replace E := hid (E.out.trans hb)
  replace BX0 := hid (BX0.out.up hb)
  replace BX1 := hid (BX1.out.up hb)
  replace Na := hid (Na.out.up hb)
  replace Ma := hid (Ma.out.up hb)
  replace Nb := hid (Nb.out.up hb)
  replace Mb := hid (Mb.out.up hb)
  clear hb
  have EY := hid (Ext.refl wd)
  refine WE.call (d := some 13) rfl rfl (by rfl) (by go_simp) ((known5 _).mono ?_)
  rintro e wn ⟨rfl, hb⟩
  refine ⟨_, rfl, hb, ?_⟩
  replace EY := hid (EY.out.trans hb)
  clear hb
  simp only [Act.put, pA, pB, pC]
  refine WE.pure (d := some 14) rfl rfl (by rfl) (v := (.bool false)) (fun w' hk => by go_simp) ?_
  simp only [Act.put, pA, pB, pC]
  refine WE.done ?_
  go_upto_region 3 with (fail)
  refine wp_region_T [(0, 0), (1, 1), (2, 0), (3, 0), (4, 0), (5, 1), (6, 0), (7, 0), (8, 0), (9, 0), (10, 1), (11, 0), (12, 0), (13, 0), (14, 0), (15, 1), (16, 0), (17, 0), (18, 0), (19, 0), (20, 1), (21, 0), (22, 0), (23, 0), (24, 0), (25, 1), (26, 0), (27, 0)] (by kernel_rfl) fun wd hb => ?_
  replace EY := hid (EY.out.trans hb)
  clear hb
  refine WE.pure (d := some 15) rfl rfl (by rfl) (v := (.agg #[.bool ga, .slice Aa na ca, .slice Ba ma da])) (fun w' hk => ?_) ?_
  · obtain ⟨ce0, ce1, ce2⟩ := ((BX0.out.up EY.out).up hk).c3; go_simp
  simp only [Act.put, pA, pB, pC]
  refine WE.call (d := some 16) rfl rfl (by rfl) (by go_simp) ((few5 (g := ga) (Na.out.up EY.out) (Ma.out.up EY.out) fa.out).mono ?_)
  rintro e wn ⟨rfl, hb⟩
  refine ⟨_, rfl, hb, ?_⟩
  replace EY := hid (EY.out.trans hb)
  clear hb
  simp only [Act.put, pA, pB, pC]
  refine WE.pure (d := some 17) rfl rfl (by rfl) (v := (.bool false)) (fun w' hk => by go_simp) ?_
  simp only [Act.put, pA, pB, pC]
  refine WE.pure (d := some 18) rfl rfl (by rfl) (v := (.bool false)) (fun w' hk => by go_simp) ?_
  simp only [Act.put, pA, pB, pC]
  refine WE.pure (d := some 19) rfl rfl (by rfl) (v := (.agg #[.bool gb, .slice Ab nb cb, .slice Bb mb db])) (fun w' hk => ?_) ?_
  · obtain ⟨ce0, ce1, ce2⟩ := ((BX1.out.up EY.out).up hk).c3; go_simp
  simp only [Act.put, pA, pB, pC]
  refine WE.call (d := some 20) rfl rfl (by rfl) (by go_simp) ((few5 (g := gb) (Nb.out.up EY.out) (Mb.out.up EY.out) fb.out).mono ?_)
  rintro e wn ⟨rfl, hb⟩
  refine ⟨_, rfl, hb, ?_⟩
  replace EY := hid (EY.out.trans hb)
  clear hb
  simp only [Act.put, pA, pB, pC]
  refine WE.pure (d := some 21) rfl rfl (by rfl) (v := (.bool true)) (fun w' hk => by go_simp) ?_
  simp only [Act.put, pA, pB, pC]
  refine WE.pure (d := some 22) rfl rfl (by rfl) (v := (.bool true)) (fun w' hk => by go_simp) ?_
  simp only [Act.put, pA, pB, pC]
  refine WE.pure (d := some 23) rfl rfl (by rfl) (v := (.bool true)) (fun w' hk => by go_simp) ?_
  simp only [Act.put, pA, pB, pC]
  refine WE.skip (d := some 24) rfl rfl (by rfl) ?_
  simp only [Act.put, pA, pB, pC]
  refine WE.pass (d := some 25) rfl rfl (by rfl) ?_
  simp only [Act.put, pA, pB, pC]
  refine WE.skip (d := some 26) rfl rfl (by rfl) ?_
  simp only [Act.put, pA, pB, pC]
  refine WE.pure (d := some 27) rfl rfl (by rfl) (v := (.bool true)) (fun w' hk => by go_simp) ?_
  simp only [Act.put, pA, pB, pC]
  refine WE.pure (d := some 28) rfl rfl (by rfl) (v := (.bool true)) (fun w' hk => by go_simp) ?_
  simp only [Act.put, pA, pB, pC]
  refine WE.skip (d := some 29) rfl rfl (by rfl) ?_
  simp only [Act.put, pA, pB, pC]
  refine WE.pass (d := some 30) rfl rfl (by rfl) ?_
  simp only [Act.put, pA, pB, pC]
  refine WE.skip (d := some 31) rfl rfl (by rfl) ?_
  simp only [Act.put, pA, pB, pC]
  refine WE.pure (d := some 32) rfl rfl (by rfl) (v := (.bool true)) (fun w' hk => by go_simp) ?_
  simp only [Act.put, pA, pB, pC]
  refine WE.pure (d := some 33) rfl rfl (by rfl) (v := (.bool true)) (fun w' hk => by go_simp) ?_
  simp only [Act.put, pA, pB, pC]
  refine WE.skip (d := some 34) rfl rfl (by rfl) ?_
  simp only [Act.put, pA, pB, pC]
  refine WE.pass (d := some 35) rfl rfl (by rfl) ?_
  simp only [Act.put, pA, pB, pC]
  refine WE.skip (d := some 36) rfl rfl (by rfl) ?_
  simp only [Act.put, pA, pB, pC]
  refine WE.pure (d := some 37) rfl rfl (by rfl) (v := (.bool true)) (fun w' hk => by go_simp) ?_
  simp only [Act.put, pA, pB, pC]
  refine WE.pure (d := some 38) rfl rfl (by rfl) (v := (.bool true)) (fun w' hk => by go_simp) ?_
  simp only [Act.put, pA, pB, pC]
  refine WE.skip (d := some 39) rfl rfl (by rfl) ?_
  simp only [Act.put, pA, pB, pC]
  refine WE.pass (d := some 40) rfl rfl (by rfl) ?_
  simp only [Act.put, pA, pB, pC]
  refine WE.skip (d := some 41) rfl rfl (by rfl) ?_
  simp only [Act.put, pA, pB, pC]
  refine WE.pure (d := some 42) rfl rfl (by rfl) (v := (.bool true)) (fun w' hk => by go_simp) ?_
  simp only [Act.put, pA, pB, pC]
  refine WE.done ?_
  repeat go_step
  go_ret
  exact ⟨rfl, (E.out.trans EY.out)⟩

set_option maxRecDepth 100000 in
set_option maxHeartbeats 2000000 in
theorem ratRules_skip2 (W : World) (ga : Bool) (Aa : Option Addr) (na ca : Nat) (la : List Nat) (Ba : Option Addr) (ma da : Nat) (ra : List Nat) (ha : Num W W.heap.size (.slice Aa na ca) la) (ka : Num W W.heap.size (.slice Ba ma da) ra) (gb : Bool) (Ab : Option Addr) (nb cb : Nat) (lb : List Nat) (Bb : Option Addr) (mb db : Nat) (rb : List Nat) (hb : Num W W.heap.size (.slice Ab nb cb) lb) (kb : Num W W.heap.size (.slice Bb mb db) rb) (gc : Bool) (Ac : Option Addr) (nc cc : Nat) (lc : List Nat) (Bc : Option Addr) (mc dc : Nat) (rc : List Nat) (hc : Num W W.heap.size (.slice Ac nc cc) lc) (kc : Num W W.heap.size (.slice Bc mc dc) rc) (fa : Hid ((decide (la.length ≤ 4) && decide (ra.length ≤ 4)) = true)) (fb : Hid ((decide (lb.length ≤ 4) && decide (rb.length ≤ 4)) = true)) (fc : Hid ((decide (lc.length ≤ 4) && decide (rc.length ≤ 4)) = false)) :
    Calls Tryz.prog 4 #[.agg #[.bool ga, .slice Aa na ca, .slice Ba ma da], .agg #[.bool gb, .slice Ab nb cb, .slice Bb mb db], .agg #[.bool gc, .slice Ac nc cc, .slice Bc mc dc]] W (fun e w' => e = .returned (.bool true) ∧ Ext W w') := by
  have Na := hid ha
  have Ma := hid ka
  have Nb := hid hb
  have Mb := hid kb
  have Nc := hid hc
  have Mc := hid kc
  clear ha ka hb kb hc kc
  go_enter Tryz.func4, Tryz.ntmps4
  go_upto_region 1 with (fail)
  have E := hid ((((Ext.refl W).alloc' (.cells #[.bool ga, .slice Aa na ca, .slice Ba ma da] 26)).alloc' (.cells #[.bool gb, .slice Ab nb cb, .slice Bb mb db] 26)).alloc' (.cells #[.bool gc, .slice Ac nc cc, .slice Bc mc dc] 26))
  have BX0 : Hid (Box (((W.alloc (.cells #[.bool ga, .slice Aa na ca, .slice Ba ma da] 26)).alloc (.cells #[.bool gb, .slice Ab nb cb, .slice Bb mb db] 26)).alloc (.cells #[.bool gc, .slice Ac nc cc, .slice Bc mc dc] 26)) (W.heap.size) #[.bool ga, .slice Aa na ca, .slice Ba ma da] 26) := hid (((Box.at_ (w := W) #[.bool ga, .slice Aa na ca, .slice Ba ma da] 26 (by simp)).alloc (.cells #[.bool gb, .slice Ab nb cb, .slice Bb mb db] 26)).alloc (.cells #[.bool gc, .slice Ac nc cc, .slice Bc mc dc] 26))
  have BX1 : Hid (Box (((W.alloc (.cells #[.bool ga, .slice Aa na ca, .slice Ba ma da] 26)).alloc (.cells #[.bool gb, .slice Ab nb cb, .slice Bb mb db] 26)).alloc (.cells #[.bool gc, .slice Ac nc cc, .slice Bc mc dc] 26)) (W.heap.size + 1) #[.bool gb, .slice Ab nb cb, .slice Bb mb db] 26) := hid ((Box.at_ (w := (W.alloc (.cells #[.bool ga, .slice Aa na ca, .slice Ba ma da] 26))) #[.bool gb, .slice Ab nb cb, .slice Bb mb db] 26 (by simp)).alloc (.cells #[.bool gc, .slice Ac nc cc, .slice Bc mc dc] 26))
  have BX2 : Hid (Box (((W.alloc (.cells #[.bool ga, .slice Aa na ca, .slice Ba ma da] 26)).alloc (.cells #[.bool gb, .slice Ab nb cb, .slice Bb mb db] 26)).alloc (.cells #[.bool gc, .slice Ac nc cc, .slice Bc mc dc] 26)) (W.heap.size + 2) #[.bool gc, .slice Ac nc cc, .slice Bc mc dc] 26) := hid (Box.at_ (w := ((W.alloc (.cells #[.bool ga, .slice Aa na ca, .slice Ba ma da] 26)).alloc (.cells #[.bool gb, .slice Ab nb cb, .slice Bb mb db] 26))) #[.bool gc, .slice Ac nc cc, .slice Bc mc dc] 26 (by simp))
  replace Na := hid (Na.out.up E.out)
  replace Ma := hid (Ma.out.up E.out)
  replace Nb := hid (Nb.out.up E.out)
  replace Mb := hid (Mb.out.up E.out)
  replace Nc := hid (Nc.out.up E.out)
  replace Mc := hid (Mc.out.up E.out)
  refine wp_region_T [(0, 1), (1, 0)] (by kernel_rfl) fun wd hb => ?_
  replace E := hid (E.out.trans hb)
  replace BX0 := hid (BX0.out.up hb)
  replace BX1 := hid (BX1.out.up hb)
  replace BX2 := hid (BX2.out.up hb)
  replace Na := hid (Na.out.up hb)
  replace Ma := hid (Ma.out.up hb)
  replace Nb := hid (Nb.out.up hb)
  replace Mb := hid (Mb.out.up hb)
  replace Nc := hid (Nc.out.up hb)
  replace Mc := hid (Mc.out.up hb)
  clear hb
  have EY := hid (Ext.refl wd)
  refine WE.call (d := some 13) rfl rfl (by rfl) (by go_simp) ((known5 _).mono ?_)
  rintro e wn ⟨rfl, hb⟩
  refine ⟨_, rfl, hb, ?_⟩
  replace EY := hid (EY.out.trans hb)
  clear hb
  simp only [Act.put, pA, pB, pC]
  refine WE.pure (d := some 14) rfl rfl (by rfl) (v := (.bool false)) (fun w' hk => by go_simp) ?_
  simp only [Act.put, pA, pB, pC]
  refine WE.done ?_
  go_upto_region 3 with (fail)
  refine wp_region_T [(0, 0), (1, 1), (2, 0), (3, 0), (4, 0), (5, 1), (6, 0), (7, 0), (8, 0), (9, 0), (10, 1), (11, 0), (12, 0), (13, 0), (14, 0), (15, 1), (16, 0), (17, 0), (18, 0), (19, 0), (20, 1), (21, 0), (22, 0), (23, 0), (24, 0), (25, 1), (26, 0), (27, 0)] (by kernel_rfl) fun wd hb => ?_
  replace EY := hid (EY.out.trans hb)
  clear hb
  refine WE.pure (d := some 15) rfl rfl (by rfl) (v := (.agg #[.bool ga, .slice Aa na ca, .slice Ba ma da])) (fun w' hk => ?_) ?_
  · obtain ⟨ce0, ce1, ce2⟩ := ((BX0.out.up EY.out).up hk).c3; go_simp
  simp only [Act.put, pA, pB, pC]
  refine WE.call (d := some 16) rfl rfl (by rfl) (by go_simp) ((few5 (g := ga) (Na.out.up EY.out) (Ma.out.up EY.out) fa.out).mono ?_)
  rintro e wn ⟨rfl, hb⟩
  refine ⟨_, rfl, hb, ?_⟩
  replace EY := hid (EY.out.trans hb)
  clear hb
  simp only [Act.put, pA, pB, pC]
  refine WE.pure (d := some 17) rfl rfl (by rfl) (v := (.bool false)) (fun w' hk => by go_simp) ?_
  simp only [Act.put, pA, pB, pC]
  refine WE.pure (d := some 18) rfl rfl (by rfl) (v := (.bool false)) (fun w' hk => by go_simp) ?_
  simp only [Act.put, pA, pB, pC]
  refine WE.pure (d := some 19) rfl rfl (by rfl) (v := (.agg #[.bool gb, .slice Ab nb cb, .slice Bb mb db])) (fun w' hk => ?_) ?_
  · obtain ⟨ce0, ce1, ce2⟩ := ((BX1.out.up EY.out).up hk).c3; go_simp
  simp only [Act.put, pA, pB, pC]
  refine WE.call (d := some 20) rfl rfl (by rfl) (by go_simp) ((few5 (g := gb) (Nb.out.up EY.out) (Mb.out.up EY.out) fb.out).mono ?_)
  rintro e wn ⟨rfl, hb⟩
  refine ⟨_, rfl, hb, ?_⟩
  replace EY := hid (EY.out.trans hb)
  clear hb
  simp only [Act.put, pA, pB, pC]
  refine WE.pure (d := some 21) rfl rfl (by rfl) (v := (.bool false)) (fun w' hk => by go_simp) ?_
  simp only [Act.put, pA, pB, pC]
  refine WE.pure (d := some 22) rfl rfl (by rfl) (v := (.bool false)) (fun w' hk => by go_simp) ?_
  simp only [Act.put, pA, pB, pC]
  refine WE.pure (d := some 23) rfl rfl (by rfl) (v := (.bool false)) (fun w' hk => by go_simp) ?_
  simp only [Act.put, pA, pB, pC]
  refine WE.pure (d := some 24) rfl rfl (by rfl) (v := (.agg #[.bool gc, .slice Ac nc cc, .slice Bc mc dc])) (fun w' hk => ?_) ?_
  · obtain ⟨ce0, ce1, ce2⟩ := ((BX2.out.up EY.out).up hk).c3; go_simp
  simp only [Act.put, pA, pB, pC]
  refine WE.call (d := some 25) rfl rfl (by rfl) (by go_simp) ((few5 (g := gc) (Nc.out.up EY.out) (Mc.out.up EY.out) fc.out).mono ?_)
  rintro e wn ⟨rfl, hb⟩
  refine ⟨_, rfl, hb, ?_⟩
  replace EY := hid (EY.out.trans hb)
  clear hb
  simp only [Act.put, pA, pB, pC]
  refine WE.pure (d := some 26) rfl rfl (by rfl) (v := (.bool true)) (fun w' hk => by go_simp) ?_
  simp only [Act.put, pA, pB, pC]
  refine WE.pure (d := some 27) rfl rfl (by rfl) (v := (.bool true)) (fun w' hk => by go_simp) ?_
  simp only [Act.put, pA, pB, pC]
  refine WE.pure (d := some 28) rfl rfl (by rfl) (v := (.bool true)) (fun w' hk => by go_simp) ?_
  simp only [Act.put, pA, pB, pC]
  refine WE.skip (d := some 29) rfl rfl (by rfl) ?_
  simp only [Act.put, pA, pB, pC]
  refine WE.pass (d := some 30) rfl rfl (by rfl) ?_
  simp only [Act.put, pA, pB, pC]
  refine WE.skip (d := some 31) rfl rfl (by rfl) ?_
  simp only [Act.put, pA, pB, pC]
  refine WE.pure (d := some 32) rfl rfl (by rfl) (v := (.bool true)) (fun w' hk => by go_simp) ?_
  simp only [Act.put, pA, pB, pC]
  refine WE.pure (d := some 33) rfl rfl (by rfl) (v := (.bool true)) (fun w' hk => by go_simp) ?_
  simp only [Act.put, pA, pB, pC]
  refine WE.skip (d := some 34) rfl rfl (by rfl) ?_
  simp only [Act.put, pA, pB, pC]
  refine WE.pass (d := some 35) rfl rfl (by rfl) ?_
  simp only [Act.put, pA, pB, pC]
  refine WE.skip (d := some 36) rfl rfl (by rfl) ?_
  simp only [Act.put, pA, pB, pC]
  refine WE.pure (d := some 37) rfl rfl (by rfl) (v := (.bool true)) (fun w' hk => by go_simp) ?_
  simp only [Act.put, pA, pB, pC]
  refine WE.pure (d := some 38) rfl rfl (by rfl) (v := (.bool true)) (fun w' hk => by go_simp) ?_
  simp only [Act.put, pA, pB, pC]
  refine WE.skip (d := some 39) rfl rfl (by rfl) ?_
  simp only [Act.put, pA, pB, pC]
  refine WE.pass (d := some 40) rfl rfl (by rfl) ?_
  simp only [Act.put, pA, pB, pC]
  refine WE.skip (d := some 41) rfl rfl (by rfl) ?_
  simp only [Act.put, pA, pB, pC]
  refine WE.pure (d := some 42) rfl rfl (by rfl) (v := (.bool true)) (fun w' hk => by go_simp) ?_
  simp only [Act.put, pA, pB, pC]
  refine WE.done ?_
  repeat go_step
  go_ret
  exact ⟨rfl, (E.out.trans EY.out)⟩

set_option maxRecDepth 100000 in
set_option maxHeartbeats 2000000 in
theorem ratRules_skip3 (W : World) (ga : Bool) (Aa : Option Addr) (na ca : Nat) (la : List Nat) (Ba : Option Addr) (ma da : Nat) (ra : List Nat) (ha : Num W W.heap.size (.slice Aa na ca) la) (ka : Num W W.heap.size (.slice Ba ma da) ra) (gb : Bool) (Ab : Option Addr) (nb cb : Nat) (lb : List Nat) (Bb : Option Addr) (mb db : Nat) (rb : List Nat) (hb : Num W W.heap.size (.slice Ab nb cb) lb) (kb : Num W W.heap.size (.slice Bb mb db) rb) (gc : Bool) (Ac : Option Addr) (nc cc : Nat) (lc : List Nat) (Bc : Option Addr) (mc dc : Nat) (rc : List Nat) (hc : Num W W.heap.size (.slice Ac nc cc) lc) (kc : Num W W.heap.size (.slice Bc mc dc) rc) (fa : Hid ((decide (la.length ≤ 4) && decide (ra.length ≤ 4)) = true)) (fb : Hid ((decide (lb.length ≤ 4) && decide (rb.length ≤ 4)) = true)) (fc : Hid ((decide (lc.length ≤ 4) && decide (rc.length ≤ 4)) = true)) (ia : Hid (M.isR ga la ra = false)) :
    Calls Tryz.prog 4 #[.agg #[.bool ga, .slice Aa na ca, .slice Ba ma da], .agg #[.bool gb, .slice Ab nb cb, .slice Bb mb db], .agg #[.bool gc, .slice Ac nc cc, .slice Bc mc dc]] W (fun e w' => e = .returned (.bool true) ∧ Ext W w') := by
  have Na := hid ha
  have Ma := hid ka
  have Nb := hid hb
  have Mb := hid kb
  have Nc := hid hc
  have Mc := hid kc
  have KLa := hid (few_l fa.out)
  have KRa := hid (few_r fa.out)
  clear ha ka hb kb hc kc
  go_enter Tryz.func4, Tryz.ntmps4
  go_upto_region 1 with (fail)
  have E := hid ((((Ext.refl W).alloc' (.cells #[.bool ga, .slice Aa na ca, .slice Ba ma da] 26)).alloc' (.cells #[.bool gb, .slice Ab nb cb, .slice Bb mb db] 26)).alloc' (.cells #[.bool gc, .slice Ac nc cc, .slice Bc mc dc] 26))
  have BX0 : Hid (Box (((W.alloc (.cells #[.bool ga, .slice Aa na ca, .slice Ba ma da] 26)).alloc (.cells #[.bool gb, .slice Ab nb cb, .slice Bb mb db] 26)).alloc (.cells #[.bool gc, .slice Ac nc cc, .slice Bc mc dc] 26)) (W.heap.size) #[.bool ga, .slice Aa na ca, .slice Ba ma da] 26) := hid (((Box.at_ (w := W) #[.bool ga, .slice Aa na ca, .slice Ba ma da] 26 (by simp)).alloc (.cells #[.bool gb, .slice Ab nb cb, .slice Bb mb db] 26)).alloc (.cells #[.bool gc, .slice Ac nc cc, .slice Bc mc dc] 26))
  have BX1 : Hid (Box (((W.alloc (.cells #[.bool ga, .slice Aa na ca, .slice Ba ma da] 26)).alloc (.cells #[.bool gb, .slice Ab nb cb, .slice Bb mb db] 26)).alloc (.cells #[.bool gc, .slice Ac nc cc, .slice Bc mc dc] 26)) (W.heap.size + 1) #[.bool gb, .slice Ab nb cb, .slice Bb mb db] 26) := hid ((Box.at_ (w := (W.alloc (.cells #[.bool ga, .slice Aa na ca, .slice Ba ma da] 26))) #[.bool gb, .slice Ab nb cb, .slice Bb mb db] 26 (by simp)).alloc (.cells #[.bool gc, .slice Ac nc cc, .slice Bc mc dc] 26))
  have BX2 : Hid (Box (((W.alloc (.cells #[.bool ga, .slice Aa na ca, .slice Ba ma da] 26)).alloc (.cells #[.bool gb, .slice Ab nb cb, .slice Bb mb db] 26)).alloc (.cells #[.bool gc, .slice Ac nc cc, .slice Bc mc dc] 26)) (W.heap.size + 2) #[.bool gc, .slice Ac nc cc, .slice Bc mc dc] 26) := hid (Box.at_ (w := ((W.alloc (.cells #[.bool ga, .slice Aa na ca, .slice Ba ma da] 26)).alloc (.cells #[.bool gb, .slice Ab nb cb, .slice Bb mb db] 26))) #[.bool gc, .slice Ac nc cc, .slice Bc mc dc] 26 (by simp))
  replace Na := hid (Na.out.up E.out)
  replace Ma := hid (Ma.out.up E.out)
  replace Nb := hid (Nb.out.up E.out)
  replace Mb := hid (Mb.out.up E.out)
  replace Nc := hid (Nc.out.up E.out)
  replace Mc := hid (Mc.out.up E.out)
  refine wp_region_T [(0, 1), (1, 0)] (by kernel_rfl) fun wd hb => ?_
  replace E := hid (E.out.trans hb)
  replace BX0 := hid (BX0.out.up hb)
  replace BX1 := hid (BX1.out.up hb)
  replace BX2 := hid (BX2.out.up hb)
  replace Na := hid (Na.out.up hb)
  replace Ma := hid (Ma.out.up hb)
  replace Nb := hid (Nb.out.up hb)
  replace Mb := hid (Mb.out.up hb)
  replace Nc := hid (Nc.out.up hb)
  replace Mc := hid (Mc.out.up hb)
  clear hb
  have EY := hid (Ext.refl wd)
  refine WE.call (d := some 13) rfl rfl (by rfl) (by go_simp) ((known5 _).mono ?_)
  rintro e wn ⟨rfl, hb⟩
  refine ⟨_, rfl, hb, ?_⟩
  replace EY := hid (EY.out.trans hb)
  clear hb
  simp only [Act.put, pA, pB, pC]
  refine WE.pure (d := some 14) rfl rfl (by rfl) (v := (.bool false)) (fun w' hk => by go_simp) ?_
  simp only [Act.put, pA, pB, pC]
  refine WE.done ?_
  go_upto_region 3 with (fail)
  refine wp_region_T [(0, 0), (1, 1), (2, 0), (3, 0), (4, 0), (5, 1), (6, 0), (7, 0), (8, 0), (9, 0), (10, 1), (11, 0), (12, 0), (13, 0), (14, 0), (15, 1), (16, 0), (17, 0), (18, 0), (19, 0), (20, 1), (21, 0), (22, 0), (23, 0), (24, 0), (25, 1), (26, 0), (27, 0)] (by kernel_rfl) fun wd hb => ?_
  replace EY := hid (EY.out.trans hb)
  clear hb
  refine WE.pure (d := some 15) rfl rfl (by rfl) (v := (.agg #[.bool ga, .slice Aa na ca, .slice Ba ma da])) (fun w' hk => ?_) ?_
  · obtain ⟨ce0, ce1, ce2⟩ := ((BX0.out.up EY.out).up hk).c3; go_simp
  simp only [Act.put, pA, pB, pC]
  refine WE.call (d := some 16) rfl rfl (by rfl) (by go_simp) ((few5 (g := ga) (Na.out.up EY.out) (Ma.out.up EY.out) fa.out).mono ?_)
  rintro e wn ⟨rfl, hb⟩
  refine ⟨_, rfl, hb, ?_⟩
  replace EY := hid (EY.out.trans hb)
  clear hb
  simp only [Act.put, pA, pB, pC]
  refine WE.pure (d := some 17) rfl rfl (by rfl) (v := (.bool false)) (fun w' hk => by go_simp) ?_
  simp only [Act.put, pA, pB, pC]
  refine WE.pure (d := some 18) rfl rfl (by rfl) (v := (.bool false)) (fun w' hk => by go_simp) ?_
  simp only [Act.put, pA, pB, pC]
  refine WE.pure (d := some 19) rfl rfl (by rfl) (v := (.agg #[.bool gb, .slice Ab nb cb, .slice Bb mb db])) (fun w' hk => ?_) ?_
  · obtain ⟨ce0, ce1, ce2⟩ := ((BX1.out.up EY.out).up hk).c3; go_simp
  simp only [Act.put, pA, pB, pC]
  refine WE.call (d := some 20) rfl rfl (by rfl) (by go_simp) ((few5 (g := gb) (Nb.out.up EY.out) (Mb.out.up EY.out) fb.out).mono ?_)
  rintro e wn ⟨rfl, hb⟩
  refine ⟨_, rfl, hb, ?_⟩
  replace EY := hid (EY.out.trans hb)
  clear hb
  simp only [Act.put, pA, pB, pC]
  refine WE.pure (d := some 21) rfl rfl (by rfl) (v := (.bool false)) (fun w' hk => by go_simp) ?_
  simp only [Act.put, pA, pB, pC]
  refine WE.pure (d := some 22) rfl rfl (by rfl) (v := (.bool false)) (fun w' hk => by go_simp) ?_
  simp only [Act.put, pA, pB, pC]
  refine WE.pure (d := some 23) rfl rfl (by rfl) (v := (.bool false)) (fun w' hk => by go_simp) ?_
  simp only [Act.put, pA, pB, pC]
  refine WE.pure (d := some 24) rfl rfl (by rfl) (v := (.agg #[.bool gc, .slice Ac nc cc, .slice Bc mc dc])) (fun w' hk => ?_) ?_
  · obtain ⟨ce0, ce1, ce2⟩ := ((BX2.out.up EY.out).up hk).c3; go_simp
  simp only [Act.put, pA, pB, pC]
  refine WE.call (d := some 25) rfl rfl (by rfl) (by go_simp) ((few5 (g := gc) (Nc.out.up EY.out) (Mc.out.up EY.out) fc.out).mono ?_)
  rintro e wn ⟨rfl, hb⟩
  refine ⟨_, rfl, hb, ?_⟩
  replace EY := hid (EY.out.trans hb)
  clear hb
  simp only [Act.put, pA, pB, pC]
  refine WE.pure (d := some 26) rfl rfl (by rfl) (v := (.bool false)) (fun w' hk => by go_simp) ?_
  simp only [Act.put, pA, pB, pC]
  refine WE.pure (d := some 27) rfl rfl (by rfl) (v := (.bool false)) (fun w' hk => by go_simp) ?_
  simp only [Act.put, pA, pB, pC]
  refine WE.pure (d := some 28) rfl rfl (by rfl) (v := (.bool false)) (fun w' hk => by go_simp) ?_
  simp only [Act.put, pA, pB, pC]
  refine WE.pure (d := some 29) rfl rfl (by rfl) (v := (.agg #[.bool ga, .slice Aa na ca, .slice Ba ma da])) (fun w' hk => ?_) ?_
  · obtain ⟨ce0, ce1, ce2⟩ := ((BX0.out.up EY.out).up hk).c3; go_simp
  simp only [Act.put, pA, pB, pC]
  refine WE.call (d := some 30) rfl rfl (by rfl) (by go_simp) ((fIs_any (Na.out.up EY.out) (Ma.out.up EY.out) KLa.out KRa.out (by omega) ia.out).mono ?_)
  rintro e wn ⟨rfl, hb⟩
  refine ⟨_, rfl, hb, ?_⟩
  replace EY := hid (EY.out.trans hb)
  clear hb
  simp only [Act.put, pA, pB, pC]
  refine WE.pure (d := some 31) rfl rfl (by rfl) (v := (.bool true)) (fun w' hk => by go_simp) ?_
  simp only [Act.put, pA, pB, pC]
  refine WE.pure (d := some 32) rfl rfl (by rfl) (v := (.bool true)) (fun w' hk => by go_simp) ?_
  simp only [Act.put, pA, pB, pC]
  refine WE.pure (d := some 33) rfl rfl (by rfl) (v := (.bool true)) (fun w' hk => by go_simp) ?_
  simp only [Act.put, pA, pB, pC]
  refine WE.skip (d := some 34) rfl rfl (by rfl) ?_
  simp only [Act.put, pA, pB, pC]
  refine WE.pass (d := some 35) rfl rfl (by rfl) ?_
  simp only [Act.put, pA, pB, pC]
  refine WE.skip (d := some 36) rfl rfl (by rfl) ?_
  simp only [Act.put, pA, pB, pC]
  refine WE.pure (d := some 37) rfl rfl (by rfl) (v := (.bool true)) (fun w' hk => by go_simp) ?_
  simp only [Act.put, pA, pB, pC]
  refine WE.pure (d := some 38) rfl rfl (by rfl) (v := (.bool true)) (fun w' hk => by go_simp) ?_
  simp only [Act.put, pA, pB, pC]
  refine WE.skip (d := some 39) rfl rfl (by rfl) ?_
  simp only [Act.put, pA, pB, pC]
  refine WE.pass (d := some 40) rfl rfl (by rfl) ?_
  simp only [Act.put, pA, pB, pC]
  refine WE.skip (d := some 41) rfl rfl (by rfl) ?_
  simp only [Act.put, pA, pB, pC]
  refine WE.pure (d := some 42) rfl rfl (by rfl) (v := (.bool true)) (fun w' hk => by go_simp) ?_
  simp only [Act.put, pA, pB, pC]
  refine WE.done ?_
  repeat go_step
  go_ret
  exact ⟨rfl, (E.out.trans EY.out)⟩

set_option maxRecDepth 100000 in
set_option maxHeartbeats 2000000 in
theorem ratRules_skip4 (W : World) (ga : Bool) (Aa : Option Addr) (na ca : Nat) (la : List Nat) (Ba : Option Addr) (ma da : Nat) (ra : List Nat) (ha : Num W W.heap.size (.slice Aa na ca) la) (ka : Num W W.heap.size (.slice Ba ma da) ra) (gb : Bool) (Ab : Option Addr) (nb cb : Nat) (lb : List Nat) (Bb : Option Addr) (mb db : Nat) (rb : List Nat) (hb : Num W W.heap.size (.slice Ab nb cb) lb) (kb : Num W W.heap.size (.slice Bb mb db) rb) (gc : Bool) (Ac : Option Addr) (nc cc : Nat) (lc : List Nat) (Bc : Option Addr) (mc dc : Nat) (rc : List Nat) (hc : Num W W.heap.size (.slice Ac nc cc) lc) (kc : Num W W.heap.size (.slice Bc mc dc) rc) (fa : Hid ((decide (la.length ≤ 4) && decide (ra.length ≤ 4)) = true)) (fb : Hid ((decide (lb.length ≤ 4) && decide (rb.length ≤ 4)) = true)) (fc : Hid ((decide (lc.length ≤ 4) && decide (rc.length ≤ 4)) = true)) (ia : Hid (M.isR ga la ra = true)) (ib : Hid (M.isR gb lb rb = false)) :
    Calls Tryz.prog 4 #[.agg #[.bool ga, .slice Aa na ca, .slice Ba ma da], .agg #[.bool gb, .slice Ab nb cb, .slice Bb mb db], .agg #[.bool gc, .slice Ac nc cc, .slice Bc mc dc]] W (fun e w' => e = .returned (.bool true) ∧ Ext W w') := by
  have Na := hid ha
  have Ma := hid ka
  have Nb := hid hb
  have Mb := hid kb
  have Nc := hid hc
  have Mc := hid kc
  have KLa := hid (few_l fa.out)
  have KLb := hid (few_l fb.out)
  have KRa := hid (few_r fa.out)
  have KRb := hid (few_r fb.out)
  clear ha ka hb kb hc kc
  go_enter Tryz.func4, Tryz.ntmps4
  go_upto_region 1 with (fail)
  have E := hid ((((Ext.refl W).alloc' (.cells #[.bool ga, .slice Aa na ca, .slice Ba ma da] 26)).alloc' (.cells #[.bool gb, .slice Ab nb cb, .slice Bb mb db] 26)).alloc' (.cells #[.bool gc, .slice Ac nc cc, .slice Bc mc dc] 26))
  have BX0 : Hid (Box (((W.alloc (.cells #[.bool ga, .slice Aa na ca, .slice Ba ma da] 26)).alloc (.cells #[.bool gb, .slice Ab nb cb, .slice Bb mb db] 26)).alloc (.cells #[.bool gc, .slice Ac nc cc, .slice Bc mc dc] 26)) (W.heap.size) #[.bool ga, .slice Aa na ca, .slice Ba ma da] 26) := hid (((Box.at_ (w := W) #[.bool ga, .slice Aa na ca, .slice Ba ma da] 26 (by simp)).alloc (.cells #[.bool gb, .slice Ab nb cb, .slice Bb mb db] 26)).alloc (.cells #[.bool gc, .slice Ac nc cc, .slice Bc mc dc] 26))
  have BX1 : Hid (Box (((W.alloc (.cells #[.bool ga, .slice Aa na ca, .slice Ba ma da] 26)).alloc (.cells #[.bool gb, .slice Ab nb cb, .slice Bb mb db] 26)).alloc (.cells #[.bool gc, .slice Ac nc cc, .slice Bc mc dc] 26)) (W.heap.size + 1) #[.bool gb, .slice Ab nb cb, .slice Bb mb db] 26) := hid ((Box.at_ (w := (W.alloc (.cells #[.bool ga, .slice Aa na ca, .slice Ba ma da] 26))) #[.bool gb, .slice Ab nb cb, .slice Bb mb db] 26 (by simp)).alloc (.cells #[.bool gc, .slice Ac nc cc, .slice Bc mc dc] 26))
  have BX2 : Hid (Box (((W.alloc (.cells #[.bool ga, .slice Aa na ca, .slice Ba ma da] 26)).alloc (.cells #[.bool gb, .slice Ab nb cb, .slice Bb mb db] 26)).alloc (.cells #[.bool gc, .slice Ac nc cc, .slice Bc mc dc] 26)) (W.heap.size + 2) #[.bool gc, .slice Ac nc cc, .slice Bc mc dc] 26) := hid (Box.at_ (w := ((W.alloc (.cells #[.bool ga, .slice Aa na ca, .slice Ba ma da] 26)).alloc (.cells #[.bool gb, .slice Ab nb cb, .slice Bb mb db] 26))) #[.bool gc, .slice Ac nc cc, .slice Bc mc dc] 26 (by simp))
  replace Na := hid (Na.out.up E.out)
  replace Ma := hid (Ma.out.up E.out)
  replace Nb := hid (Nb.out.up E.out)
  replace Mb := hid (Mb.out.up E.out)
  replace Nc := hid (Nc.out.up E.out)
  replace Mc := hid (Mc.out.up E.out)
  refine wp_region_T [(0, 1), (1, 0)] (by kernel_rfl) fun wd hb => ?_
  replace E := hid (E.out.trans hb)
  replace BX0 := hid (BX0.out.up hb)
  replace BX1 := hid (BX1.out.up hb)
  replace BX2 := hid (BX2.out.up hb)
  replace Na := hid (Na.out.up hb)
  replace Ma := hid (Ma.out.up hb)
  replace Nb := hid (Nb.out.up hb)
  replace Mb := hid (Mb.out.up hb)
  replace Nc := hid (Nc.out.up hb)
  replace Mc := hid (Mc.out.up hb)
  clear hb
  have EY := hid (Ext.refl wd)
  refine WE.call (d := some 13) rfl rfl (by rfl) (by go_simp) ((known5 _).mono ?_)
  rintro e wn ⟨rfl, hb⟩
  refine ⟨_, rfl, hb, ?_⟩
  replace EY := hid (EY.out.trans hb)
  clear hb
  simp only [Act.put, pA, pB, pC]
  refine WE.pure (d := some 14) rfl rfl (by rfl) (v := (.bool false)) (fun w' hk => by go_simp) ?_
  simp only [Act.put, pA, pB, pC]
  refine WE.done ?_
  go_upto_region 3 with (fail)
  refine wp_region_T [(0, 0), (1, 1), (2, 0), (3, 0), (4, 0), (5, 1), (6, 0), (7, 0), (8, 0), (9, 0), (10, 1), (11, 0), (12, 0), (13, 0), (14, 0), (15, 1), (16, 0), (17, 0), (18, 0), (19, 0), (20, 1), (21, 0), (22, 0), (23, 0), (24, 0), (25, 1), (26, 0), (27, 0)] (by kernel_rfl) fun wd hb => ?_
  replace EY := hid (EY.out.trans hb)
  clear hb
  refine WE.pure (d := some 15) rfl rfl (by rfl) (v := (.agg #[.bool ga, .slice Aa na ca, .slice Ba ma da])) (fun w' hk => ?_) ?_
  · obtain ⟨ce0, ce1, ce2⟩ := ((BX0.out.up EY.out).up hk).c3; go_simp
  simp only [Act.put, pA, pB, pC]
  refine WE.call (d := some 16) rfl rfl (by rfl) (by go_simp) ((few5 (g := ga) (Na.out.up EY.out) (Ma.out.up EY.out) fa.out).mono ?_)
  rintro e wn ⟨rfl, hb⟩
  refine ⟨_, rfl, hb, ?_⟩
  replace EY := hid (EY.out.trans hb)
  clear hb
  simp only [Act.put, pA, pB, pC]
  refine WE.pure (d := some 17) rfl rfl (by rfl) (v := (.bool false)) (fun w' hk => by go_simp) ?_
  simp only [Act.put, pA, pB, pC]
  refine WE.pure (d := some 18) rfl rfl (by rfl) (v := (.bool false)) (fun w' hk => by go_simp) ?_
  simp only [Act.put, pA, pB, pC]
  refine WE.pure (d := some 19) rfl rfl (by rfl) (v := (.agg #[.bool gb, .slice Ab nb cb, .slice Bb mb db])) (fun w' hk => ?_) ?_
  · obtain ⟨ce0, ce1, ce2⟩ := ((BX1.out.up EY.out).up hk).c3; go_simp
  simp only [Act.put, pA, pB, pC]
  refine WE.call (d := some 20) rfl rfl (by rfl) (by go_simp) ((few5 (g := gb) (Nb.out.up EY.out) (Mb.out.up EY.out) fb.out).mono ?_)
  rintro e wn ⟨rfl, hb⟩
  refine ⟨_, rfl, hb, ?_⟩
  replace EY := hid (EY.out.trans hb)
  clear hb
  simp only [Act.put, pA, pB, pC]
  refine WE.pure (d := some 21) rfl rfl (by rfl) (v := (.bool false)) (fun w' hk => by go_simp) ?_
  simp only [Act.put, pA, pB, pC]
  refine WE.pure (d := some 22) rfl rfl (by rfl) (v := (.bool false)) (fun w' hk => by go_simp) ?_
  simp only [Act.put, pA, pB, pC]
  refine WE.pure (d := some 23) rfl rfl (by rfl) (v := (.bool false)) (fun w' hk => by go_simp) ?_
  simp only [Act.put, pA, pB, pC]
  refine WE.pure (d := some 24) rfl rfl (by rfl) (v := (.agg #[.bool gc, .slice Ac nc cc, .slice Bc mc dc])) (fun w' hk => ?_) ?_
  · obtain ⟨ce0, ce1, ce2⟩ := ((BX2.out.up EY.out).up hk).c3; go_simp
  simp only [Act.put, pA, pB, pC]
  refine WE.call (d := some 25) rfl rfl (by rfl) (by go_simp) ((few5 (g := gc) (Nc.out.up EY.out) (Mc.out.up EY.out) fc.out).mono ?_)
  rintro e wn ⟨rfl, hb⟩
  refine ⟨_, rfl, hb, ?_⟩
  replace EY := hid (EY.out.trans hb)
  clear hb
  simp only [Act.put, pA, pB, pC]
  refine WE.pure (d := some 26) rfl rfl (by rfl) (v := (.bool false)) (fun w' hk => by go_simp) ?_
  simp only [Act.put, pA, pB, pC]
  refine WE.pure (d := some 27) rfl rfl (by rfl) (v := (.bool false)) (fun w' hk => by go_simp) ?_
  simp only [Act.put, pA, pB, pC]
  refine WE.pure (d := some 28) rfl rfl (by rfl) (v := (.bool false)) (fun w' hk => by go_simp) ?_
  simp only [Act.put, pA, pB, pC]
  refine WE.pure (d := some 29) rfl rfl (by rfl) (v := (.agg #[.bool ga, .slice Aa na ca, .slice Ba ma da])) (fun w' hk => ?_) ?_
  · obtain ⟨ce0, ce1, ce2⟩ := ((BX0.out.up EY.out).up hk).c3; go_simp
  simp only [Act.put, pA, pB, pC]
  refine WE.call (d := some 30) rfl rfl (by rfl) (by go_simp) ((fIs_any (Na.out.up EY.out) (Ma.out.up EY.out) KLa.out KRa.out (by omega) ia.out).mono ?_)
  rintro e wn ⟨rfl, hb⟩
  refine ⟨_, rfl, hb, ?_⟩
  replace EY := hid (EY.out.trans hb)
  clear hb
  simp only [Act.put, pA, pB, pC]
  refine WE.pure (d := some 31) rfl rfl (by rfl) (v := (.bool false)) (fun w' hk => by go_simp) ?_
  simp only [Act.put, pA, pB, pC]
  refine WE.pure (d := some 32) rfl rfl (by rfl) (v := (.bool false)) (fun w' hk => by go_simp) ?_
  simp only [Act.put, pA, pB, pC]
  refine WE.pure (d := some 33) rfl rfl (by rfl) (v := (.bool false)) (fun w' hk => by go_simp) ?_
  simp only [Act.put, pA, pB, pC]
  refine WE.pure (d := some 34) rfl rfl (by rfl) (v := (.agg #[.bool gb, .slice Ab nb cb, .slice Bb mb db])) (fun w' hk => ?_) ?_
  · obtain ⟨ce0, ce1, ce2⟩ := ((BX1.out.up EY.out).up hk).c3; go_simp
  simp only [Act.put, pA, pB, pC]
  refine WE.call (d := some 35) rfl rfl (by rfl) (by go_simp) ((fIs_any (Nb.out.up EY.out) (Mb.out.up EY.out) KLb.out KRb.out (by omega) ib.out).mono ?_)
  rintro e wn ⟨rfl, hb⟩
  refine ⟨_, rfl, hb, ?_⟩
  replace EY := hid (EY.out.trans hb)
  clear hb
  simp only [Act.put, pA, pB, pC]
  refine WE.pure (d := some 36) rfl rfl (by rfl) (v := (.bool true)) (fun w' hk => by go_simp) ?_
  simp only [Act.put, pA, pB, pC]
  refine WE.pure (d := some 37) rfl rfl (by rfl) (v := (.bool true)) (fun w' hk => by go_simp) ?_
  simp only [Act.put, pA, pB, pC]
  refine WE.pure (d := some 38) rfl rfl (by rfl) (v := (.bool true)) (fun w' hk => by go_simp) ?_
  simp only [Act.put, pA, pB, pC]
  refine WE.skip (d := some 39) rfl rfl (by rfl) ?_
  simp only [Act.put, pA, pB, pC]
  refine WE.pass (d := some 40) rfl rfl (by rfl) ?_
  simp only [Act.put, pA, pB, pC]
  refine WE.skip (d := some 41) rfl rfl (by rfl) ?_
  simp only [Act.put, pA, pB, pC]
  refine WE.pure (d := some 42) rfl rfl (by rfl) (v := (.bool true)) (fun w' hk => by go_simp) ?_
  simp only [Act.put, pA, pB, pC]
  refine WE.done ?_
  repeat go_step
  go_ret
  exact ⟨rfl, (E.out.trans EY.out)⟩

set_option maxRecDepth 100000 in
set_option maxHeartbeats 2000000 in
theorem ratRules_skip5 (W : World) (ga : Bool) (Aa : Option Addr) (na ca : Nat) (la : List Nat) (Ba : Option Addr) (ma da : Nat) (ra : List Nat) (ha : Num W W.heap.size (.slice Aa na ca) la) (ka : Num W W.heap.size (.slice Ba ma da) ra) (gb : Bool) (Ab : Option Addr) (nb cb : Nat) (lb : List Nat) (Bb : Option Addr) (mb db : Nat) (rb : List Nat) (hb : Num W W.heap.size (.slice Ab nb cb) lb) (kb : Num W W.heap.size (.slice Bb mb db) rb) (gc : Bool) (Ac : Option Addr) (nc cc : Nat) (lc : List Nat) (Bc : Option Addr) (mc dc : Nat) (rc : List Nat) (hc : Num W W.heap.size (.slice Ac nc cc) lc) (kc : Num W W.heap.size (.slice Bc mc dc) rc) (fa : Hid ((decide (la.length ≤ 4) && decide (ra.length ≤ 4)) = true)) (fb : Hid ((decide (lb.length ≤ 4) && decide (rb.length ≤ 4)) = true)) (fc : Hid ((decide (lc.length ≤ 4) && decide (rc.length ≤ 4)) = true)) (ia : Hid (M.isR ga la ra = true)) (ib : Hid (M.isR gb lb rb = true)) (ic : Hid (M.isR gc lc rc = false)) :
    Calls Tryz.prog 4 #[.agg #[.bool ga, .slice Aa na ca, .slice Ba ma da], .agg #[.bool gb, .slice Ab nb cb, .slice Bb mb db], .agg #[.bool gc, .slice Ac nc cc, .slice Bc mc dc]] W (fun e w' => e = .returned (.bool true) ∧ Ext W w') := by
  have Na := hid ha
  have Ma := hid ka
  have Nb := hid hb
  have Mb := hid kb
  have Nc := hid hc
  have Mc := hid kc
  have KLa := hid (few_l fa.out)
  have KLb := hid (few_l fb.out)
  have KLc := hid (few_l fc.out)
  have KRa := hid (few_r fa.out)
  have KRb := hid (few_r fb.out)
  have KRc := hid (few_r fc.out)
  clear ha ka hb kb hc kc
  go_enter Tryz.func4, Tryz.ntmps4
  go_upto_region 1 with (fail)
  have E := hid ((((Ext.refl W).alloc' (.cells #[.bool ga, .slice Aa na ca, .slice Ba ma da] 26)).alloc' (.cells #[.bool gb, .slice Ab nb cb, .slice Bb mb db] 26)).alloc' (.cells #[.bool gc, .slice Ac nc cc, .slice Bc mc dc] 26))
  have BX0 : Hid (Box (((W.alloc (.cells #[.bool ga, .slice Aa na ca, .slice Ba ma da] 26)).alloc (.cells #[.bool gb, .slice Ab nb cb, .slice Bb mb db] 26)).alloc (.cells #[.bool gc, .slice Ac nc cc, .slice Bc mc dc] 26)) (W.heap.size) #[.bool ga, .slice Aa na ca, .slice Ba ma da] 26) := hid (((Box.at_ (w := W) #[.bool ga, .slice Aa na ca, .slice Ba ma da] 26 (by simp)).alloc (.cells #[.bool gb, .slice Ab nb cb, .slice Bb mb db] 26)).alloc (.cells #[.bool gc, .slice Ac nc cc, .slice Bc mc dc] 26))
  have BX1 : Hid (Box (((W.alloc (.cells #[.bool ga, .slice Aa na ca, .slice Ba ma da] 26)).alloc (.cells #[.bool gb, .slice Ab nb cb, .slice Bb mb db] 26)).alloc (.cells #[.bool gc, .slice Ac nc cc, .slice Bc mc dc] 26)) (W.heap.size + 1) #[.bool gb, .slice Ab nb cb, .slice Bb mb db] 26) := hid ((Box.at_ (w := (W.alloc (.cells #[.bool ga, .slice Aa na ca, .slice Ba ma da] 26))) #[.bool gb, .slice Ab nb cb, .slice Bb mb db] 26 (by simp)).alloc (.cells #[.bool gc, .slice Ac nc cc, .slice Bc mc dc] 26))
  have BX2 : Hid (Box (((W.alloc (.cells #[.bool ga, .slice Aa na ca, .slice Ba ma da] 26)).alloc (.cells #[.bool gb, .slice Ab nb cb, .slice Bb mb db] 26)).alloc (.cells #[.bool gc, .slice Ac nc cc, .slice Bc mc dc] 26)) (W.heap.size + 2) #[.bool gc, .slice Ac nc cc, .slice Bc mc dc] 26) := hid (Box.at_ (w := ((W.alloc (.cells #[.bool ga, .slice Aa na ca, .slice Ba ma da] 26)).alloc (.cells #[.bool gb, .slice Ab nb cb, .slice Bb mb db] 26))) #[.bool gc, .slice Ac nc cc, .slice Bc mc dc] 26 (by simp))
  replace Na := hid (Na.out.up E.out)
  replace Ma := hid (Ma.out.up E.out)
  replace Nb := hid (Nb.out.up E.out)
  replace Mb := hid (Mb.out.up E.out)
  replace Nc := hid (Nc.out.up E.out)
  replace Mc := hid (Mc.out.up E.out)
  refine wp_region_T [(0, 1), (1, 0)] (by kernel_rfl) fun wd hb => ?_
  replace E := hid (E.out.trans hb)
  replace BX0 := hid (BX0.out.up hb)
  replace BX1 := hid (BX1.out.up hb)
  replace BX2 := hid (BX2.out.up hb)
  replace Na := hid (Na.out.up hb)
  replace Ma := hid (Ma.out.up hb)
  replace Nb := hid (Nb.out.up hb)
  replace Mb := hid (Mb.out.up hb)
  replace Nc := hid (Nc.out.up hb)
  replace Mc := hid (Mc.out.up hb)
  clear hb
  have EY := hid (Ext.refl wd)
  refine WE.call (d := some 13) rfl rfl (by rfl) (by go_simp) ((known5 _).mono ?_)
  rintro e wn ⟨rfl, hb⟩
  refine ⟨_, rfl, hb, ?_⟩
  replace EY := hid (EY.out.trans hb)
  clear hb
  simp only [Act.put, pA, pB, pC]
  refine WE.pure (d := some 14) rfl rfl (by rfl) (v := (.bool false)) (fun w' hk => by go_simp) ?_
  simp only [Act.put, pA, pB, pC]
  refine WE.done ?_
  go_upto_region 3 with (fail)
  refine wp_region_T [(0, 0), (1, 1), (2, 0), (3, 0), (4, 0), (5, 1), (6, 0), (7, 0), (8, 0), (9, 0), (10, 1), (11, 0), (12, 0), (13, 0), (14, 0), (15, 1), (16, 0), (17, 0), (18, 0), (19, 0), (20, 1), (21, 0), (22, 0), (23, 0), (24, 0), (25, 1), (26, 0), (27, 0)] (by kernel_rfl) fun wd hb => ?_
  replace EY := hid (EY.out.trans hb)
  clear hb
  refine WE.pure (d := some 15) rfl rfl (by rfl) (v := (.agg #[.bool ga, .slice Aa na ca, .slice Ba ma da])) (fun w' hk => ?_) ?_
  · obtain ⟨ce0, ce1, ce2⟩ := ((BX0.out.up EY.out).up hk).c3; go_simp
  simp only [Act.put, pA, pB, pC]
  refine WE.call (d := some 16) rfl rfl (by rfl) (by go_simp) ((few5 (g := ga) (Na.out.up EY.out) (Ma.out.up EY.out) fa.out).mono ?_)
  rintro e wn ⟨rfl, hb⟩
  refine ⟨_, rfl, hb, ?_⟩
  replace EY := hid (EY.out.trans hb)
  clear hb
  simp only [Act.put, pA, pB, pC]
  refine WE.pure (d := some 17) rfl rfl (by rfl) (v := (.bool false)) (fun w' hk => by go_simp) ?_
  simp only [Act.put, pA, pB, pC]
  refine WE.pure (d := some 18) rfl rfl (by rfl) (v := (.bool false)) (fun w' hk => by go_simp) ?_
  simp only [Act.put, pA, pB, pC]
  refine WE.pure (d := some 19) rfl rfl (by rfl) (v := (.agg #[.bool gb, .slice Ab nb cb, .slice Bb mb db])) (fun w' hk => ?_) ?_
  · obtain ⟨ce0, ce1, ce2⟩ := ((BX1.out.up EY.out).up hk).c3; go_simp
  simp only [Act.put, pA, pB, pC]
  refine WE.call (d := some 20) rfl rfl (by rfl) (by go_simp) ((few5 (g := gb) (Nb.out.up EY.out) (Mb.out.up EY.out) fb.out).mono ?_)
  rintro e wn ⟨rfl, hb⟩
  refine ⟨_, rfl, hb, ?_⟩
  replace EY := hid (EY.out.trans hb)
  clear hb
  simp only [Act.put, pA, pB, pC]
  refine WE.pure (d := some 21) rfl rfl (by rfl) (v := (.bool false)) (fun w' hk => by go_simp) ?_
  simp only [Act.put, pA, pB, pC]
  refine WE.pure (d := some 22) rfl rfl (by rfl) (v := (.bool false)) (fun w' hk => by go_simp) ?_
  simp only [Act.put, pA, pB, pC]
  refine WE.pure (d := some 23) rfl rfl (by rfl) (v := (.bool false)) (fun w' hk => by go_simp) ?_
  simp only [Act.put, pA, pB, pC]
  refine WE.pure (d := some 24) rfl rfl (by rfl) (v := (.agg #[.bool gc, .slice Ac nc cc, .slice Bc mc dc])) (fun w' hk => ?_) ?_
  · obtain ⟨ce0, ce1, ce2⟩ := ((BX2.out.up EY.out).up hk).c3; go_simp
  simp only [Act.put, pA, pB, pC]
  refine WE.call (d := some 25) rfl rfl (by rfl) (by go_simp) ((few5 (g := gc) (Nc.out.up EY.out) (Mc.out.up EY.out) fc.out).mono ?_)
  rintro e wn ⟨rfl, hb⟩
  refine ⟨_, rfl, hb, ?_⟩
  replace EY := hid (EY.out.trans hb)
  clear hb
  simp only [Act.put, pA, pB, pC]
  refine WE.pure (d := some 26) rfl rfl (by rfl) (v := (.bool false)) (fun w' hk => by go_simp) ?_
  simp only [Act.put, pA, pB, pC]
  refine WE.pure (d := some 27) rfl rfl (by rfl) (v := (.bool false)) (fun w' hk => by go_simp) ?_
  simp only [Act.put, pA, pB, pC]
  refine WE.pure (d := some 28) rfl rfl (by rfl) (v := (.bool false)) (fun w' hk => by go_simp) ?_
  simp only [Act.put, pA, pB, pC]
  refine WE.pure (d := some 29) rfl rfl (by rfl) (v := (.agg #[.bool ga, .slice Aa na ca, .slice Ba ma da])) (fun w' hk => ?_) ?_
  · obtain ⟨ce0, ce1, ce2⟩ := ((BX0.out.up EY.out).up hk).c3; go_simp
  simp only [Act.put, pA, pB, pC]
  refine WE.call (d := some 30) rfl rfl (by rfl) (by go_simp) ((fIs_any (Na.out.up EY.out) (Ma.out.up EY.out) KLa.out KRa.out (by omega) ia.out).mono ?_)
  rintro e wn ⟨rfl, hb⟩
  refine ⟨_, rfl, hb, ?_⟩
  replace EY := hid (EY.out.trans hb)
  clear hb
  simp only [Act.put, pA, pB, pC]
  refine WE.pure (d := some 31) rfl rfl (by rfl) (v := (.bool false)) (fun w' hk => by go_simp) ?_
  simp only [Act.put, pA, pB, pC]
  refine WE.pure (d := some 32) rfl rfl (by rfl) (v := (.bool false)) (fun w' hk => by go_simp) ?_
  simp only [Act.put, pA, pB, pC]
  refine WE.pure (d := some 33) rfl rfl (by rfl) (v := (.bool false)) (fun w' hk => by go_simp) ?_
  simp only [Act.put, pA, pB, pC]
  refine WE.pure (d := some 34) rfl rfl (by rfl) (v := (.agg #[.bool gb, .slice Ab nb cb, .slice Bb mb db])) (fun w' hk => ?_) ?_
  · obtain ⟨ce0, ce1, ce2⟩ := ((BX1.out.up EY.out).up hk).c3; go_simp
  simp only [Act.put, pA, pB, pC]
  refine WE.call (d := some 35) rfl rfl (by rfl) (by go_simp) ((fIs_any (Nb.out.up EY.out) (Mb.out.up EY.out) KLb.out KRb.out (by omega) ib.out).mono ?_)
  rintro e wn ⟨rfl, hb⟩
  refine ⟨_, rfl, hb, ?_⟩
  replace EY := hid (EY.out.trans hb)
  clear hb
  simp only [Act.put, pA, pB, pC]
  refine WE.pure (d := some 36) rfl rfl (by rfl) (v := (.bool false)) (fun w' hk => by go_simp) ?_
  simp only [Act.put, pA, pB, pC]
  refine WE.pure (d := some 37) rfl rfl (by rfl) (v := (.bool false)) (fun w' hk => by go_simp) ?_
  simp only [Act.put, pA, pB, pC]
  refine WE.pure (d := some 38) rfl rfl (by rfl) (v := (.bool false)) (fun w' hk => by go_simp) ?_
  simp only [Act.put, pA, pB, pC]
  refine WE.pure (d := some 39) rfl rfl (by rfl) (v := (.agg #[.bool gc, .slice Ac nc cc, .slice Bc mc dc])) (fun w' hk => ?_) ?_
  · obtain ⟨ce0, ce1, ce2⟩ := ((BX2.out.up EY.out).up hk).c3; go_simp
  simp only [Act.put, pA, pB, pC]
  refine WE.call (d := some 40) rfl rfl (by rfl) (by go_simp) ((fIs_any (Nc.out.up EY.out) (Mc.out.up EY.out) KLc.out KRc.out (by omega) ic.out).mono ?_)
  rintro e wn ⟨rfl, hb⟩
  refine ⟨_, rfl, hb, ?_⟩
  replace EY := hid (EY.out.trans hb)
  clear hb
  simp only [Act.put, pA, pB, pC]
  refine WE.pure (d := some 41) rfl rfl (by rfl) (v := (.bool true)) (fun w' hk => by go_simp) ?_
  simp only [Act.put, pA, pB, pC]
  refine WE.pure (d := some 42) rfl rfl (by rfl) (v := (.bool true)) (fun w' hk => by go_simp) ?_
  simp only [Act.put, pA, pB, pC]
  refine WE.done ?_
  repeat go_step
  go_ret
  exact ⟨rfl, (E.out.trans EY.out)⟩

end Go.Proofs.YtkjfeedclaedfaaGreat
