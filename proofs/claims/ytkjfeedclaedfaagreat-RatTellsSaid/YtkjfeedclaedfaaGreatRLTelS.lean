/-
  RatTells's law: the ways that ask nothing.
-/
import Derived.Test.YtkjfeedclaedfaaGreatRKnown
import Derived.Test.YtkjfeedclaedfaaGreatRLMath
namespace Go.Proofs.YtkjfeedclaedfaaGreat
open Go.ChangeShapes Go.WideShapes Go.ChangeAt Go.RowKit
set_option linter.unusedSimpArgs false
set_option linter.unusedVariables false

set_option maxRecDepth 100000 in
set_option maxHeartbeats 2000000 in
theorem ratTells_skip0 (W : World) (ga : Bool) (Aa : Option Addr) (na ca : Nat) (la : List Nat) (Ba : Option Addr) (ma da : Nat) (ra : List Nat) (ha : Num W W.heap.size (.slice Aa na ca) la) (ka : Num W W.heap.size (.slice Ba ma da) ra) (gb : Bool) (Ab : Option Addr) (nb cb : Nat) (lb : List Nat) (Bb : Option Addr) (mb db : Nat) (rb : List Nat) (hb : Num W W.heap.size (.slice Ab nb cb) lb) (kb : Num W W.heap.size (.slice Bb mb db) rb) (gp : Bool) (Ap : Option Addr) (np cp : Nat) (lp : List Nat) (hp : Num W W.heap.size (.slice Ap np cp) lp) (gq : Bool) (Aq : Option Addr) (nq cq : Nat) (lq : List Nat) (hq : Num W W.heap.size (.slice Aq nq cq) lq) (fa : Hid ((decide (la.length ≤ 4) && decide (ra.length ≤ 4)) = false)) :
    Calls Tryz.prog 3 #[.agg #[.bool ga, .slice Aa na ca, .slice Ba ma da], .agg #[.bool gb, .slice Ab nb cb, .slice Bb mb db], .agg #[.bool gp, .slice Ap np cp], .agg #[.bool gq, .slice Aq nq cq]] W (fun e w' => e = .returned (.bool true) ∧ Ext W w') := by
  have Na := hid ha
  have Ma := hid ka
  clear ha ka hb kb hp hq
  go_enter Tryz.func3, Tryz.ntmps3
  go_upto_region 1 with (fail)
  have E := hid (((((Ext.refl W).alloc' (.cells #[.bool ga, .slice Aa na ca, .slice Ba ma da] 26)).alloc' (.cells #[.bool gb, .slice Ab nb cb, .slice Bb mb db] 26)).alloc' (.cells #[.bool gp, .slice Ap np cp] 24)).alloc' (.cells #[.bool gq, .slice Aq nq cq] 24))
  have BX0 : Hid (Box ((((W.alloc (.cells #[.bool ga, .slice Aa na ca, .slice Ba ma da] 26)).alloc (.cells #[.bool gb, .slice Ab nb cb, .slice Bb mb db] 26)).alloc (.cells #[.bool gp, .slice Ap np cp] 24)).alloc (.cells #[.bool gq, .slice Aq nq cq] 24)) (W.heap.size) #[.bool ga, .slice Aa na ca, .slice Ba ma da] 26) := hid ((((Box.at_ (w := W) #[.bool ga, .slice Aa na ca, .slice Ba ma da] 26 (by simp)).alloc (.cells #[.bool gb, .slice Ab nb cb, .slice Bb mb db] 26)).alloc (.cells #[.bool gp, .slice Ap np cp] 24)).alloc (.cells #[.bool gq, .slice Aq nq cq] 24))
  replace Na := hid (Na.out.up E.out)
  replace Ma := hid (Ma.out.up E.out)
  refine wp_region_T [(0, 1), (1, 0)] (by kernel_rfl) fun wd hb => ?_
  replace E := hid (E.out.trans hb)
  replace BX0 := hid (BX0.out.up hb)
  replace Na := hid (Na.out.up hb)
  replace Ma := hid (Ma.out.up hb)
  clear hb
  have EY := hid (Ext.refl wd)
  refine WE.call (d := some 14) rfl rfl (by rfl) (by go_simp) ((known5 _).mono ?_)
  rintro e wn ⟨rfl, hb⟩
  refine ⟨_, rfl, hb, ?_⟩
  replace EY := hid (EY.out.trans hb)
  clear hb
  simp only [Act.put, pA, pB, pC]
  refine WE.pure (d := some 15) rfl rfl (by rfl) (v := (.bool false)) (fun w' hk => by go_simp) ?_
  simp only [Act.put, pA, pB, pC]
  refine WE.done ?_
  go_upto_region 3 with (fail)
  refine wp_region_T [(0, 0), (1, 1), (2, 0), (3, 0), (4, 0), (5, 1), (6, 0), (7, 0), (8, 0), (9, 0), (10, 0), (11, 0), (12, 0), (13, 0), (14, 0), (15, 0), (16, 0), (17, 0), (18, 0), (19, 0)] (by kernel_rfl) fun wd hb => ?_
  replace EY := hid (EY.out.trans hb)
  clear hb
  refine WE.pure (d := some 16) rfl rfl (by rfl) (v := (.agg #[.bool ga, .slice Aa na ca, .slice Ba ma da])) (fun w' hk => ?_) ?_
  · obtain ⟨ce0, ce1, ce2⟩ := ((BX0.out.up EY.out).up hk).c3; go_simp
  simp only [Act.put, pA, pB, pC]
  refine WE.call (d := some 17) rfl rfl (by rfl) (by go_simp) ((few5 (g := ga) (Na.out.up EY.out) (Ma.out.up EY.out) fa.out).mono ?_)
  rintro e wn ⟨rfl, hb⟩
  refine ⟨_, rfl, hb, ?_⟩
  replace EY := hid (EY.out.trans hb)
  clear hb
  simp only [Act.put, pA, pB, pC]
  refine WE.pure (d := some 18) rfl rfl (by rfl) (v := (.bool true)) (fun w' hk => by go_simp) ?_
  simp only [Act.put, pA, pB, pC]
  refine WE.pure (d := some 19) rfl rfl (by rfl) (v := (.bool true)) (fun w' hk => by go_simp) ?_
  simp only [Act.put, pA, pB, pC]
  refine WE.skip (d := some 20) rfl rfl (by rfl) ?_
  simp only [Act.put, pA, pB, pC]
  refine WE.pass (d := some 21) rfl rfl (by rfl) ?_
  simp only [Act.put, pA, pB, pC]
  refine WE.skip (d := some 22) rfl rfl (by rfl) ?_
  simp only [Act.put, pA, pB, pC]
  refine WE.pure (d := some 23) rfl rfl (by rfl) (v := (.bool true)) (fun w' hk => by go_simp) ?_
  simp only [Act.put, pA, pB, pC]
  refine WE.pure (d := some 24) rfl rfl (by rfl) (v := (.bool true)) (fun w' hk => by go_simp) ?_
  simp only [Act.put, pA, pB, pC]
  refine WE.skip (d := some 25) rfl rfl (by rfl) ?_
  simp only [Act.put, pA, pB, pC]
  refine WE.skip (d := some 26) rfl rfl (by rfl) ?_
  simp only [Act.put, pA, pB, pC]
  refine WE.skip (d := some 27) rfl rfl (by rfl) ?_
  simp only [Act.put, pA, pB, pC]
  refine WE.skip (d := some 28) rfl rfl (by rfl) ?_
  simp only [Act.put, pA, pB, pC]
  refine WE.pure (d := some 29) rfl rfl (by rfl) (v := (.bool true)) (fun w' hk => by go_simp) ?_
  simp only [Act.put, pA, pB, pC]
  refine WE.pure (d := some 30) rfl rfl (by rfl) (v := (.bool true)) (fun w' hk => by go_simp) ?_
  simp only [Act.put, pA, pB, pC]
  refine WE.skip (d := some 31) rfl rfl (by rfl) ?_
  simp only [Act.put, pA, pB, pC]
  refine WE.skip (d := some 32) rfl rfl (by rfl) ?_
  simp only [Act.put, pA, pB, pC]
  refine WE.skip (d := some 33) rfl rfl (by rfl) ?_
  simp only [Act.put, pA, pB, pC]
  refine WE.skip (d := some 34) rfl rfl (by rfl) ?_
  simp only [Act.put, pA, pB, pC]
  refine WE.pure (d := some 35) rfl rfl (by rfl) (v := (.bool true)) (fun w' hk => by go_simp) ?_
  simp only [Act.put, pA, pB, pC]
  refine WE.done ?_
  repeat go_step
  go_ret
  exact ⟨rfl, (E.out.trans EY.out)⟩

set_option maxRecDepth 100000 in
set_option maxHeartbeats 2000000 in
theorem ratTells_skip1 (W : World) (ga : Bool) (Aa : Option Addr) (na ca : Nat) (la : List Nat) (Ba : Option Addr) (ma da : Nat) (ra : List Nat) (ha : Num W W.heap.size (.slice Aa na ca) la) (ka : Num W W.heap.size (.slice Ba ma da) ra) (gb : Bool) (Ab : Option Addr) (nb cb : Nat) (lb : List Nat) (Bb : Option Addr) (mb db : Nat) (rb : List Nat) (hb : Num W W.heap.size (.slice Ab nb cb) lb) (kb : Num W W.heap.size (.slice Bb mb db) rb) (gp : Bool) (Ap : Option Addr) (np cp : Nat) (lp : List Nat) (hp : Num W W.heap.size (.slice Ap np cp) lp) (gq : Bool) (Aq : Option Addr) (nq cq : Nat) (lq : List Nat) (hq : Num W W.heap.size (.slice Aq nq cq) lq) (fa : Hid ((decide (la.length ≤ 4) && decide (ra.length ≤ 4)) = true)) (fb : Hid ((decide (lb.length ≤ 4) && decide (rb.length ≤ 4)) = false)) :
    Calls Tryz.prog 3 #[.agg #[.bool ga, .slice Aa na ca, .slice Ba ma da], .agg #[.bool gb, .slice Ab nb cb, .slice Bb mb db], .agg #[.bool gp, .slice Ap np cp], .agg #[.bool gq, .slice Aq nq cq]] W (fun e w' => e = .returned (.bool true) ∧ Ext W w') := by
  have Na := hid ha
  have Ma := hid ka
  have Nb := hid hb
  have Mb := hid kb
  clear ha ka hb kb hp hq
  go_enter Tryz.func3, Tryz.ntmps3
  go_upto_region 1 with (fail)
  have E := hid (((((Ext.refl W).alloc' (.cells #[.bool ga, .slice Aa na ca, .slice Ba ma da] 26)).alloc' (.cells #[.bool gb, .slice Ab nb cb, .slice Bb mb db] 26)).alloc' (.cells #[.bool gp, .slice Ap np cp] 24)).alloc' (.cells #[.bool gq, .slice Aq nq cq] 24))
  have BX0 : Hid (Box ((((W.alloc (.cells #[.bool ga, .slice Aa na ca, .slice Ba ma da] 26)).alloc (.cells #[.bool gb, .slice Ab nb cb, .slice Bb mb db] 26)).alloc (.cells #[.bool gp, .slice Ap np cp] 24)).alloc (.cells #[.bool gq, .slice Aq nq cq] 24)) (W.heap.size) #[.bool ga, .slice Aa na ca, .slice Ba ma da] 26) := hid ((((Box.at_ (w := W) #[.bool ga, .slice Aa na ca, .slice Ba ma da] 26 (by simp)).alloc (.cells #[.bool gb, .slice Ab nb cb, .slice Bb mb db] 26)).alloc (.cells #[.bool gp, .slice Ap np cp] 24)).alloc (.cells #[.bool gq, .slice Aq nq cq] 24))
  have BX1 : Hid (Box ((((W.alloc (.cells #[.bool ga, .slice Aa na ca, .slice Ba ma da] 26)).alloc (.cells #[.bool gb, .slice Ab nb cb, .slice Bb mb db] 26)).alloc (.cells #[.bool gp, .slice Ap np cp] 24)).alloc (.cells #[.bool gq, .slice Aq nq cq] 24)) (W.heap.size + 1) #[.bool gb, .slice Ab nb cb, .slice Bb mb db] 26) := hid (((Box.at_ (w := (W.alloc (.cells #[.bool ga, .slice Aa na ca, .slice Ba ma da] 26))) #[.bool gb, .slice Ab nb cb, .slice Bb mb db] 26 (by simp)).alloc (.cells #[.bool gp, .slice Ap np cp] 24)).alloc (.cells #[.bool gq, .slice Aq nq cq] 24))
  replace Na := hid (Na.out.up E.out)
  replace Ma := hid (Ma.out.up E.out)
  replace Nb := hid (Nb.out.up E.out)
  replace Mb := hid (Mb.out.up E.out)
  refine wp_region_T [(0, 1), (1, 0)] (by kernel_rfl) fun wd hb => ?_
  replace E := hid (E.out.trans hb)
  replace BX0 := hid (BX0.out.up hb)
  replace BX1 := hid (BX1.out.up hb)
  replace Na := hid (Na.out.up hb)
  replace Ma := hid (Ma.out.up hb)
  replace Nb := hid (Nb.out.up hb)
  replace Mb := hid (Mb.out.up hb)
  clear hb
  have EY := hid (Ext.refl wd)
  refine WE.call (d := some 14) rfl rfl (by rfl) (by go_simp) ((known5 _).mono ?_)
  rintro e wn ⟨rfl, hb⟩
  refine ⟨_, rfl, hb, ?_⟩
  replace EY := hid (EY.out.trans hb)
  clear hb
  simp only [Act.put, pA, pB, pC]
  refine WE.pure (d := some 15) rfl rfl (by rfl) (v := (.bool false)) (fun w' hk => by go_simp) ?_
  simp only [Act.put, pA, pB, pC]
  refine WE.done ?_
  go_upto_region 3 with (fail)
  refine wp_region_T [(0, 0), (1, 1), (2, 0), (3, 0), (4, 0), (5, 1), (6, 0), (7, 0), (8, 0), (9, 0), (10, 0), (11, 0), (12, 0), (13, 0), (14, 0), (15, 0), (16, 0), (17, 0), (18, 0), (19, 0)] (by kernel_rfl) fun wd hb => ?_
  replace EY := hid (EY.out.trans hb)
  clear hb
  refine WE.pure (d := some 16) rfl rfl (by rfl) (v := (.agg #[.bool ga, .slice Aa na ca, .slice Ba ma da])) (fun w' hk => ?_) ?_
  · obtain ⟨ce0, ce1, ce2⟩ := ((BX0.out.up EY.out).up hk).c3; go_simp
  simp only [Act.put, pA, pB, pC]
  refine WE.call (d := some 17) rfl rfl (by rfl) (by go_simp) ((few5 (g := ga) (Na.out.up EY.out) (Ma.out.up EY.out) fa.out).mono ?_)
  rintro e wn ⟨rfl, hb⟩
  refine ⟨_, rfl, hb, ?_⟩
  replace EY := hid (EY.out.trans hb)
  clear hb
  simp only [Act.put, pA, pB, pC]
  refine WE.pure (d := some 18) rfl rfl (by rfl) (v := (.bool false)) (fun w' hk => by go_simp) ?_
  simp only [Act.put, pA, pB, pC]
  refine WE.pure (d := some 19) rfl rfl (by rfl) (v := (.bool false)) (fun w' hk => by go_simp) ?_
  simp only [Act.put, pA, pB, pC]
  refine WE.pure (d := some 20) rfl rfl (by rfl) (v := (.agg #[.bool gb, .slice Ab nb cb, .slice Bb mb db])) (fun w' hk => ?_) ?_
  · obtain ⟨ce0, ce1, ce2⟩ := ((BX1.out.up EY.out).up hk).c3; go_simp
  simp only [Act.put, pA, pB, pC]
  refine WE.call (d := some 21) rfl rfl (by rfl) (by go_simp) ((few5 (g := gb) (Nb.out.up EY.out) (Mb.out.up EY.out) fb.out).mono ?_)
  rintro e wn ⟨rfl, hb⟩
  refine ⟨_, rfl, hb, ?_⟩
  replace EY := hid (EY.out.trans hb)
  clear hb
  simp only [Act.put, pA, pB, pC]
  refine WE.pure (d := some 22) rfl rfl (by rfl) (v := (.bool true)) (fun w' hk => by go_simp) ?_
  simp only [Act.put, pA, pB, pC]
  refine WE.pure (d := some 23) rfl rfl (by rfl) (v := (.bool true)) (fun w' hk => by go_simp) ?_
  simp only [Act.put, pA, pB, pC]
  refine WE.pure (d := some 24) rfl rfl (by rfl) (v := (.bool true)) (fun w' hk => by go_simp) ?_
  simp only [Act.put, pA, pB, pC]
  refine WE.skip (d := some 25) rfl rfl (by rfl) ?_
  simp only [Act.put, pA, pB, pC]
  refine WE.skip (d := some 26) rfl rfl (by rfl) ?_
  simp only [Act.put, pA, pB, pC]
  refine WE.skip (d := some 27) rfl rfl (by rfl) ?_
  simp only [Act.put, pA, pB, pC]
  refine WE.skip (d := some 28) rfl rfl (by rfl) ?_
  simp only [Act.put, pA, pB, pC]
  refine WE.pure (d := some 29) rfl rfl (by rfl) (v := (.bool true)) (fun w' hk => by go_simp) ?_
  simp only [Act.put, pA, pB, pC]
  refine WE.pure (d := some 30) rfl rfl (by rfl) (v := (.bool true)) (fun w' hk => by go_simp) ?_
  simp only [Act.put, pA, pB, pC]
  refine WE.skip (d := some 31) rfl rfl (by rfl) ?_
  simp only [Act.put, pA, pB, pC]
  refine WE.skip (d := some 32) rfl rfl (by rfl) ?_
  simp only [Act.put, pA, pB, pC]
  refine WE.skip (d := some 33) rfl rfl (by rfl) ?_
  simp only [Act.put, pA, pB, pC]
  refine WE.skip (d := some 34) rfl rfl (by rfl) ?_
  simp only [Act.put, pA, pB, pC]
  refine WE.pure (d := some 35) rfl rfl (by rfl) (v := (.bool true)) (fun w' hk => by go_simp) ?_
  simp only [Act.put, pA, pB, pC]
  refine WE.done ?_
  repeat go_step
  go_ret
  exact ⟨rfl, (E.out.trans EY.out)⟩

set_option maxRecDepth 100000 in
set_option maxHeartbeats 2000000 in
theorem ratTells_skip2 (W : World) (ga : Bool) (Aa : Option Addr) (na ca : Nat) (la : List Nat) (Ba : Option Addr) (ma da : Nat) (ra : List Nat) (ha : Num W W.heap.size (.slice Aa na ca) la) (ka : Num W W.heap.size (.slice Ba ma da) ra) (gb : Bool) (Ab : Option Addr) (nb cb : Nat) (lb : List Nat) (Bb : Option Addr) (mb db : Nat) (rb : List Nat) (hb : Num W W.heap.size (.slice Ab nb cb) lb) (kb : Num W W.heap.size (.slice Bb mb db) rb) (gp : Bool) (Ap : Option Addr) (np cp : Nat) (lp : List Nat) (hp : Num W W.heap.size (.slice Ap np cp) lp) (gq : Bool) (Aq : Option Addr) (nq cq : Nat) (lq : List Nat) (hq : Num W W.heap.size (.slice Aq nq cq) lq) (fa : Hid ((decide (la.length ≤ 4) && decide (ra.length ≤ 4)) = true)) (fb : Hid ((decide (lb.length ≤ 4) && decide (rb.length ≤ 4)) = true)) (fp : Hid (decide (lp.length ≤ 5) = false)) :
    Calls Tryz.prog 3 #[.agg #[.bool ga, .slice Aa na ca, .slice Ba ma da], .agg #[.bool gb, .slice Ab nb cb, .slice Bb mb db], .agg #[.bool gp, .slice Ap np cp], .agg #[.bool gq, .slice Aq nq cq]] W (fun e w' => e = .returned (.bool true) ∧ Ext W w') := by
  have Na := hid ha
  have Ma := hid ka
  have Nb := hid hb
  have Mb := hid kb
  have hnp : np = lp.length := by obtain ⟨_, _, _, e, h, _⟩ := hp; injection e with _ e2; rw [e2, h]
  have hmp : np ≤ 9223372036854775807 := by obtain ⟨_, _, _, e, _, h1, h2, _⟩ := hp; injection e with _ e2 e3; unfold maxLen at h2; omega
  have hdp : decide (5 < np) = true := by have := of_decide_eq_false fp.out; rw [decide_eq_true_iff]; omega
  have hip : decide ((5 : Int) < (np : Int)) = true := by have := of_decide_eq_false fp.out; rw [decide_eq_true_iff]; omega
  clear hnp
  clear ha ka hb kb hp hq
  go_enter Tryz.func3, Tryz.ntmps3
  go_upto_region 1 with (fail)
  have E := hid (((((Ext.refl W).alloc' (.cells #[.bool ga, .slice Aa na ca, .slice Ba ma da] 26)).alloc' (.cells #[.bool gb, .slice Ab nb cb, .slice Bb mb db] 26)).alloc' (.cells #[.bool gp, .slice Ap np cp] 24)).alloc' (.cells #[.bool gq, .slice Aq nq cq] 24))
  have BX0 : Hid (Box ((((W.alloc (.cells #[.bool ga, .slice Aa na ca, .slice Ba ma da] 26)).alloc (.cells #[.bool gb, .slice Ab nb cb, .slice Bb mb db] 26)).alloc (.cells #[.bool gp, .slice Ap np cp] 24)).alloc (.cells #[.bool gq, .slice Aq nq cq] 24)) (W.heap.size) #[.bool ga, .slice Aa na ca, .slice Ba ma da] 26) := hid ((((Box.at_ (w := W) #[.bool ga, .slice Aa na ca, .slice Ba ma da] 26 (by simp)).alloc (.cells #[.bool gb, .slice Ab nb cb, .slice Bb mb db] 26)).alloc (.cells #[.bool gp, .slice Ap np cp] 24)).alloc (.cells #[.bool gq, .slice Aq nq cq] 24))
  have BX1 : Hid (Box ((((W.alloc (.cells #[.bool ga, .slice Aa na ca, .slice Ba ma da] 26)).alloc (.cells #[.bool gb, .slice Ab nb cb, .slice Bb mb db] 26)).alloc (.cells #[.bool gp, .slice Ap np cp] 24)).alloc (.cells #[.bool gq, .slice Aq nq cq] 24)) (W.heap.size + 1) #[.bool gb, .slice Ab nb cb, .slice Bb mb db] 26) := hid (((Box.at_ (w := (W.alloc (.cells #[.bool ga, .slice Aa na ca, .slice Ba ma da] 26))) #[.bool gb, .slice Ab nb cb, .slice Bb mb db] 26 (by simp)).alloc (.cells #[.bool gp, .slice Ap np cp] 24)).alloc (.cells #[.bool gq, .slice Aq nq cq] 24))
  have BX2 : Hid (Box ((((W.alloc (.cells #[.bool ga, .slice Aa na ca, .slice Ba ma da] 26)).alloc (.cells #[.bool gb, .slice Ab nb cb, .slice Bb mb db] 26)).alloc (.cells #[.bool gp, .slice Ap np cp] 24)).alloc (.cells #[.bool gq, .slice Aq nq cq] 24)) (W.heap.size + 2) #[.bool gp, .slice Ap np cp] 24) := hid ((Box.at_ (w := ((W.alloc (.cells #[.bool ga, .slice Aa na ca, .slice Ba ma da] 26)).alloc (.cells #[.bool gb, .slice Ab nb cb, .slice Bb mb db] 26))) #[.bool gp, .slice Ap np cp] 24 (by simp)).alloc (.cells #[.bool gq, .slice Aq nq cq] 24))
  replace Na := hid (Na.out.up E.out)
  replace Ma := hid (Ma.out.up E.out)
  replace Nb := hid (Nb.out.up E.out)
  replace Mb := hid (Mb.out.up E.out)
  refine wp_region_T [(0, 1), (1, 0)] (by kernel_rfl) fun wd hb => ?_
  replace E := hid (E.out.trans hb)
  replace BX0 := hid (BX0.out.up hb)
  replace BX1 := hid (BX1.out.up hb)
  replace BX2 := hid (BX2.out.up hb)
  replace Na := hid (Na.out.up hb)
  replace Ma := hid (Ma.out.up hb)
  replace Nb := hid (Nb.out.up hb)
  replace Mb := hid (Mb.out.up hb)
  clear hb
  have EY := hid (Ext.refl wd)
  refine WE.call (d := some 14) rfl rfl (by rfl) (by go_simp) ((known5 _).mono ?_)
  rintro e wn ⟨rfl, hb⟩
  refine ⟨_, rfl, hb, ?_⟩
  replace EY := hid (EY.out.trans hb)
  clear hb
  simp only [Act.put, pA, pB, pC]
  refine WE.pure (d := some 15) rfl rfl (by rfl) (v := (.bool false)) (fun w' hk => by go_simp) ?_
  simp only [Act.put, pA, pB, pC]
  refine WE.done ?_
  go_upto_region 3 with (fail)
  refine wp_region_T [(0, 0), (1, 1), (2, 0), (3, 0), (4, 0), (5, 1), (6, 0), (7, 0), (8, 0), (9, 0), (10, 0), (11, 0), (12, 0), (13, 0), (14, 0), (15, 0), (16, 0), (17, 0), (18, 0), (19, 0)] (by kernel_rfl) fun wd hb => ?_
  replace EY := hid (EY.out.trans hb)
  clear hb
  refine WE.pure (d := some 16) rfl rfl (by rfl) (v := (.agg #[.bool ga, .slice Aa na ca, .slice Ba ma da])) (fun w' hk => ?_) ?_
  · obtain ⟨ce0, ce1, ce2⟩ := ((BX0.out.up EY.out).up hk).c3; go_simp
  simp only [Act.put, pA, pB, pC]
  refine WE.call (d := some 17) rfl rfl (by rfl) (by go_simp) ((few5 (g := ga) (Na.out.up EY.out) (Ma.out.up EY.out) fa.out).mono ?_)
  rintro e wn ⟨rfl, hb⟩
  refine ⟨_, rfl, hb, ?_⟩
  replace EY := hid (EY.out.trans hb)
  clear hb
  simp only [Act.put, pA, pB, pC]
  refine WE.pure (d := some 18) rfl rfl (by rfl) (v := (.bool false)) (fun w' hk => by go_simp) ?_
  simp only [Act.put, pA, pB, pC]
  refine WE.pure (d := some 19) rfl rfl (by rfl) (v := (.bool false)) (fun w' hk => by go_simp) ?_
  simp only [Act.put, pA, pB, pC]
  refine WE.pure (d := some 20) rfl rfl (by rfl) (v := (.agg #[.bool gb, .slice Ab nb cb, .slice Bb mb db])) (fun w' hk => ?_) ?_
  · obtain ⟨ce0, ce1, ce2⟩ := ((BX1.out.up EY.out).up hk).c3; go_simp
  simp only [Act.put, pA, pB, pC]
  refine WE.call (d := some 21) rfl rfl (by rfl) (by go_simp) ((few5 (g := gb) (Nb.out.up EY.out) (Mb.out.up EY.out) fb.out).mono ?_)
  rintro e wn ⟨rfl, hb⟩
  refine ⟨_, rfl, hb, ?_⟩
  replace EY := hid (EY.out.trans hb)
  clear hb
  simp only [Act.put, pA, pB, pC]
  refine WE.pure (d := some 22) rfl rfl (by rfl) (v := (.bool false)) (fun w' hk => by go_simp) ?_
  simp only [Act.put, pA, pB, pC]
  refine WE.pure (d := some 23) rfl rfl (by rfl) (v := (.bool false)) (fun w' hk => by go_simp) ?_
  simp only [Act.put, pA, pB, pC]
  refine WE.pure (d := some 24) rfl rfl (by rfl) (v := (.bool false)) (fun w' hk => by go_simp) ?_
  simp only [Act.put, pA, pB, pC]
  refine WE.pure (d := some 25) rfl rfl (by rfl) (v := (.pointer (some ⟨(W.heap.size + 2), 1, none⟩))) (fun w' hk => by go_simp) ?_
  simp only [Act.put, pA, pB, pC]
  refine WE.pure (d := some 26) rfl rfl (by rfl) (v := (.slice Ap np cp)) (fun w' hk => ?_) ?_
  · have ce1 := hk.cell ((BX2.out.up EY.out).cell (o := 1) (v := .slice Ap np cp) rfl); go_simp
  simp only [Act.put, pA, pB, pC]
  refine WE.pure (d := some 27) rfl rfl (by rfl) (v := (.int .i64 (np : Int))) (fun w' hk => by go_simp) ?_
  simp only [Act.put, pA, pB, pC]
  refine WE.pure (d := some 28) rfl rfl (by rfl) (v := (.bool true)) (fun w' hk => by go_simp) ?_
  simp only [Act.put, pA, pB, pC]
  refine WE.pure (d := some 29) rfl rfl (by rfl) (v := (.bool true)) (fun w' hk => by go_simp) ?_
  simp only [Act.put, pA, pB, pC]
  refine WE.pure (d := some 30) rfl rfl (by rfl) (v := (.bool true)) (fun w' hk => by go_simp) ?_
  simp only [Act.put, pA, pB, pC]
  refine WE.skip (d := some 31) rfl rfl (by rfl) ?_
  simp only [Act.put, pA, pB, pC]
  refine WE.skip (d := some 32) rfl rfl (by rfl) ?_
  simp only [Act.put, pA, pB, pC]
  refine WE.skip (d := some 33) rfl rfl (by rfl) ?_
  simp only [Act.put, pA, pB, pC]
  refine WE.skip (d := some 34) rfl rfl (by rfl) ?_
  simp only [Act.put, pA, pB, pC]
  refine WE.pure (d := some 35) rfl rfl (by rfl) (v := (.bool true)) (fun w' hk => by go_simp) ?_
  simp only [Act.put, pA, pB, pC]
  refine WE.done ?_
  repeat go_step
  go_ret
  exact ⟨rfl, (E.out.trans EY.out)⟩

set_option maxRecDepth 100000 in
set_option maxHeartbeats 2000000 in
theorem ratTells_skip3 (W : World) (ga : Bool) (Aa : Option Addr) (na ca : Nat) (la : List Nat) (Ba : Option Addr) (ma da : Nat) (ra : List Nat) (ha : Num W W.heap.size (.slice Aa na ca) la) (ka : Num W W.heap.size (.slice Ba ma da) ra) (gb : Bool) (Ab : Option Addr) (nb cb : Nat) (lb : List Nat) (Bb : Option Addr) (mb db : Nat) (rb : List Nat) (hb : Num W W.heap.size (.slice Ab nb cb) lb) (kb : Num W W.heap.size (.slice Bb mb db) rb) (gp : Bool) (Ap : Option Addr) (np cp : Nat) (lp : List Nat) (hp : Num W W.heap.size (.slice Ap np cp) lp) (gq : Bool) (Aq : Option Addr) (nq cq : Nat) (lq : List Nat) (hq : Num W W.heap.size (.slice Aq nq cq) lq) (fa : Hid ((decide (la.length ≤ 4) && decide (ra.length ≤ 4)) = true)) (fb : Hid ((decide (lb.length ≤ 4) && decide (rb.length ≤ 4)) = true)) (fp : Hid (decide (lp.length ≤ 5) = true)) (fq : Hid (decide (lq.length ≤ 5) = false)) :
    Calls Tryz.prog 3 #[.agg #[.bool ga, .slice Aa na ca, .slice Ba ma da], .agg #[.bool gb, .slice Ab nb cb, .slice Bb mb db], .agg #[.bool gp, .slice Ap np cp], .agg #[.bool gq, .slice Aq nq cq]] W (fun e w' => e = .returned (.bool true) ∧ Ext W w') := by
  have Na := hid ha
  have Ma := hid ka
  have Nb := hid hb
  have Mb := hid kb
  have hnp : np = lp.length := by obtain ⟨_, _, _, e, h, _⟩ := hp; injection e with _ e2; rw [e2, h]
  have hmp : np ≤ 9223372036854775807 := by obtain ⟨_, _, _, e, _, h1, h2, _⟩ := hp; injection e with _ e2 e3; unfold maxLen at h2; omega
  have hdp : decide (5 < np) = false := by have := of_decide_eq_true fp.out; rw [decide_eq_false_iff_not]; omega
  have hip : decide ((5 : Int) < (np : Int)) = false := by have := of_decide_eq_true fp.out; rw [decide_eq_false_iff_not]; omega
  clear hnp
  have hnq : nq = lq.length := by obtain ⟨_, _, _, e, h, _⟩ := hq; injection e with _ e2; rw [e2, h]
  have hmq : nq ≤ 9223372036854775807 := by obtain ⟨_, _, _, e, _, h1, h2, _⟩ := hq; injection e with _ e2 e3; unfold maxLen at h2; omega
  have hdq : decide (5 < nq) = true := by have := of_decide_eq_false fq.out; rw [decide_eq_true_iff]; omega
  have hiq : decide ((5 : Int) < (nq : Int)) = true := by have := of_decide_eq_false fq.out; rw [decide_eq_true_iff]; omega
  clear hnq
  clear ha ka hb kb hp hq
  go_enter Tryz.func3, Tryz.ntmps3
  go_upto_region 1 with (fail)
  have E := hid (((((Ext.refl W).alloc' (.cells #[.bool ga, .slice Aa na ca, .slice Ba ma da] 26)).alloc' (.cells #[.bool gb, .slice Ab nb cb, .slice Bb mb db] 26)).alloc' (.cells #[.bool gp, .slice Ap np cp] 24)).alloc' (.cells #[.bool gq, .slice Aq nq cq] 24))
  have BX0 : Hid (Box ((((W.alloc (.cells #[.bool ga, .slice Aa na ca, .slice Ba ma da] 26)).alloc (.cells #[.bool gb, .slice Ab nb cb, .slice Bb mb db] 26)).alloc (.cells #[.bool gp, .slice Ap np cp] 24)).alloc (.cells #[.bool gq, .slice Aq nq cq] 24)) (W.heap.size) #[.bool ga, .slice Aa na ca, .slice Ba ma da] 26) := hid ((((Box.at_ (w := W) #[.bool ga, .slice Aa na ca, .slice Ba ma da] 26 (by simp)).alloc (.cells #[.bool gb, .slice Ab nb cb, .slice Bb mb db] 26)).alloc (.cells #[.bool gp, .slice Ap np cp] 24)).alloc (.cells #[.bool gq, .slice Aq nq cq] 24))
  have BX1 : Hid (Box ((((W.alloc (.cells #[.bool ga, .slice Aa na ca, .slice Ba ma da] 26)).alloc (.cells #[.bool gb, .slice Ab nb cb, .slice Bb mb db] 26)).alloc (.cells #[.bool gp, .slice Ap np cp] 24)).alloc (.cells #[.bool gq, .slice Aq nq cq] 24)) (W.heap.size + 1) #[.bool gb, .slice Ab nb cb, .slice Bb mb db] 26) := hid (((Box.at_ (w := (W.alloc (.cells #[.bool ga, .slice Aa na ca, .slice Ba ma da] 26))) #[.bool gb, .slice Ab nb cb, .slice Bb mb db] 26 (by simp)).alloc (.cells #[.bool gp, .slice Ap np cp] 24)).alloc (.cells #[.bool gq, .slice Aq nq cq] 24))
  have BX2 : Hid (Box ((((W.alloc (.cells #[.bool ga, .slice Aa na ca, .slice Ba ma da] 26)).alloc (.cells #[.bool gb, .slice Ab nb cb, .slice Bb mb db] 26)).alloc (.cells #[.bool gp, .slice Ap np cp] 24)).alloc (.cells #[.bool gq, .slice Aq nq cq] 24)) (W.heap.size + 2) #[.bool gp, .slice Ap np cp] 24) := hid ((Box.at_ (w := ((W.alloc (.cells #[.bool ga, .slice Aa na ca, .slice Ba ma da] 26)).alloc (.cells #[.bool gb, .slice Ab nb cb, .slice Bb mb db] 26))) #[.bool gp, .slice Ap np cp] 24 (by simp)).alloc (.cells #[.bool gq, .slice Aq nq cq] 24))
  have BX3 : Hid (Box ((((W.alloc (.cells #[.bool ga, .slice Aa na ca, .slice Ba ma da] 26)).alloc (.cells #[.bool gb, .slice Ab nb cb, .slice Bb mb db] 26)).alloc (.cells #[.bool gp, .slice Ap np cp] 24)).alloc (.cells #[.bool gq, .slice Aq nq cq] 24)) (W.heap.size + 3) #[.bool gq, .slice Aq nq cq] 24) := hid (Box.at_ (w := (((W.alloc (.cells #[.bool ga, .slice Aa na ca, .slice Ba ma da] 26)).alloc (.cells #[.bool gb, .slice Ab nb cb, .slice Bb mb db] 26)).alloc (.cells #[.bool gp, .slice Ap np cp] 24))) #[.bool gq, .slice Aq nq cq] 24 (by simp))
  replace Na := hid (Na.out.up E.out)
  replace Ma := hid (Ma.out.up E.out)
  replace Nb := hid (Nb.out.up E.out)
  replace Mb := hid (Mb.out.up E.out)
  refine wp_region_T [(0, 1), (1, 0)] (by kernel_rfl) fun wd hb => ?_
  replace E := hid (E.out.trans hb)
  replace BX0 := hid (BX0.out.up hb)
  replace BX1 := hid (BX1.out.up hb)
  replace BX2 := hid (BX2.out.up hb)
  replace BX3 := hid (BX3.out.up hb)
  replace Na := hid (Na.out.up hb)
  replace Ma := hid (Ma.out.up hb)
  replace Nb := hid (Nb.out.up hb)
  replace Mb := hid (Mb.out.up hb)
  clear hb
  have EY := hid (Ext.refl wd)
  refine WE.call (d := some 14) rfl rfl (by rfl) (by go_simp) ((known5 _).mono ?_)
  rintro e wn ⟨rfl, hb⟩
  refine ⟨_, rfl, hb, ?_⟩
  replace EY := hid (EY.out.trans hb)
  clear hb
  simp only [Act.put, pA, pB, pC]
  refine WE.pure (d := some 15) rfl rfl (by rfl) (v := (.bool false)) (fun w' hk => by go_simp) ?_
  simp only [Act.put, pA, pB, pC]
  refine WE.done ?_
  go_upto_region 3 with (fail)
  refine wp_region_T [(0, 0), (1, 1), (2, 0), (3, 0), (4, 0), (5, 1), (6, 0), (7, 0), (8, 0), (9, 0), (10, 0), (11, 0), (12, 0), (13, 0), (14, 0), (15, 0), (16, 0), (17, 0), (18, 0), (19, 0)] (by kernel_rfl) fun wd hb => ?_
  replace EY := hid (EY.out.trans hb)
  clear hb
  refine WE.pure (d := some 16) rfl rfl (by rfl) (v := (.agg #[.bool ga, .slice Aa na ca, .slice Ba ma da])) (fun w' hk => ?_) ?_
  · obtain ⟨ce0, ce1, ce2⟩ := ((BX0.out.up EY.out).up hk).c3; go_simp
  simp only [Act.put, pA, pB, pC]
  refine WE.call (d := some 17) rfl rfl (by rfl) (by go_simp) ((few5 (g := ga) (Na.out.up EY.out) (Ma.out.up EY.out) fa.out).mono ?_)
  rintro e wn ⟨rfl, hb⟩
  refine ⟨_, rfl, hb, ?_⟩
  replace EY := hid (EY.out.trans hb)
  clear hb
  simp only [Act.put, pA, pB, pC]
  refine WE.pure (d := some 18) rfl rfl (by rfl) (v := (.bool false)) (fun w' hk => by go_simp) ?_
  simp only [Act.put, pA, pB, pC]
  refine WE.pure (d := some 19) rfl rfl (by rfl) (v := (.bool false)) (fun w' hk => by go_simp) ?_
  simp only [Act.put, pA, pB, pC]
  refine WE.pure (d := some 20) rfl rfl (by rfl) (v := (.agg #[.bool gb, .slice Ab nb cb, .slice Bb mb db])) (fun w' hk => ?_) ?_
  · obtain ⟨ce0, ce1, ce2⟩ := ((BX1.out.up EY.out).up hk).c3; go_simp
  simp only [Act.put, pA, pB, pC]
  refine WE.call (d := some 21) rfl rfl (by rfl) (by go_simp) ((few5 (g := gb) (Nb.out.up EY.out) (Mb.out.up EY.out) fb.out).mono ?_)
  rintro e wn ⟨rfl, hb⟩
  refine ⟨_, rfl, hb, ?_⟩
  replace EY := hid (EY.out.trans hb)
  clear hb
  simp only [Act.put, pA, pB, pC]
  refine WE.pure (d := some 22) rfl rfl (by rfl) (v := (.bool false)) (fun w' hk => by go_simp) ?_
  simp only [Act.put, pA, pB, pC]
  refine WE.pure (d := some 23) rfl rfl (by rfl) (v := (.bool false)) (fun w' hk => by go_simp) ?_
  simp only [Act.put, pA, pB, pC]
  refine WE.pure (d := some 24) rfl rfl (by rfl) (v := (.bool false)) (fun w' hk => by go_simp) ?_
  simp only [Act.put, pA, pB, pC]
  refine WE.pure (d := some 25) rfl rfl (by rfl) (v := (.pointer (some ⟨(W.heap.size + 2), 1, none⟩))) (fun w' hk => by go_simp) ?_
  simp only [Act.put, pA, pB, pC]
  refine WE.pure (d := some 26) rfl rfl (by rfl) (v := (.slice Ap np cp)) (fun w' hk => ?_) ?_
  · have ce1 := hk.cell ((BX2.out.up EY.out).cell (o := 1) (v := .slice Ap np cp) rfl); go_simp
  simp only [Act.put, pA, pB, pC]
  refine WE.pure (d := some 27) rfl rfl (by rfl) (v := (.int .i64 (np : Int))) (fun w' hk => by go_simp) ?_
  simp only [Act.put, pA, pB, pC]
  refine WE.pure (d := some 28) rfl rfl (by rfl) (v := (.bool false)) (fun w' hk => by go_simp) ?_
  simp only [Act.put, pA, pB, pC]
  refine WE.pure (d := some 29) rfl rfl (by rfl) (v := (.bool false)) (fun w' hk => by go_simp) ?_
  simp only [Act.put, pA, pB, pC]
  refine WE.pure (d := some 30) rfl rfl (by rfl) (v := (.bool false)) (fun w' hk => by go_simp) ?_
  simp only [Act.put, pA, pB, pC]
  refine WE.pure (d := some 31) rfl rfl (by rfl) (v := (.pointer (some ⟨(W.heap.size + 3), 1, none⟩))) (fun w' hk => by go_simp) ?_
  simp only [Act.put, pA, pB, pC]
  refine WE.pure (d := some 32) rfl rfl (by rfl) (v := (.slice Aq nq cq)) (fun w' hk => ?_) ?_
  · have ce1 := hk.cell ((BX3.out.up EY.out).cell (o := 1) (v := .slice Aq nq cq) rfl); go_simp
  simp only [Act.put, pA, pB, pC]
  refine WE.pure (d := some 33) rfl rfl (by rfl) (v := (.int .i64 (nq : Int))) (fun w' hk => by go_simp) ?_
  simp only [Act.put, pA, pB, pC]
  refine WE.pure (d := some 34) rfl rfl (by rfl) (v := (.bool true)) (fun w' hk => by go_simp) ?_
  simp only [Act.put, pA, pB, pC]
  refine WE.pure (d := some 35) rfl rfl (by rfl) (v := (.bool true)) (fun w' hk => by go_simp) ?_
  simp only [Act.put, pA, pB, pC]
  refine WE.done ?_
  repeat go_step
  go_ret
  exact ⟨rfl, (E.out.trans EY.out)⟩

end Go.Proofs.YtkjfeedclaedfaaGreat
