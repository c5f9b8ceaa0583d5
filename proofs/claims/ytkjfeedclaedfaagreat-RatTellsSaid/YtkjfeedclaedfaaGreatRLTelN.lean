/-
  RatTells's law, one of its ways.
-/
import Derived.Test.YtkjfeedclaedfaaGreatRKnown
import Derived.Test.YtkjfeedclaedfaaGreatRLMath
namespace Go.Proofs.YtkjfeedclaedfaaGreat
open Go.ChangeShapes Go.WideShapes Go.ChangeAt Go.RowKit
set_option linter.unusedSimpArgs false
set_option linter.unusedVariables false

set_option maxRecDepth 100000 in
set_option maxHeartbeats 16000000 in
theorem ratTells_some (W : World) (ga : Bool) (Aa : Option Addr) (na ca : Nat) (la : List Nat) (Ba : Option Addr) (ma da : Nat) (ra : List Nat) (ha : Num W W.heap.size (.slice Aa na ca) la) (ka : Num W W.heap.size (.slice Ba ma da) ra) (gb : Bool) (Ab : Option Addr) (nb cb : Nat) (lb : List Nat) (Bb : Option Addr) (mb db : Nat) (rb : List Nat) (hb : Num W W.heap.size (.slice Ab nb cb) lb) (kb : Num W W.heap.size (.slice Bb mb db) rb) (gp : Bool) (Ap : Option Addr) (np cp : Nat) (lp : List Nat) (hp : Num W W.heap.size (.slice Ap np cp) lp) (gq : Bool) (Aq : Option Addr) (nq cq : Nat) (lq : List Nat) (hq : Num W W.heap.size (.slice Aq nq cq) lq) (fa : Hid ((decide (la.length ≤ 4) && decide (ra.length ≤ 4)) = true)) (fb : Hid ((decide (lb.length ≤ 4) && decide (rb.length ≤ 4)) = true)) (fp : Hid (decide (lp.length ≤ 5) = true)) (fq : Hid (decide (lq.length ≤ 5) = true)) (x : Rat) (HX : Hid (x = M.rv ga la ra)) (y : Rat) (HY : Hid (y = M.rv gb lb rb)) (Z : Int) (HZZ : Hid (Z = M.zv gp lp)) (Y : Int) (HYY : Hid (Y = M.zv gq lq)) (hcond : Hid (y ≠ 0)) :
    Calls Tryz.prog 3 #[.agg #[.bool ga, .slice Aa na ca, .slice Ba ma da], .agg #[.bool gb, .slice Ab nb cb, .slice Bb mb db], .agg #[.bool gp, .slice Ap np cp], .agg #[.bool gq, .slice Aq nq cq]] W (fun e w' => e = .returned (.bool true) ∧ Ext W w') := by
  have Na := hid ha
  have Ma := hid ka
  have Nb := hid hb
  have Mb := hid kb
  have KLa := hid (few_l fa.out)
  have KRa := hid (few_r fa.out)
  have Ra := hid (worthR_of ha ka KLa.out KRa.out HX.out)
  have KLb := hid (few_l fb.out)
  have KRb := hid (few_r fb.out)
  have Rb := hid (worthR_of hb kb KLb.out KRb.out HY.out)
  have Rp := hid (worth_of hp (of_decide_eq_true fp.out) HZZ.out)
  have Rq := hid (worth_of hq (of_decide_eq_true fq.out) HYY.out)
  have hnp : np = lp.length := by obtain ⟨_, _, _, e, h, _⟩ := hp; injection e with _ e2; rw [e2, h]
  have hmp : np ≤ 9223372036854775807 := by obtain ⟨_, _, _, e, _, h1, h2, _⟩ := hp; injection e with _ e2 e3; unfold maxLen at h2; omega
  have hdp : decide (5 < np) = false := by have := of_decide_eq_true fp.out; rw [decide_eq_false_iff_not]; omega
  have hip : decide ((5 : Int) < (np : Int)) = false := by have := of_decide_eq_true fp.out; rw [decide_eq_false_iff_not]; omega
  clear hnp
  have hnq : nq = lq.length := by obtain ⟨_, _, _, e, h, _⟩ := hq; injection e with _ e2; rw [e2, h]
  have hmq : nq ≤ 9223372036854775807 := by obtain ⟨_, _, _, e, _, h1, h2, _⟩ := hq; injection e with _ e2 e3; unfold maxLen at h2; omega
  have hdq : decide (5 < nq) = false := by have := of_decide_eq_true fq.out; rw [decide_eq_false_iff_not]; omega
  have hiq : decide ((5 : Int) < (nq : Int)) = false := by have := of_decide_eq_true fq.out; rw [decide_eq_false_iff_not]; omega
  clear hnq
  obtain ⟨ia, hia⟩ : ∃ b : Bool, M.isR ga la ra = b := ⟨_, rfl⟩
  have HIA := hid hia
  obtain ⟨z, hz⟩ : ∃ z : Int, M.rcmp x y = z := ⟨_, rfl⟩
  have HZ := hid hz
  obtain ⟨b, hb⟩ : ∃ b : Bool, decide (x = y) = b := ⟨_, rfl⟩
  have hzb : (z == 0) = b := by rw [← hb, ← hz, Bool.eq_iff_iff, beq_iff_eq, decide_eq_true_iff]; exact M.rcmp_eq
  have HB := hid hb
  obtain ⟨s, hs⟩ : ∃ s : Int, y.num.sign = s := ⟨_, rfl⟩
  have HS := hid hs
  have hs0 : (s == 0) = false := by rw [← hs]; rw [beq_eq_false_iff_ne]; exact fun h => hcond.out (Rat.num_eq_zero.1 (Int.sign_eq_zero_iff_zero.1 h))
  have HY0 := hid (show y.num.sign ≠ 0 from fun h => hcond.out (Rat.num_eq_zero.1 (Int.sign_eq_zero_iff_zero.1 h)))
  obtain ⟨t, ht⟩ : ∃ b : Bool, decide (x.den = 1) = b := ⟨_, rfl⟩
  have HT := hid ht
  have HTL := hid (show decide (M.limbs ((x.den : Int)).natAbs = M.limbs 1) = t by rw [← ht, Bool.eq_iff_iff, decide_eq_true_iff, decide_eq_true_iff]; exact ⟨fun h => by have := M.limbs_inj h; omega, fun h => by rw [show ((x.den : Int)).natAbs = 1 by omega]⟩)
  clear hia hz hb hs ht
  clear ha ka hb kb hp hq
  go_enter Tryz.func3, Tryz.ntmps3
  go_upto_region 1 with (fail)
  have E := hid (((((Ext.refl W).alloc' (.cells #[.bool ga, .slice Aa na ca, .slice Ba ma da] 26)).alloc' (.cells #[.bool gb, .slice Ab nb cb, .slice Bb mb db] 26)).alloc' (.cells #[.bool gp, .slice Ap np cp] 24)).alloc' (.cells #[.bool gq, .slice Aq nq cq] 24))
  have BX0 : Hid (Box ((((W.alloc (.cells #[.bool ga, .slice Aa na ca, .slice Ba ma da] 26)).alloc (.cells #[.bool gb, .slice Ab nb cb, .slice Bb mb db] 26)).alloc (.cells #[.bool gp, .slice Ap np cp] 24)).alloc (.cells #[.bool gq, .slice Aq nq cq] 24)) (W.heap.size) #[.bool ga, .slice Aa na ca, .slice Ba ma da] 26) := hid ((((Box.at_ (w := W) #[.bool ga, .slice Aa na ca, .slice Ba ma da] 26 (by simp)).alloc (.cells #[.bool gb, .slice Ab nb cb, .slice Bb mb db] 26)).alloc (.cells #[.bool gp, .slice Ap np cp] 24)).alloc (.cells #[.bool gq, .slice Aq nq cq] 24))
  have BX1 : Hid (Box ((((W.alloc (.cells #[.bool ga, .slice Aa na ca, .slice Ba ma da] 26)).alloc (.cells #[.bool gb, .slice Ab nb cb, .slice Bb mb db] 26)).alloc (.cells #[.bool gp, .slice Ap np cp] 24)).alloc (.cells #[.bool gq, .slice Aq nq cq] 24)) (W.heap.size + 1) #[.bool gb, .slice Ab nb cb, .slice Bb mb db] 26) := hid (((Box.at_ (w := (W.alloc (.cells #[.bool ga, .slice Aa na ca, .slice Ba ma da] 26))) #[.bool gb, .slice Ab nb cb, .slice Bb mb db] 26 (by simp)).alloc (.cells #[.bool gp, .slice Ap np cp] 24)).alloc (.cells #[.bool gq, .slice Aq nq cq] 24))
  have BX2 : Hid (Box ((((W.alloc (.cells #[.bool ga, .slice Aa na ca, .slice Ba ma da] 26)).alloc (.cells #[.bool gb, .slice Ab nb cb, .slice Bb mb db] 26)).alloc (.cells #[.bool gp, .slice Ap np cp] 24)).alloc (.cells #[.bool gq, .slice Aq nq cq] 24)) (W.heap.size + 2) #[.bool gp, .slice Ap np cp] 24) := hid ((Box.at_ (w := ((W.alloc (.cells #[.bool ga, .slice Aa na ca, .slice Ba ma da] 26)).alloc (.cells #[.bool gb, .slice Ab nb cb, .slice Bb mb db] 26))) #[.bool gp, .slice Ap np cp] 24 (by simp)).alloc (.cells #[.bool gq, .slice Aq nq cq] 24))
  have BX3 : Hid (Box ((((W.alloc (.cells #[.bool ga, .slice Aa na ca, .slice Ba ma da] 26)).alloc (.cells #[.bool gb, .slice Ab nb cb, .slice Bb mb db] 26)).alloc (.cells #[.bool gp, .slice Ap np cp] 24)).alloc (.cells #[.bool gq, .slice Aq nq cq] 24)) (W.heap.size + 3) #[.bool gq, .slice Aq nq cq] 24) := hid (Box.at_ (w := (((W.alloc (.cells #[.bool ga, .slice Aa na ca, .slice Ba ma da] 26)).alloc (.cells #[.bool gb, .slice Ab nb cb, .slice Bb mb db] 26)).alloc (.cells #[.bool gp, .slice Ap np cp] 24))) #[.bool gq, .slice Aq nq cq] 24 (by simp))
  replace Na := hid (Na.out.up E.out)
  replace Ma := hid (Ma.out.up E.out)
  replace Nb := hid (Nb.out.up E.out)
  replace Mb := hid (Mb.out.up E.out)
  replace Ra := hid (Ra.out.up E.out)
  replace Rb := hid (Rb.out.up E.out)
  replace Rp := hid (Rp.out.up E.out)
  replace Rq := hid (Rq.out.up E.out)
  refine wp_region_T [(0, 1), (1, 0)] (by kernel_rfl) fun wd hb => ?_
  replace E := hid (E.out.trans hb)
  replace BX0 := hid (BX0.out.up hb)
  replace BX1 := hid (BX1.out.up hb)
  replace BX2 := hid (BX2.out.up hb)
  replace BX3 := hid (BX3.out.up hb)
  replace Na := hid (Na.out.up hb)
  replace Ma := hid (Ma.out.up hb)
  replace Nb := hid (Nb.out.up hb)
  replace Mb := hid (Mb.out.up hb)
  replace Ra := hid (Ra.out.up hb)
  replace Rb := hid (Rb.out.up hb)
  replace Rp := hid (Rp.out.up hb)
  replace Rq := hid (Rq.out.up hb)
  clear hb
  have EY := hid (Ext.refl wd)
  refine WE.call (d := some 14) rfl rfl (by rfl) (by go_simp) ((known5 _).mono ?_)
  rintro e wn ⟨rfl, hb⟩
  refine ⟨_, rfl, hb, ?_⟩
  replace EY := hid (EY.out.trans hb)
  clear hb
  simp only [Act.put, pA, pB, pC]
  refine WE.pure (d := some 15) rfl rfl (by rfl) (v := (.bool false)) (fun w' hk => by go_simp) ?_
  simp only [Act.put, pA, pB, pC]
  refine WE.done ?_
  go_upto_region 3 with (fail)
  refine wp_region_T [(0, 0), (1, 1), (2, 0), (3, 0), (4, 0), (5, 1), (6, 0), (7, 0), (8, 0), (9, 0), (10, 0), (11, 0), (12, 0), (13, 0), (14, 0), (15, 0), (16, 0), (17, 0), (18, 0), (19, 0)] (by kernel_rfl) fun wd hb => ?_
  replace EY := hid (EY.out.trans hb)
  clear hb
  refine WE.pure (d := some 16) rfl rfl (by rfl) (v := (.agg #[.bool ga, .slice Aa na ca, .slice Ba ma da])) (fun w' hk => ?_) ?_
  · obtain ⟨ce0, ce1, ce2⟩ := ((BX0.out.up EY.out).up hk).c3; go_simp
  simp only [Act.put, pA, pB, pC]
  refine WE.call (d := some 17) rfl rfl (by rfl) (by go_simp) ((few5 (g := ga) (Na.out.up EY.out) (Ma.out.up EY.out) fa.out).mono ?_)
  rintro e wn ⟨rfl, hb⟩
  refine ⟨_, rfl, hb, ?_⟩
  replace EY := hid (EY.out.trans hb)
  clear hb
  simp only [Act.put, pA, pB, pC]
  refine WE.pure (d := some 18) rfl rfl (by rfl) (v := (.bool false)) (fun w' hk => by go_simp) ?_
  simp only [Act.put, pA, pB, pC]
  refine WE.pure (d := some 19) rfl rfl (by rfl) (v := (.bool false)) (fun w' hk => by go_simp) ?_
  simp only [Act.put, pA, pB, pC]
  refine WE.pure (d := some 20) rfl rfl (by rfl) (v := (.agg #[.bool gb, .slice Ab nb cb, .slice Bb mb db])) (fun w' hk => ?_) ?_
  · obtain ⟨ce0, ce1, ce2⟩ := ((BX1.out.up EY.out).up hk).c3; go_simp
  simp only [Act.put, pA, pB, pC]
  refine WE.call (d := some 21) rfl rfl (by rfl) (by go_simp) ((few5 (g := gb) (Nb.out.up EY.out) (Mb.out.up EY.out) fb.out).mono ?_)
  rintro e wn ⟨rfl, hb⟩
  refine ⟨_, rfl, hb, ?_⟩
  replace EY := hid (EY.out.trans hb)
  clear hb
  simp only [Act.put, pA, pB, pC]
  refine WE.pure (d := some 22) rfl rfl (by rfl) (v := (.bool false)) (fun w' hk => by go_simp) ?_
  simp only [Act.put, pA, pB, pC]
  refine WE.pure (d := some 23) rfl rfl (by rfl) (v := (.bool false)) (fun w' hk => by go_simp) ?_
  simp only [Act.put, pA, pB, pC]
  refine WE.pure (d := some 24) rfl rfl (by rfl) (v := (.bool false)) (fun w' hk => by go_simp) ?_
  simp only [Act.put, pA, pB, pC]
  as_aux_lemma =>
  refine WE.pure (d := some 25) rfl rfl (by rfl) (v := (.pointer (some ⟨(W.heap.size + 2), 1, none⟩))) (fun w' hk => by go_simp) ?_
  simp only [Act.put, pA, pB, pC]
  refine WE.pure (d := some 26) rfl rfl (by rfl) (v := (.slice Ap np cp)) (fun w' hk => ?_) ?_
  · have ce1 := hk.cell ((BX2.out.up EY.out).cell (o := 1) (v := .slice Ap np cp) rfl); go_simp
  simp only [Act.put, pA, pB, pC]
  refine WE.pure (d := some 27) rfl rfl (by rfl) (v := (.int .i64 (np : Int))) (fun w' hk => by go_simp) ?_
  simp only [Act.put, pA, pB, pC]
  refine WE.pure (d := some 28) rfl rfl (by rfl) (v := (.bool false)) (fun w' hk => by go_simp) ?_
  simp only [Act.put, pA, pB, pC]
  refine WE.pure (d := some 29) rfl rfl (by rfl) (v := (.bool false)) (fun w' hk => by go_simp) ?_
  simp only [Act.put, pA, pB, pC]
  refine WE.pure (d := some 30) rfl rfl (by rfl) (v := (.bool false)) (fun w' hk => by go_simp) ?_
  simp only [Act.put, pA, pB, pC]
  refine WE.pure (d := some 31) rfl rfl (by rfl) (v := (.pointer (some ⟨(W.heap.size + 3), 1, none⟩))) (fun w' hk => by go_simp) ?_
  simp only [Act.put, pA, pB, pC]
  refine WE.pure (d := some 32) rfl rfl (by rfl) (v := (.slice Aq nq cq)) (fun w' hk => ?_) ?_
  · have ce1 := hk.cell ((BX3.out.up EY.out).cell (o := 1) (v := .slice Aq nq cq) rfl); go_simp
  simp only [Act.put, pA, pB, pC]
  refine WE.pure (d := some 33) rfl rfl (by rfl) (v := (.int .i64 (nq : Int))) (fun w' hk => by go_simp) ?_
  simp only [Act.put, pA, pB, pC]
  refine WE.pure (d := some 34) rfl rfl (by rfl) (v := (.bool false)) (fun w' hk => by go_simp) ?_
  simp only [Act.put, pA, pB, pC]
  refine WE.pure (d := some 35) rfl rfl (by rfl) (v := (.bool false)) (fun w' hk => by go_simp) ?_
  simp only [Act.put, pA, pB, pC]
  refine WE.done ?_
  go_upto_region 5 with (fail)
  refine wp_region_T [(0, 0), (1, 0), (2, 1), (3, 0), (4, 0), (5, 0), (6, 1), (7, 4), (8, 0)] (by kernel_rfl) fun wd hb => ?_
  replace EY := hid (EY.out.trans hb)
  clear hb
  refine WE.pure (d := some 37) rfl rfl (by rfl) (v := (.agg #[.bool ga, .slice Aa na ca, .slice Ba ma da])) (fun w' hk => ?_) ?_
  · obtain ⟨ce0, ce1, ce2⟩ := ((BX0.out.up EY.out).up hk).c3; go_simp
  simp only [Act.put, pA, pB, pC]
  as_aux_lemma =>
  refine WE.pure (d := some 38) rfl rfl (by rfl) (v := (.agg #[.bool gb, .slice Ab nb cb, .slice Bb mb db])) (fun w' hk => ?_) ?_
  · obtain ⟨ce0, ce1, ce2⟩ := ((BX1.out.up EY.out).up hk).c3; go_simp
  simp only [Act.put, pA, pB, pC]
  refine WE.call (d := some 39) rfl rfl (by rfl) (by go_simp) ((fDiv_some (WorthR.wide (Ra.out.up EY.out) (k := 4) (by omega)) (WorthR.wide (Rb.out.up EY.out) (k := 4) (by omega)) (by omega) (by omega) (HY0.out)).mono ?_)
  rintro e wn ⟨v1, rfl, x1, hb⟩
  obtain ⟨g11, A11, n11, c11, B11, m11, d11, rfl, p1, q1⟩ := x1
  refine ⟨_, rfl, hb, ?_⟩
  replace EY := hid (EY.out.trans hb)
  have P11 := hid p1
  have D11 := hid q1
  clear hb p1 q1
  simp only [Act.put, pA, pB, pC]
  refine WE.pure (d := some 36) rfl rfl (by rfl) (v := (.tuple #[(.agg #[.bool g11, .slice A11 n11 c11, .slice B11 m11 d11]), (.int .i64 0)])) (fun w' hk => by go_simp) ?_
  simp only [Act.put, pA, pB, pC]
  refine WE.pure (d := some 40) rfl rfl (by rfl) (v := (.agg #[.bool g11, .slice A11 n11 c11, .slice B11 m11 d11])) (fun w' hk => by go_simp) ?_
  simp only [Act.put, pA, pB, pC]
  refine WE.pure (d := some 41) rfl rfl (by rfl) (v := (.int .i64 0)) (fun w' hk => by go_simp) ?_
  simp only [Act.put, pA, pB, pC]
  refine WE.new (d := some 9) (cs := #[.bool false, .slice none 0 0, .slice none 0 0]) (t := 26) (v := fun g => (.pointer (some ⟨g, 0, none⟩))) rfl rfl (by rfl) (fun w => by go_simp) fun gV9 wv hx0 hbox hge => ?_
  have HNV9BX0 := hid (show gV9 ≠ (W.heap.size) by have := (BX0.out.up EY.out).lt; omega)
  have HNV9BX1 := hid (show gV9 ≠ (W.heap.size + 1) by have := (BX1.out.up EY.out).lt; omega)
  have HNV9BX2 := hid (show gV9 ≠ (W.heap.size + 2) by have := (BX2.out.up EY.out).lt; omega)
  have HNV9BX3 := hid (show gV9 ≠ (W.heap.size + 3) by have := (BX3.out.up EY.out).lt; omega)
  have HGV9 := hid (show W.heap.size ≤ gV9 by have := (E.out.trans EY.out).size; omega)
  replace EY := hid (EY.out.trans hx0)
  replace P11 := hid (P11.out.up hx0)
  replace D11 := hid (D11.out.up hx0)
  have V9 : Hid (Box wv gV9 #[.bool false, .slice none 0 0, .slice none 0 0] 26) := hid hbox
  clear hx0 hbox hge
  simp only [Act.put, pA, pB, pC]
  refine WE.store3 (g := gV9) (x := .bool g11) (y := .slice A11 n11 c11) (z := .slice B11 m11 d11) (t := 26) rfl rfl (by rfl) (fun w hb => ?_) V9.out (by rfl) fun ws hk hs => ?_
  · obtain ⟨ce0, ce1, ce2⟩ := hb.c3; obtain ⟨f0, f1, f2⟩ := hb.f3; go_simp
  intro hbx
  replace E := hid ((E.out.trans EY.out).keptG hk HGV9.out)
  replace BX0 := hid ((BX0.out.up EY.out).kept hk (by simpa using HNV9BX0.out.symm))
  replace BX1 := hid ((BX1.out.up EY.out).kept hk (by simpa using HNV9BX1.out.symm))
  replace BX2 := hid ((BX2.out.up EY.out).kept hk (by simpa using HNV9BX2.out.symm))
  replace BX3 := hid ((BX3.out.up EY.out).kept hk (by simpa using HNV9BX3.out.symm))
  replace V9 := hid hbx
  replace Na := hid ((Na.out.up EY.out).kz hs)
  replace Ma := hid ((Ma.out.up EY.out).kz hs)
  replace Ra := hid ((Ra.out.up EY.out).kz hs)
  replace Rb := hid ((Rb.out.up EY.out).kz hs)
  replace Rp := hid ((Rp.out.up EY.out).kz hs)
  replace Rq := hid ((Rq.out.up EY.out).kz hs)
  replace P11 := hid (P11.out.kz hs)
  replace D11 := hid (D11.out.kz hs)
  clear hk hs hbx
  replace EY := hid (Ext.refl ws)
  refine WE.pure (d := some 10) rfl rfl (by rfl) (v := (.int .i64 0)) (fun w' hk => by go_simp) ?_
  simp only [Act.put, pA, pB, pC]
  refine WE.done ?_
  go_upto_region 6 with (fail)
  refine wp_region_T [(0, 1), (1, 0), (2, 1), (3, 4)] (by kernel_rfl) fun wd hb => ?_
  replace EY := hid (EY.out.trans hb)
  clear hb
  refine WE.new (d := some 42) (cs := #[.int .u32 1]) (t := 32) (v := fun g => (.slice (some ⟨g, 0, none⟩) 1 1)) rfl rfl (by rfl) (fun w => by go_simp) fun gVL wv hx0 hbox hge => ?_
  replace EY := hid (EY.out.trans hx0)
  clear hx0 hbox hge
  simp only [Act.put, pA, pB, pC]
  refine WE.pure (d := some 43) rfl rfl (by rfl) (v := (.agg #[.bool false, .slice none 0 0, .slice (some ⟨gVL, 0, none⟩) 1 1])) (fun w' hk => by go_simp) ?_
  simp only [Act.put, pA, pB, pC]
  refine WE.new (d := some 11) (cs := #[.bool false, .slice none 0 0, .slice none 0 0]) (t := 26) (v := fun g => (.pointer (some ⟨g, 0, none⟩))) rfl rfl (by rfl) (fun w => by go_simp) fun gV11 wv hx0 hbox hge => ?_
  have HNV11BX0 := hid (show gV11 ≠ (W.heap.size) by have := (BX0.out.up EY.out).lt; omega)
  have HNV11BX1 := hid (show gV11 ≠ (W.heap.size + 1) by have := (BX1.out.up EY.out).lt; omega)
  have HNV11BX2 := hid (show gV11 ≠ (W.heap.size + 2) by have := (BX2.out.up EY.out).lt; omega)
  have HNV11BX3 := hid (show gV11 ≠ (W.heap.size + 3) by have := (BX3.out.up EY.out).lt; omega)
  have HNV11V9 := hid (show gV11 ≠ gV9 by have := (V9.out.up EY.out).lt; omega)
  have HGV11 := hid (show W.heap.size ≤ gV11 by have := (E.out.trans EY.out).size; omega)
  replace EY := hid (EY.out.trans hx0)
  have V11 : Hid (Box wv gV11 #[.bool false, .slice none 0 0, .slice none 0 0] 26) := hid hbox
  clear hx0 hbox hge
  simp only [Act.put, pA, pB, pC]
  refine WE.store3 (g := gV11) (x := .bool false) (y := .slice none 0 0) (z := .slice (some ⟨gVL, 0, none⟩) 1 1) (t := 26) rfl rfl (by rfl) (fun w hb => ?_) V11.out (by rfl) fun ws hk hs => ?_
  · obtain ⟨ce0, ce1, ce2⟩ := hb.c3; obtain ⟨f0, f1, f2⟩ := hb.f3; go_simp
  intro hbx
  replace E := hid ((E.out.trans EY.out).keptG hk HGV11.out)
  replace BX0 := hid ((BX0.out.up EY.out).kept hk (by simpa using HNV11BX0.out.symm))
  replace BX1 := hid ((BX1.out.up EY.out).kept hk (by simpa using HNV11BX1.out.symm))
  replace BX2 := hid ((BX2.out.up EY.out).kept hk (by simpa using HNV11BX2.out.symm))
  replace BX3 := hid ((BX3.out.up EY.out).kept hk (by simpa using HNV11BX3.out.symm))
  replace V9 := hid ((V9.out.up EY.out).kept hk (by simpa using HNV11V9.out.symm))
  replace V11 := hid hbx
  replace Na := hid ((Na.out.up EY.out).kz hs)
  replace Ma := hid ((Ma.out.up EY.out).kz hs)
  replace Ra := hid ((Ra.out.up EY.out).kz hs)
  replace Rb := hid ((Rb.out.up EY.out).kz hs)
  replace Rp := hid ((Rp.out.up EY.out).kz hs)
  replace Rq := hid ((Rq.out.up EY.out).kz hs)
  replace P11 := hid ((P11.out.up EY.out).kz hs)
  replace D11 := hid ((D11.out.up EY.out).kz hs)
  clear hk hs hbx
  replace EY := hid (Ext.refl ws)
  refine WE.done ?_
  go_upto_region 7 with (fail)
  refine wp_region_T [(0, 0), (1, 1), (2, 0), (3, 0)] (by kernel_rfl) fun wd hb => ?_
  replace EY := hid (EY.out.trans hb)
  clear hb
  as_aux_lemma =>
  refine WE.pure (d := some 44) rfl rfl (by rfl) (v := (.agg #[.bool gb, .slice Ab nb cb, .slice Bb mb db])) (fun w' hk => ?_) ?_
  · obtain ⟨ce0, ce1, ce2⟩ := ((BX1.out.up EY.out).up hk).c3; go_simp
  simp only [Act.put, pA, pB, pC]
  refine WE.call (d := some 45) rfl rfl (by rfl) (by go_simp) ((rSignR_r (WorthR.wide (Rb.out.up EY.out) (k := 4) (by omega)) (by omega) (by omega) (s := s) (HS.out)).mono ?_)
  rintro e wn ⟨rfl, hb⟩
  refine ⟨_, rfl, hb, ?_⟩
  replace EY := hid (EY.out.trans hb)
  clear hb
  simp only [Act.put, pA, pB, pC]
  refine WE.pure (d := some 46) rfl rfl (by rfl) (v := (.bool false)) (fun w' hk => by go_simp) ?_
  simp only [Act.put, pA, pB, pC]
  refine WE.pure (d := some 12) rfl rfl (by rfl) (v := (.bool false)) (fun w' hk => by go_simp) ?_
  simp only [Act.put, pA, pB, pC]
  refine WE.done ?_
  go_upto_region 8 with (fail)
  refine wp_region_T [(0, 0), (1, 0)] (by kernel_rfl) fun wd hb => ?_
  replace EY := hid (EY.out.trans hb)
  clear hb
  refine WE.pure (d := some 47) rfl rfl (by rfl) (v := (.bool false)) (fun w' hk => by go_simp) ?_
  simp only [Act.put, pA, pB, pC]
  refine WE.pure (d := some 48) rfl rfl (by rfl) (v := (.bool true)) (fun w' hk => by go_simp) ?_
  simp only [Act.put, pA, pB, pC]
  refine WE.done ?_
  go_upto_region 9 with (fail)
  refine wp_region_T [(0, 0), (1, 0), (2, 1), (3, 4)] (by kernel_rfl) fun wd hb => ?_
  replace EY := hid (EY.out.trans hb)
  clear hb
  refine WE.pure (d := some 49) rfl rfl (by rfl) (v := (.agg #[.bool ga, .slice Aa na ca, .slice Ba ma da])) (fun w' hk => ?_) ?_
  · obtain ⟨ce0, ce1, ce2⟩ := ((BX0.out.up EY.out).up hk).c3; go_simp
  simp only [Act.put, pA, pB, pC]
  refine WE.pure (d := some 50) rfl rfl (by rfl) (v := (.agg #[.bool gb, .slice Ab nb cb, .slice Bb mb db])) (fun w' hk => ?_) ?_
  · obtain ⟨ce0, ce1, ce2⟩ := ((BX1.out.up EY.out).up hk).c3; go_simp
  simp only [Act.put, pA, pB, pC]
  refine WE.call (d := some 51) rfl rfl (by rfl) (by go_simp) ((rDivR_r (WorthR.wide (Ra.out.up EY.out) (k := 4) (by omega)) (WorthR.wide (Rb.out.up EY.out) (k := 4) (by omega)) (by omega) (by omega)).mono ?_)
  rintro e wn ⟨v1, rfl, x1, hb⟩
  obtain ⟨g12, A12, n12, c12, B12, m12, d12, rfl, p1, q1⟩ := x1
  refine ⟨_, rfl, hb, ?_⟩
  replace EY := hid (EY.out.trans hb)
  have P12 := hid p1
  have D12 := hid q1
  clear hb p1 q1
  simp only [Act.put, pA, pB, pC]
  refine WE.store3 (g := gV11) (x := .bool g12) (y := .slice A12 n12 c12) (z := .slice B12 m12 d12) (t := 26) rfl rfl (by rfl) (fun w hb => ?_) (V11.out.up EY.out) (by rfl) fun ws hk hs => ?_
  · obtain ⟨ce0, ce1, ce2⟩ := hb.c3; obtain ⟨f0, f1, f2⟩ := hb.f3; go_simp
  intro hbx
  replace E := hid ((E.out.trans EY.out).keptG hk HGV11.out)
  replace BX0 := hid ((BX0.out.up EY.out).kept hk (by simpa using HNV11BX0.out.symm))
  replace BX1 := hid ((BX1.out.up EY.out).kept hk (by simpa using HNV11BX1.out.symm))
  replace BX2 := hid ((BX2.out.up EY.out).kept hk (by simpa using HNV11BX2.out.symm))
  replace BX3 := hid ((BX3.out.up EY.out).kept hk (by simpa using HNV11BX3.out.symm))
  replace V9 := hid ((V9.out.up EY.out).kept hk (by simpa using HNV11V9.out.symm))
  replace V11 := hid hbx
  replace Na := hid ((Na.out.up EY.out).kz hs)
  replace Ma := hid ((Ma.out.up EY.out).kz hs)
  replace Ra := hid ((Ra.out.up EY.out).kz hs)
  replace Rb := hid ((Rb.out.up EY.out).kz hs)
  replace Rp := hid ((Rp.out.up EY.out).kz hs)
  replace Rq := hid ((Rq.out.up EY.out).kz hs)
  replace P11 := hid ((P11.out.up EY.out).kz hs)
  replace D11 := hid ((D11.out.up EY.out).kz hs)
  replace P12 := hid (P12.out.kz hs)
  replace D12 := hid (D12.out.kz hs)
  clear hk hs hbx
  replace EY := hid (Ext.refl ws)
  refine WE.done ?_
  go_upto_region 10 with (fail)
  refine wp_region_E [(0, 0), (2, 0), (1, 1), (3, 1), (4, 0), (5, 0), (6, 0), (7, 0), (9, 0), (10, 0), (8, 1), (11, 1), (12, 1), (13, 0), (14, 0), (15, 0), (16, 0), (18, 0), (17, 1), (19, 1), (20, 1), (21, 0), (22, 0), (23, 0), (24, 0), (25, 0), (27, 0), (28, 0), (26, 1), (29, 1), (30, 0), (31, 0), (32, 0), (33, 0), (34, 0), (36, 0), (37, 0), (35, 1), (38, 1), (39, 0), (40, 0), (41, 0), (42, 0), (43, 0), (44, 0), (45, 0), (46, 0), (47, 0), (48, 0), (49, 0), (50, 0), (51, 0), (52, 0), (53, 0), (54, 0), (55, 0), (56, 0), (57, 0), (58, 0), (59, 1), (60, 0), (61, 0)] (fun _ => (0, #[])) rfl (by kernel_rfl) (by intro j hj; cases hj) (fun _ _ d _ _ => by cases d <;> exact Iff.rfl) fun wd hb => ?_
  replace EY := hid (EY.out.trans hb)
  clear hb
  refine WE.pure (d := some 52) rfl rfl (by rfl) (v := (.agg #[.bool ga, .slice Aa na ca, .slice Ba ma da])) (fun w' hk => ?_) ?_
  · obtain ⟨ce0, ce1, ce2⟩ := ((BX0.out.up EY.out).up hk).c3; go_simp
  simp only [Act.put, pA, pB, pC]
  refine WE.pure (d := some 54) rfl rfl (by rfl) (v := (.agg #[.bool ga, .slice Aa na ca, .slice Ba ma da])) (fun w' hk => ?_) ?_
  · obtain ⟨ce0, ce1, ce2⟩ := ((BX0.out.up EY.out).up hk).c3; go_simp
  simp only [Act.put, pA, pB, pC]
  as_aux_lemma =>
  refine WE.call (d := some 53) rfl rfl (by rfl) (by go_simp) ((fIs_any (Na.out.up EY.out) (Ma.out.up EY.out) KLa.out KRa.out (by omega) HIA.out).mono ?_)
  rintro e wn ⟨rfl, hb⟩
  refine ⟨_, rfl, hb, ?_⟩
  replace EY := hid (EY.out.trans hb)
  clear hb
  simp only [Act.put, pA, pB, pC]
  refine WE.call (d := some 55) rfl rfl (by rfl) (by go_simp) ((rIsR_any (Na.out.up EY.out) (Ma.out.up EY.out) KLa.out KRa.out (by omega) HIA.out).mono ?_)
  rintro e wn ⟨rfl, hb⟩
  refine ⟨_, rfl, hb, ?_⟩
  replace EY := hid (EY.out.trans hb)
  clear hb
  simp only [Act.put, pA, pB, pC]
  refine WE.pure (d := some 56) rfl rfl (by rfl) (v := (.bool false)) (fun w' hk => by go_simp) ?_
  simp only [Act.put, pA, pB, pC]
  refine WE.pure (d := some 57) rfl rfl (by rfl) (v := (.bool false)) (fun w' hk => by go_simp) ?_
  simp only [Act.put, pA, pB, pC]
  refine WE.pure (d := some 58) rfl rfl (by rfl) (v := (.agg #[.bool gp, .slice Ap np cp])) (fun w' hk => ?_) ?_
  · obtain ⟨ce0, ce1⟩ := ((BX2.out.up EY.out).up hk).c2; go_simp
  simp only [Act.put, pA, pB, pC]
  refine WE.pure (d := some 59) rfl rfl (by rfl) (v := (.agg #[.bool gq, .slice Aq nq cq])) (fun w' hk => ?_) ?_
  · obtain ⟨ce0, ce1⟩ := ((BX3.out.up EY.out).up hk).c2; go_simp
  simp only [Act.put, pA, pB, pC]
  refine WE.pure (d := some 61) rfl rfl (by rfl) (v := (.agg #[.bool gp, .slice Ap np cp])) (fun w' hk => ?_) ?_
  · obtain ⟨ce0, ce1⟩ := ((BX2.out.up EY.out).up hk).c2; go_simp
  simp only [Act.put, pA, pB, pC]
  refine WE.pure (d := some 62) rfl rfl (by rfl) (v := (.agg #[.bool gq, .slice Aq nq cq])) (fun w' hk => ?_) ?_
  · obtain ⟨ce0, ce1⟩ := ((BX3.out.up EY.out).up hk).c2; go_simp
  simp only [Act.put, pA, pB, pC]
  refine WE.call (d := some 60) rfl rfl (by rfl) (by go_simp) ((fOf_r (Worth.wide (Rp.out.up EY.out) (k := 5) (by omega)) (Worth.wide (Rq.out.up EY.out) (k := 5) (by omega)) (by omega)).mono ?_)
  rintro e wn ⟨v1, rfl, x1, hb⟩
  obtain ⟨g13, A13, n13, c13, B13, m13, d13, rfl, p1, q1⟩ := x1
  refine ⟨_, rfl, hb, ?_⟩
  replace EY := hid (EY.out.trans hb)
  have P13 := hid p1
  have D13 := hid q1
  clear hb p1 q1
  simp only [Act.put, pA, pB, pC]
  refine WE.call (d := some 63) rfl rfl (by rfl) (by go_simp) ((rOfR_r (Worth.wide (Rp.out.up EY.out) (k := 5) (by omega)) (Worth.wide (Rq.out.up EY.out) (k := 5) (by omega)) (by omega)).mono ?_)
  rintro e wn ⟨v1, rfl, x1, hb⟩
  obtain ⟨g14, A14, n14, c14, B14, m14, d14, rfl, p1, q1⟩ := x1
  refine ⟨_, rfl, hb, ?_⟩
  replace EY := hid (EY.out.trans hb)
  replace P13 := hid (P13.out.up hb)
  replace D13 := hid (D13.out.up hb)
  have P14 := hid p1
  have D14 := hid q1
  clear hb p1 q1
  simp only [Act.put, pA, pB, pC]
  refine WE.call (d := some 64) rfl rfl (by rfl) (by go_simp) ((rEqualR_r ((IsR.mk P13.out D13.out).to (rfl)) (IsR.mk P14.out D14.out)).mono ?_)
  rintro e wn ⟨rfl, hb⟩
  refine ⟨_, rfl, hb, ?_⟩
  replace EY := hid (EY.out.trans hb)
  clear hb
  simp only [Act.put, pA, pB, pC]
  refine WE.pure (d := some 65) rfl rfl (by rfl) (v := (.bool false)) (fun w' hk => by go_simp) ?_
  simp only [Act.put, pA, pB, pC]
  as_aux_lemma =>
  refine WE.pure (d := some 66) rfl rfl (by rfl) (v := (.bool false)) (fun w' hk => by go_simp) ?_
  simp only [Act.put, pA, pB, pC]
  refine WE.pure (d := some 67) rfl rfl (by rfl) (v := (.bool false)) (fun w' hk => by go_simp) ?_
  simp only [Act.put, pA, pB, pC]
  refine WE.pure (d := some 68) rfl rfl (by rfl) (v := (.agg #[.bool gp, .slice Ap np cp])) (fun w' hk => ?_) ?_
  · obtain ⟨ce0, ce1⟩ := ((BX2.out.up EY.out).up hk).c2; go_simp
  simp only [Act.put, pA, pB, pC]
  refine WE.pure (d := some 70) rfl rfl (by rfl) (v := (.agg #[.bool gp, .slice Ap np cp])) (fun w' hk => ?_) ?_
  · obtain ⟨ce0, ce1⟩ := ((BX2.out.up EY.out).up hk).c2; go_simp
  simp only [Act.put, pA, pB, pC]
  refine WE.call (d := some 69) rfl rfl (by rfl) (by go_simp) ((fInt_r (Worth.wide (Rp.out.up EY.out) (k := 5) (by omega)) (by omega) (by omega)).mono ?_)
  rintro e wn ⟨v1, rfl, x1, hb⟩
  obtain ⟨g15, A15, n15, c15, B15, m15, d15, rfl, p1, q1⟩ := x1
  refine ⟨_, rfl, hb, ?_⟩
  replace EY := hid (EY.out.trans hb)
  have P15 := hid p1
  have D15 := hid q1
  clear hb p1 q1
  simp only [Act.put, pA, pB, pC]
  refine WE.call (d := some 71) rfl rfl (by rfl) (by go_simp) ((rIntR_r (Worth.wide (Rp.out.up EY.out) (k := 5) (by omega)) (by omega) (by omega)).mono ?_)
  rintro e wn ⟨v1, rfl, x1, hb⟩
  obtain ⟨g16, A16, n16, c16, B16, m16, d16, rfl, p1, q1⟩ := x1
  refine ⟨_, rfl, hb, ?_⟩
  replace EY := hid (EY.out.trans hb)
  replace P15 := hid (P15.out.up hb)
  replace D15 := hid (D15.out.up hb)
  have P16 := hid p1
  have D16 := hid q1
  clear hb p1 q1
  simp only [Act.put, pA, pB, pC]
  refine WE.call (d := some 72) rfl rfl (by rfl) (by go_simp) ((rEqualR_r ((IsR.mk P15.out D15.out).to (rfl)) (IsR.mk P16.out D16.out)).mono ?_)
  rintro e wn ⟨rfl, hb⟩
  refine ⟨_, rfl, hb, ?_⟩
  replace EY := hid (EY.out.trans hb)
  clear hb
  simp only [Act.put, pA, pB, pC]
  refine WE.pure (d := some 73) rfl rfl (by rfl) (v := (.bool false)) (fun w' hk => by go_simp) ?_
  simp only [Act.put, pA, pB, pC]
  refine WE.pure (d := some 74) rfl rfl (by rfl) (v := (.bool false)) (fun w' hk => by go_simp) ?_
  simp only [Act.put, pA, pB, pC]
  refine WE.pure (d := some 75) rfl rfl (by rfl) (v := (.bool false)) (fun w' hk => by go_simp) ?_
  simp only [Act.put, pA, pB, pC]
  refine WE.pure (d := some 76) rfl rfl (by rfl) (v := (.agg #[.bool ga, .slice Aa na ca, .slice Ba ma da])) (fun w' hk => ?_) ?_
  · obtain ⟨ce0, ce1, ce2⟩ := ((BX0.out.up EY.out).up hk).c3; go_simp
  simp only [Act.put, pA, pB, pC]
  refine WE.pure (d := some 77) rfl rfl (by rfl) (v := (.agg #[.bool gb, .slice Ab nb cb, .slice Bb mb db])) (fun w' hk => ?_) ?_
  · obtain ⟨ce0, ce1, ce2⟩ := ((BX1.out.up EY.out).up hk).c3; go_simp
  simp only [Act.put, pA, pB, pC]
  as_aux_lemma =>
  refine WE.pure (d := some 79) rfl rfl (by rfl) (v := (.agg #[.bool ga, .slice Aa na ca, .slice Ba ma da])) (fun w' hk => ?_) ?_
  · obtain ⟨ce0, ce1, ce2⟩ := ((BX0.out.up EY.out).up hk).c3; go_simp
  simp only [Act.put, pA, pB, pC]
  refine WE.pure (d := some 80) rfl rfl (by rfl) (v := (.agg #[.bool gb, .slice Ab nb cb, .slice Bb mb db])) (fun w' hk => ?_) ?_
  · obtain ⟨ce0, ce1, ce2⟩ := ((BX1.out.up EY.out).up hk).c3; go_simp
  simp only [Act.put, pA, pB, pC]
  refine WE.call (d := some 78) rfl rfl (by rfl) (by go_simp) ((fCmp_r (WorthR.wide (Ra.out.up EY.out) (k := 4) (by omega)) (WorthR.wide (Rb.out.up EY.out) (k := 4) (by omega)) (by omega) (by omega) (z := z) (HZ.out)).mono ?_)
  rintro e wn ⟨rfl, hb⟩
  refine ⟨_, rfl, hb, ?_⟩
  replace EY := hid (EY.out.trans hb)
  clear hb
  simp only [Act.put, pA, pB, pC]
  refine WE.call (d := some 81) rfl rfl (by rfl) (by go_simp) ((rCmpR_r (WorthR.wide (Ra.out.up EY.out) (k := 4) (by omega)) (WorthR.wide (Rb.out.up EY.out) (k := 4) (by omega)) (by omega) (by omega) (z := z) (HZ.out)).mono ?_)
  rintro e wn ⟨rfl, hb⟩
  refine ⟨_, rfl, hb, ?_⟩
  replace EY := hid (EY.out.trans hb)
  clear hb
  simp only [Act.put, pA, pB, pC]
  refine WE.pure (d := some 82) rfl rfl (by rfl) (v := (.bool false)) (fun w' hk => by go_simp) ?_
  simp only [Act.put, pA, pB, pC]
  refine WE.pure (d := some 83) rfl rfl (by rfl) (v := (.bool false)) (fun w' hk => by go_simp) ?_
  simp only [Act.put, pA, pB, pC]
  refine WE.pure (d := some 84) rfl rfl (by rfl) (v := (.bool false)) (fun w' hk => by go_simp) ?_
  simp only [Act.put, pA, pB, pC]
  refine WE.pure (d := some 85) rfl rfl (by rfl) (v := (.agg #[.bool ga, .slice Aa na ca, .slice Ba ma da])) (fun w' hk => ?_) ?_
  · obtain ⟨ce0, ce1, ce2⟩ := ((BX0.out.up EY.out).up hk).c3; go_simp
  simp only [Act.put, pA, pB, pC]
  refine WE.pure (d := some 86) rfl rfl (by rfl) (v := (.agg #[.bool gb, .slice Ab nb cb, .slice Bb mb db])) (fun w' hk => ?_) ?_
  · obtain ⟨ce0, ce1, ce2⟩ := ((BX1.out.up EY.out).up hk).c3; go_simp
  simp only [Act.put, pA, pB, pC]
  refine WE.pure (d := some 88) rfl rfl (by rfl) (v := (.agg #[.bool ga, .slice Aa na ca, .slice Ba ma da])) (fun w' hk => ?_) ?_
  · obtain ⟨ce0, ce1, ce2⟩ := ((BX0.out.up EY.out).up hk).c3; go_simp
  simp only [Act.put, pA, pB, pC]
  refine WE.pure (d := some 89) rfl rfl (by rfl) (v := (.agg #[.bool gb, .slice Ab nb cb, .slice Bb mb db])) (fun w' hk => ?_) ?_
  · obtain ⟨ce0, ce1, ce2⟩ := ((BX1.out.up EY.out).up hk).c3; go_simp
  simp only [Act.put, pA, pB, pC]
  refine WE.call (d := some 87) rfl rfl (by rfl) (by go_simp) ((fSame_r (WorthR.wide (Ra.out.up EY.out) (k := 4) (by omega)) (WorthR.wide (Rb.out.up EY.out) (k := 4) (by omega)) (by omega) (by omega) (b := b) (HB.out)).mono ?_)
  rintro e wn ⟨rfl, hb⟩
  refine ⟨_, rfl, hb, ?_⟩
  replace EY := hid (EY.out.trans hb)
  clear hb
  simp only [Act.put, pA, pB, pC]
  as_aux_lemma =>
  refine WE.call (d := some 90) rfl rfl (by rfl) (by go_simp) ((rCmpR_r (WorthR.wide (Ra.out.up EY.out) (k := 4) (by omega)) (WorthR.wide (Rb.out.up EY.out) (k := 4) (by omega)) (by omega) (by omega) (z := z) (HZ.out)).mono ?_)
  rintro e wn ⟨rfl, hb⟩
  refine ⟨_, rfl, hb, ?_⟩
  replace EY := hid (EY.out.trans hb)
  clear hb
  simp only [Act.put, pA, pB, pC]
  refine WE.pure (d := some 91) rfl rfl (by rfl) (v := (.bool b)) (fun w' hk => by go_simp) ?_
  simp only [Act.put, pA, pB, pC]
  refine WE.pure (d := some 92) rfl rfl (by rfl) (v := (.bool false)) (fun w' hk => by go_simp) ?_
  simp only [Act.put, pA, pB, pC]
  refine WE.pure (d := some 93) rfl rfl (by rfl) (v := (.bool false)) (fun w' hk => by go_simp) ?_
  simp only [Act.put, pA, pB, pC]
  refine WE.pure (d := some 94) rfl rfl (by rfl) (v := (.bool false)) (fun w' hk => by go_simp) ?_
  simp only [Act.put, pA, pB, pC]
  refine WE.pure (d := some 95) rfl rfl (by rfl) (v := (.int .i64 0)) (fun w' hk => by go_simp) ?_
  simp only [Act.put, pA, pB, pC]
  refine WE.pure (d := some 96) rfl rfl (by rfl) (v := (.bool false)) (fun w' hk => by go_simp) ?_
  simp only [Act.put, pA, pB, pC]
  refine WE.pure (d := some 97) rfl rfl (by rfl) (v := (.bool false)) (fun w' hk => by go_simp) ?_
  simp only [Act.put, pA, pB, pC]
  refine WE.pure (d := some 98) rfl rfl (by rfl) (v := (.bool false)) (fun w' hk => by go_simp) ?_
  simp only [Act.put, pA, pB, pC]
  refine WE.pure (d := some 99) rfl rfl (by rfl) (v := (.bool false)) (fun w' hk => by go_simp) ?_
  simp only [Act.put, pA, pB, pC]
  refine WE.pure (d := some 100) rfl rfl (by rfl) (v := (.bool false)) (fun w' hk => by go_simp) ?_
  simp only [Act.put, pA, pB, pC]
  refine WE.pure (d := some 101) rfl rfl (by rfl) (v := (.bool false)) (fun w' hk => by go_simp) ?_
  simp only [Act.put, pA, pB, pC]
  as_aux_lemma =>
  refine WE.pure (d := some 102) rfl rfl (by rfl) (v := (.bool true)) (fun w' hk => by go_simp) ?_
  simp only [Act.put, pA, pB, pC]
  refine WE.pure (d := some 103) rfl rfl (by rfl) (v := (.bool true)) (fun w' hk => by go_simp) ?_
  simp only [Act.put, pA, pB, pC]
  refine WE.pure (d := some 104) rfl rfl (by rfl) (v := (.int .i64 0)) (fun w' hk => by go_simp) ?_
  simp only [Act.put, pA, pB, pC]
  refine WE.pure (d := some 105) rfl rfl (by rfl) (v := (.bool false)) (fun w' hk => by go_simp) ?_
  simp only [Act.put, pA, pB, pC]
  refine WE.pure (d := some 106) rfl rfl (by rfl) (v := (.bool false)) (fun w' hk => by go_simp) ?_
  simp only [Act.put, pA, pB, pC]
  refine WE.pure (d := some 107) rfl rfl (by rfl) (v := (.bool false)) (fun w' hk => by go_simp) ?_
  simp only [Act.put, pA, pB, pC]
  refine WE.pure (d := some 108) rfl rfl (by rfl) (v := (.bool false)) (fun w' hk => by go_simp) ?_
  simp only [Act.put, pA, pB, pC]
  refine WE.pure (d := some 109) rfl rfl (by rfl) (v := (.agg #[.bool g11, .slice A11 n11 c11, .slice B11 m11 d11])) (fun w' hk => ?_) ?_
  · obtain ⟨ce0, ce1, ce2⟩ := ((V9.out.up EY.out).up hk).c3; go_simp
  simp only [Act.put, pA, pB, pC]
  refine WE.pure (d := some 110) rfl rfl (by rfl) (v := (.agg #[.bool g12, .slice A12 n12 c12, .slice B12 m12 d12])) (fun w' hk => ?_) ?_
  · obtain ⟨ce0, ce1, ce2⟩ := ((V11.out.up EY.out).up hk).c3; go_simp
  simp only [Act.put, pA, pB, pC]
  refine WE.call (d := some 111) rfl rfl (by rfl) (by go_simp) ((rEqualR_r ((IsR.mk (P11.out.up EY.out) (D11.out.up EY.out)).to (rfl)) (IsR.mk (P12.out.up EY.out) (D12.out.up EY.out))).mono ?_)
  rintro e wn ⟨rfl, hb⟩
  refine ⟨_, rfl, hb, ?_⟩
  replace EY := hid (EY.out.trans hb)
  clear hb
  simp only [Act.put, pA, pB, pC]
  refine WE.pure (d := some 112) rfl rfl (by rfl) (v := (.bool false)) (fun w' hk => by go_simp) ?_
  simp only [Act.put, pA, pB, pC]
  refine WE.pure (d := some 113) rfl rfl (by rfl) (v := (.bool false)) (fun w' hk => by go_simp) ?_
  simp only [Act.put, pA, pB, pC]
  refine WE.done ?_
  go_upto_region 12 with (fail)
  refine wp_region_T [(0, 0), (1, 1), (2, 1), (3, 4)] (by kernel_rfl) fun wd hb => ?_
  replace EY := hid (EY.out.trans hb)
  clear hb
  as_aux_lemma =>
  refine WE.pure (d := some 114) rfl rfl (by rfl) (v := (.agg #[.bool ga, .slice Aa na ca, .slice Ba ma da])) (fun w' hk => ?_) ?_
  · obtain ⟨ce0, ce1, ce2⟩ := ((BX0.out.up EY.out).up hk).c3; go_simp
  simp only [Act.put, pA, pB, pC]
  refine WE.call (d := some 115) rfl rfl (by rfl) (by go_simp) ((rMayR_r (WorthR.wide (Ra.out.up EY.out) (k := 4) (by omega)) (by omega) (by omega)).mono ?_)
  rintro e wn ⟨v1, rfl, x1, hb⟩
  obtain ⟨g17, A17, n17, c17, B17, m17, d17, rfl, p1, q1⟩ := x1
  refine ⟨_, rfl, hb, ?_⟩
  replace EY := hid (EY.out.trans hb)
  have D17 := hid q1
  clear hb p1 q1
  simp only [Act.put, pA, pB, pC]
  refine WE.new (d := some 13) (cs := #[.bool false, .slice none 0 0, .slice none 0 0]) (t := 26) (v := fun g => (.pointer (some ⟨g, 0, none⟩))) rfl rfl (by rfl) (fun w => by go_simp) fun gV13 wv hx0 hbox hge => ?_
  have HNV13BX0 := hid (show gV13 ≠ (W.heap.size) by have := (BX0.out.up EY.out).lt; omega)
  have HNV13BX1 := hid (show gV13 ≠ (W.heap.size + 1) by have := (BX1.out.up EY.out).lt; omega)
  have HNV13BX2 := hid (show gV13 ≠ (W.heap.size + 2) by have := (BX2.out.up EY.out).lt; omega)
  have HNV13BX3 := hid (show gV13 ≠ (W.heap.size + 3) by have := (BX3.out.up EY.out).lt; omega)
  have HNV13V9 := hid (show gV13 ≠ gV9 by have := (V9.out.up EY.out).lt; omega)
  have HNV13V11 := hid (show gV13 ≠ gV11 by have := (V11.out.up EY.out).lt; omega)
  have HGV13 := hid (show W.heap.size ≤ gV13 by have := (E.out.trans EY.out).size; omega)
  replace EY := hid (EY.out.trans hx0)
  replace D17 := hid (D17.out.up hx0)
  have V13 : Hid (Box wv gV13 #[.bool false, .slice none 0 0, .slice none 0 0] 26) := hid hbox
  clear hx0 hbox hge
  simp only [Act.put, pA, pB, pC]
  refine WE.store3 (g := gV13) (x := .bool g17) (y := .slice A17 n17 c17) (z := .slice B17 m17 d17) (t := 26) rfl rfl (by rfl) (fun w hb => ?_) V13.out (by rfl) fun ws hk hs => ?_
  · obtain ⟨ce0, ce1, ce2⟩ := hb.c3; obtain ⟨f0, f1, f2⟩ := hb.f3; go_simp
  intro hbx
  replace E := hid ((E.out.trans EY.out).keptG hk HGV13.out)
  replace BX0 := hid ((BX0.out.up EY.out).kept hk (by simpa using HNV13BX0.out.symm))
  replace BX1 := hid ((BX1.out.up EY.out).kept hk (by simpa using HNV13BX1.out.symm))
  replace BX2 := hid ((BX2.out.up EY.out).kept hk (by simpa using HNV13BX2.out.symm))
  replace BX3 := hid ((BX3.out.up EY.out).kept hk (by simpa using HNV13BX3.out.symm))
  replace V9 := hid ((V9.out.up EY.out).kept hk (by simpa using HNV13V9.out.symm))
  replace V11 := hid ((V11.out.up EY.out).kept hk (by simpa using HNV13V11.out.symm))
  replace V13 := hid hbx
  replace Ra := hid ((Ra.out.up EY.out).kz hs)
  replace Rb := hid ((Rb.out.up EY.out).kz hs)
  replace D17 := hid (D17.out.kz hs)
  clear hk hs hbx
  replace EY := hid (Ext.refl ws)
  refine WE.done ?_
  go_upto_region 13 with (fail)
  refine wp_region_X [] [(0, 0), (2, 0), (1, 1), (3, 1), (4, 1), (5, 0), (6, 0), (7, 0), (9, 0), (10, 0), (8, 1), (11, 1), (12, 1), (13, 0), (14, 0), (15, 0), (16, 0), (18, 0), (19, 0), (17, 1), (20, 1), (21, 1), (22, 1), (23, 0), (24, 0), (25, 0), (26, 0), (28, 0), (29, 0), (27, 1), (30, 1), (31, 1), (32, 0), (33, 0), (34, 0), (36, 0), (35, 1), (37, 1), (38, 1), (39, 0), (40, 0), (41, 0), (43, 0), (42, 1), (44, 1), (45, 1), (46, 0), (47, 0), (48, 0), (50, 0), (51, 0), (49, 6), (52, 2), (53, 1), (54, 0), (55, 0), (56, 0)] (fun _ => (0, #[])) rfl (by kernel_rfl) (by intro j hj; cases hj) (fun _ _ d _ _ => by cases d <;> exact Iff.rfl) fun wd hb => ?_
  replace EY := hid (EY.out.trans hb)
  clear hb
  have HL1BX0 := hid (BX0.out.up EY.out).lt
  have HL1BX1 := hid (BX1.out.up EY.out).lt
  have HL1BX2 := hid (BX2.out.up EY.out).lt
  have HL1BX3 := hid (BX3.out.up EY.out).lt
  have HL1V9 := hid (V9.out.up EY.out).lt
  have HL1V11 := hid (V11.out.up EY.out).lt
  have HL1V13 := hid (V13.out.up EY.out).lt
  refine WX.pure (d := some 116) rfl rfl (by rfl) (v := (.agg #[.bool ga, .slice Aa na ca, .slice Ba ma da])) (fun w' hk => ?_) ?_
  · obtain ⟨ce0, ce1, ce2⟩ := ((BX0.out.up EY.out).up hk).c3; go_simp
  simp only [Act.put, pA, pB, pC]
  refine WX.pure (d := some 118) rfl rfl (by rfl) (v := (.agg #[.bool ga, .slice Aa na ca, .slice Ba ma da])) (fun w' hk => ?_) ?_
  · obtain ⟨ce0, ce1, ce2⟩ := ((BX0.out.up EY.out).up hk).c3; go_simp
  simp only [Act.put, pA, pB, pC]
  refine WX.call (d := some 117) rfl rfl (by rfl) (by go_simp) ((fNeg_r (WorthR.wide (Ra.out.up EY.out) (k := 4) (by omega)) (by omega) (by omega)).mono ?_)
  rintro e wn ⟨v1, rfl, x1, hb⟩
  obtain ⟨g18, A18, n18, c18, B18, m18, d18, rfl, p1, q1⟩ := x1
  refine ⟨_, rfl, hb, ?_⟩
  replace EY := hid (EY.out.trans hb)
  have P18 := hid p1
  have D18 := hid q1
  clear hb p1 q1
  simp only [Act.put, pA, pB, pC]
  clear P13
  clear D13
  clear P14
  clear D14
  clear P15
  clear D15
  clear P16
  clear D16
  refine WX.call (d := some 119) rfl rfl (by rfl) (by go_simp) ((rNegR_r (WorthR.wide (Ra.out.up EY.out) (k := 4) (by omega)) (by omega) (by omega)).mono ?_)
  rintro e wn ⟨v1, rfl, x1, hb⟩
  obtain ⟨g19, A19, n19, c19, B19, m19, d19, rfl, p1, q1⟩ := x1
  refine ⟨_, rfl, hb, ?_⟩
  replace EY := hid (EY.out.trans hb)
  replace P18 := hid (P18.out.up hb)
  replace D18 := hid (D18.out.up hb)
  have P19 := hid p1
  have D19 := hid q1
  clear hb p1 q1
  simp only [Act.put, pA, pB, pC]
  refine WX.call (d := some 120) rfl rfl (by rfl) (by go_simp) ((rEqualR_r ((IsR.mk P18.out D18.out).to (rfl)) (IsR.mk P19.out D19.out)).mono ?_)
  rintro e wn ⟨rfl, hb⟩
  refine ⟨_, rfl, hb, ?_⟩
  replace EY := hid (EY.out.trans hb)
  clear hb
  simp only [Act.put, pA, pB, pC]
  clear P18
  clear D18
  clear P19
  clear D19
  refine WX.pure (d := some 121) rfl rfl (by rfl) (v := (.bool true)) (fun w' hk => by go_simp) ?_
  simp only [Act.put, pA, pB, pC]
  refine WX.pure (d := some 122) rfl rfl (by rfl) (v := (.agg #[.bool ga, .slice Aa na ca, .slice Ba ma da])) (fun w' hk => ?_) ?_
  · obtain ⟨ce0, ce1, ce2⟩ := ((BX0.out.up EY.out).up hk).c3; go_simp
  simp only [Act.put, pA, pB, pC]
  refine WX.pure (d := some 123) rfl rfl (by rfl) (v := (.agg #[.bool gb, .slice Ab nb cb, .slice Bb mb db])) (fun w' hk => ?_) ?_
  · obtain ⟨ce0, ce1, ce2⟩ := ((BX1.out.up EY.out).up hk).c3; go_simp
  simp only [Act.put, pA, pB, pC]
  as_aux_lemma =>
  refine WX.pure (d := some 125) rfl rfl (by rfl) (v := (.agg #[.bool ga, .slice Aa na ca, .slice Ba ma da])) (fun w' hk => ?_) ?_
  · obtain ⟨ce0, ce1, ce2⟩ := ((BX0.out.up EY.out).up hk).c3; go_simp
  simp only [Act.put, pA, pB, pC]
  refine WX.pure (d := some 126) rfl rfl (by rfl) (v := (.agg #[.bool gb, .slice Ab nb cb, .slice Bb mb db])) (fun w' hk => ?_) ?_
  · obtain ⟨ce0, ce1, ce2⟩ := ((BX1.out.up EY.out).up hk).c3; go_simp
  simp only [Act.put, pA, pB, pC]
  refine WX.call (d := some 124) rfl rfl (by rfl) (by go_simp) ((fAdd_r (WorthR.wide (Ra.out.up EY.out) (k := 4) (by omega)) (WorthR.wide (Rb.out.up EY.out) (k := 4) (by omega)) (by omega) (by omega)).mono ?_)
  rintro e wn ⟨v1, rfl, x1, hb⟩
  obtain ⟨g20, A20, n20, c20, B20, m20, d20, rfl, p1, q1⟩ := x1
  refine ⟨_, rfl, hb, ?_⟩
  replace EY := hid (EY.out.trans hb)
  have P20 := hid p1
  have D20 := hid q1
  clear hb p1 q1
  simp only [Act.put, pA, pB, pC]
  refine WX.call (d := some 127) rfl rfl (by rfl) (by go_simp) ((rAddR_r (WorthR.wide (Ra.out.up EY.out) (k := 4) (by omega)) (WorthR.wide (Rb.out.up EY.out) (k := 4) (by omega)) (by omega) (by omega)).mono ?_)
  rintro e wn ⟨v1, rfl, x1, hb⟩
  obtain ⟨g21, A21, n21, c21, B21, m21, d21, rfl, p1, q1⟩ := x1
  refine ⟨_, rfl, hb, ?_⟩
  replace EY := hid (EY.out.trans hb)
  replace P20 := hid (P20.out.up hb)
  replace D20 := hid (D20.out.up hb)
  have P21 := hid p1
  have D21 := hid q1
  clear hb p1 q1
  simp only [Act.put, pA, pB, pC]
  refine WX.call (d := some 128) rfl rfl (by rfl) (by go_simp) ((rEqualR_r ((IsR.mk P20.out D20.out).to (rfl)) (IsR.mk P21.out D21.out)).mono ?_)
  rintro e wn ⟨rfl, hb⟩
  refine ⟨_, rfl, hb, ?_⟩
  replace EY := hid (EY.out.trans hb)
  clear hb
  simp only [Act.put, pA, pB, pC]
  clear P20
  clear D20
  clear P21
  clear D21
  refine WX.pure (d := some 129) rfl rfl (by rfl) (v := (.bool true)) (fun w' hk => by go_simp) ?_
  simp only [Act.put, pA, pB, pC]
  refine WX.pure (d := some 130) rfl rfl (by rfl) (v := (.bool true)) (fun w' hk => by go_simp) ?_
  simp only [Act.put, pA, pB, pC]
  refine WX.pure (d := some 131) rfl rfl (by rfl) (v := (.agg #[.bool ga, .slice Aa na ca, .slice Ba ma da])) (fun w' hk => ?_) ?_
  · obtain ⟨ce0, ce1, ce2⟩ := ((BX0.out.up EY.out).up hk).c3; go_simp
  simp only [Act.put, pA, pB, pC]
  refine WX.pure (d := some 132) rfl rfl (by rfl) (v := (.agg #[.bool gb, .slice Ab nb cb, .slice Bb mb db])) (fun w' hk => ?_) ?_
  · obtain ⟨ce0, ce1, ce2⟩ := ((BX1.out.up EY.out).up hk).c3; go_simp
  simp only [Act.put, pA, pB, pC]
  refine WX.pure (d := some 134) rfl rfl (by rfl) (v := (.agg #[.bool ga, .slice Aa na ca, .slice Ba ma da])) (fun w' hk => ?_) ?_
  · obtain ⟨ce0, ce1, ce2⟩ := ((BX0.out.up EY.out).up hk).c3; go_simp
  simp only [Act.put, pA, pB, pC]
  refine WX.pure (d := some 135) rfl rfl (by rfl) (v := (.agg #[.bool gb, .slice Ab nb cb, .slice Bb mb db])) (fun w' hk => ?_) ?_
  · obtain ⟨ce0, ce1, ce2⟩ := ((BX1.out.up EY.out).up hk).c3; go_simp
  simp only [Act.put, pA, pB, pC]
  refine WX.call (d := some 133) rfl rfl (by rfl) (by go_simp) ((fSub_r (WorthR.wide (Ra.out.up EY.out) (k := 4) (by omega)) (WorthR.wide (Rb.out.up EY.out) (k := 4) (by omega)) (by omega) (by omega)).mono ?_)
  rintro e wn ⟨v1, rfl, x1, hb⟩
  obtain ⟨g22, A22, n22, c22, B22, m22, d22, rfl, p1, q1⟩ := x1
  refine ⟨_, rfl, hb, ?_⟩
  replace EY := hid (EY.out.trans hb)
  have P22 := hid p1
  have D22 := hid q1
  clear hb p1 q1
  simp only [Act.put, pA, pB, pC]
  as_aux_lemma =>
  refine WX.call (d := some 136) rfl rfl (by rfl) (by go_simp) ((rNegR_r (WorthR.wide (Rb.out.up EY.out) (k := 4) (by omega)) (by omega) (by omega)).mono ?_)
  rintro e wn ⟨v1, rfl, x1, hb⟩
  obtain ⟨g23, A23, n23, c23, B23, m23, d23, rfl, p1, q1⟩ := x1
  refine ⟨_, rfl, hb, ?_⟩
  replace EY := hid (EY.out.trans hb)
  replace P22 := hid (P22.out.up hb)
  replace D22 := hid (D22.out.up hb)
  have P23 := hid p1
  have D23 := hid q1
  clear hb p1 q1
  simp only [Act.put, pA, pB, pC]
  refine WX.call (d := some 137) rfl rfl (by rfl) (by go_simp) ((rAddR_r (WorthR.wide (Ra.out.up EY.out) (k := 4) (by omega)) (WorthR.wide (IsR.mk P23.out D23.out).worth (k := 4) (by omega)) (by omega) (by omega)).mono ?_)
  rintro e wn ⟨v1, rfl, x1, hb⟩
  obtain ⟨g24, A24, n24, c24, B24, m24, d24, rfl, p1, q1⟩ := x1
  refine ⟨_, rfl, hb, ?_⟩
  replace EY := hid (EY.out.trans hb)
  replace P22 := hid (P22.out.up hb)
  replace D22 := hid (D22.out.up hb)
  have P24 := hid p1
  have D24 := hid q1
  clear hb p1 q1
  simp only [Act.put, pA, pB, pC]
  clear P23
  clear D23
  refine WX.call (d := some 138) rfl rfl (by rfl) (by go_simp) ((rEqualR_r ((IsR.mk P22.out D22.out).to (Rat.sub_eq_add_neg x y)) (IsR.mk P24.out D24.out)).mono ?_)
  rintro e wn ⟨rfl, hb⟩
  refine ⟨_, rfl, hb, ?_⟩
  replace EY := hid (EY.out.trans hb)
  clear hb
  simp only [Act.put, pA, pB, pC]
  clear P22
  clear D22
  clear P24
  clear D24
  refine WX.pure (d := some 139) rfl rfl (by rfl) (v := (.bool true)) (fun w' hk => by go_simp) ?_
  simp only [Act.put, pA, pB, pC]
  refine WX.pure (d := some 140) rfl rfl (by rfl) (v := (.bool true)) (fun w' hk => by go_simp) ?_
  simp only [Act.put, pA, pB, pC]
  refine WX.pure (d := some 141) rfl rfl (by rfl) (v := (.agg #[.bool ga, .slice Aa na ca, .slice Ba ma da])) (fun w' hk => ?_) ?_
  · obtain ⟨ce0, ce1, ce2⟩ := ((BX0.out.up EY.out).up hk).c3; go_simp
  simp only [Act.put, pA, pB, pC]
  refine WX.pure (d := some 142) rfl rfl (by rfl) (v := (.agg #[.bool gb, .slice Ab nb cb, .slice Bb mb db])) (fun w' hk => ?_) ?_
  · obtain ⟨ce0, ce1, ce2⟩ := ((BX1.out.up EY.out).up hk).c3; go_simp
  simp only [Act.put, pA, pB, pC]
  refine WX.pure (d := some 144) rfl rfl (by rfl) (v := (.agg #[.bool ga, .slice Aa na ca, .slice Ba ma da])) (fun w' hk => ?_) ?_
  · obtain ⟨ce0, ce1, ce2⟩ := ((BX0.out.up EY.out).up hk).c3; go_simp
  simp only [Act.put, pA, pB, pC]
  refine WX.pure (d := some 145) rfl rfl (by rfl) (v := (.agg #[.bool gb, .slice Ab nb cb, .slice Bb mb db])) (fun w' hk => ?_) ?_
  · obtain ⟨ce0, ce1, ce2⟩ := ((BX1.out.up EY.out).up hk).c3; go_simp
  simp only [Act.put, pA, pB, pC]
  refine WX.call (d := some 143) rfl rfl (by rfl) (by go_simp) ((fMul_r (WorthR.wide (Ra.out.up EY.out) (k := 4) (by omega)) (WorthR.wide (Rb.out.up EY.out) (k := 4) (by omega)) (by omega) (by omega)).mono ?_)
  rintro e wn ⟨v1, rfl, x1, hb⟩
  obtain ⟨g25, A25, n25, c25, B25, m25, d25, rfl, p1, q1⟩ := x1
  refine ⟨_, rfl, hb, ?_⟩
  replace EY := hid (EY.out.trans hb)
  have P25 := hid p1
  have D25 := hid q1
  clear hb p1 q1
  simp only [Act.put, pA, pB, pC]
  refine WX.call (d := some 146) rfl rfl (by rfl) (by go_simp) ((rMulR_r (WorthR.wide (Ra.out.up EY.out) (k := 4) (by omega)) (WorthR.wide (Rb.out.up EY.out) (k := 4) (by omega)) (by omega) (by omega)).mono ?_)
  rintro e wn ⟨v1, rfl, x1, hb⟩
  obtain ⟨g26, A26, n26, c26, B26, m26, d26, rfl, p1, q1⟩ := x1
  refine ⟨_, rfl, hb, ?_⟩
  replace EY := hid (EY.out.trans hb)
  replace P25 := hid (P25.out.up hb)
  replace D25 := hid (D25.out.up hb)
  have P26 := hid p1
  have D26 := hid q1
  clear hb p1 q1
  simp only [Act.put, pA, pB, pC]
  refine WX.call (d := some 147) rfl rfl (by rfl) (by go_simp) ((rEqualR_r ((IsR.mk P25.out D25.out).to (rfl)) (IsR.mk P26.out D26.out)).mono ?_)
  rintro e wn ⟨rfl, hb⟩
  refine ⟨_, rfl, hb, ?_⟩
  replace EY := hid (EY.out.trans hb)
  clear hb
  simp only [Act.put, pA, pB, pC]
  clear P25
  clear D25
  clear P26
  clear D26
  as_aux_lemma =>
  refine WX.pure (d := some 148) rfl rfl (by rfl) (v := (.bool true)) (fun w' hk => by go_simp) ?_
  simp only [Act.put, pA, pB, pC]
  refine WX.pure (d := some 149) rfl rfl (by rfl) (v := (.bool true)) (fun w' hk => by go_simp) ?_
  simp only [Act.put, pA, pB, pC]
  refine WX.pure (d := some 150) rfl rfl (by rfl) (v := (.agg #[.bool ga, .slice Aa na ca, .slice Ba ma da])) (fun w' hk => ?_) ?_
  · obtain ⟨ce0, ce1, ce2⟩ := ((BX0.out.up EY.out).up hk).c3; go_simp
  simp only [Act.put, pA, pB, pC]
  refine WX.pure (d := some 152) rfl rfl (by rfl) (v := (.agg #[.bool ga, .slice Aa na ca, .slice Ba ma da])) (fun w' hk => ?_) ?_
  · obtain ⟨ce0, ce1, ce2⟩ := ((BX0.out.up EY.out).up hk).c3; go_simp
  simp only [Act.put, pA, pB, pC]
  refine WX.call (d := some 151) rfl rfl (by rfl) (by go_simp) ((fFloor_r (WorthR.wide (Ra.out.up EY.out) (k := 4) (by omega)) (by omega) (by omega)).mono ?_)
  rintro e wn ⟨v1, rfl, x1, hb⟩
  obtain ⟨g27, A27, n27, c27, rfl⟩ := x1.shape
  refine ⟨_, rfl, hb, ?_⟩
  replace EY := hid (EY.out.trans hb)
  have Q27 := hid x1
  clear hb x1
  simp only [Act.put, pA, pB, pC]
  refine WX.call (d := some 153) rfl rfl (by rfl) (by go_simp) ((rFloorR_r (WorthR.wide (Ra.out.up EY.out) (k := 4) (by omega)) (by omega) (by omega)).mono ?_)
  rintro e wn ⟨v1, rfl, x1, hb⟩
  obtain ⟨g28, A28, n28, c28, rfl⟩ := x1.shape
  refine ⟨_, rfl, hb, ?_⟩
  replace EY := hid (EY.out.trans hb)
  replace Q27 := hid (Q27.out.up hb)
  have Q28 := hid x1
  clear hb x1
  simp only [Act.put, pA, pB, pC]
  refine WX.call (d := some 154) rfl rfl (by rfl) (by go_simp) ((equal_z (Q27.out.to (rfl)) Q28.out).mono ?_)
  rintro e wn ⟨rfl, hb⟩
  refine ⟨_, rfl, hb, ?_⟩
  replace EY := hid (EY.out.trans hb)
  clear hb
  simp only [Act.put, pA, pB, pC]
  clear Q27
  clear Q28
  refine WX.pure (d := some 155) rfl rfl (by rfl) (v := (.bool true)) (fun w' hk => by go_simp) ?_
  simp only [Act.put, pA, pB, pC]
  refine WX.pure (d := some 156) rfl rfl (by rfl) (v := (.bool true)) (fun w' hk => by go_simp) ?_
  simp only [Act.put, pA, pB, pC]
  refine WX.pure (d := some 157) rfl rfl (by rfl) (v := (.agg #[.bool ga, .slice Aa na ca, .slice Ba ma da])) (fun w' hk => ?_) ?_
  · obtain ⟨ce0, ce1, ce2⟩ := ((BX0.out.up EY.out).up hk).c3; go_simp
  simp only [Act.put, pA, pB, pC]
  refine WX.pure (d := some 159) rfl rfl (by rfl) (v := (.agg #[.bool ga, .slice Aa na ca, .slice Ba ma da])) (fun w' hk => ?_) ?_
  · obtain ⟨ce0, ce1, ce2⟩ := ((BX0.out.up EY.out).up hk).c3; go_simp
  simp only [Act.put, pA, pB, pC]
  refine WX.call (d := some 158) rfl rfl (by rfl) (by go_simp) ((fCeil_r (WorthR.wide (Ra.out.up EY.out) (k := 4) (by omega)) (by omega) (by omega)).mono ?_)
  rintro e wn ⟨v1, rfl, x1, hb⟩
  obtain ⟨g29, A29, n29, c29, rfl⟩ := x1.shape
  refine ⟨_, rfl, hb, ?_⟩
  replace EY := hid (EY.out.trans hb)
  have Q29 := hid x1
  clear hb x1
  simp only [Act.put, pA, pB, pC]
  as_aux_lemma =>
  refine WX.call (d := some 160) rfl rfl (by rfl) (by go_simp) ((rCeilR_r (WorthR.wide (Ra.out.up EY.out) (k := 4) (by omega)) (by omega) (by omega)).mono ?_)
  rintro e wn ⟨v1, rfl, x1, hb⟩
  obtain ⟨g30, A30, n30, c30, rfl⟩ := x1.shape
  refine ⟨_, rfl, hb, ?_⟩
  replace EY := hid (EY.out.trans hb)
  replace Q29 := hid (Q29.out.up hb)
  have Q30 := hid x1
  clear hb x1
  simp only [Act.put, pA, pB, pC]
  refine WX.call (d := some 161) rfl rfl (by rfl) (by go_simp) ((equal_z (Q29.out.to (rfl)) Q30.out).mono ?_)
  rintro e wn ⟨rfl, hb⟩
  refine ⟨_, rfl, hb, ?_⟩
  replace EY := hid (EY.out.trans hb)
  clear hb
  simp only [Act.put, pA, pB, pC]
  clear Q29
  clear Q30
  refine WX.pure (d := some 162) rfl rfl (by rfl) (v := (.bool true)) (fun w' hk => by go_simp) ?_
  simp only [Act.put, pA, pB, pC]
  refine WX.pure (d := some 163) rfl rfl (by rfl) (v := (.bool true)) (fun w' hk => by go_simp) ?_
  simp only [Act.put, pA, pB, pC]
  refine WX.pure (d := some 164) rfl rfl (by rfl) (v := (.agg #[.bool ga, .slice Aa na ca, .slice Ba ma da])) (fun w' hk => ?_) ?_
  · obtain ⟨ce0, ce1, ce2⟩ := ((BX0.out.up EY.out).up hk).c3; go_simp
  simp only [Act.put, pA, pB, pC]
  refine WX.pure (d := some 166) rfl rfl (by rfl) (v := (.pointer (some ⟨gV13, 2, none⟩))) (fun w' hk => by go_simp) ?_
  simp only [Act.put, pA, pB, pC]
  refine WX.pure (d := some 167) rfl rfl (by rfl) (v := (.slice B17 m17 d17)) (fun w' hk => ?_) ?_
  · have ce2 := hk.cell ((V13.out.up EY.out).cell (o := 2) (v := .slice B17 m17 d17) rfl); go_simp
  simp only [Act.put, pA, pB, pC]
  refine WX.fork ?_ ?_
  · refine WX.callR (d := some 165) rfl rfl (by rfl) (f := 35) (args := #[(.agg #[.bool ga, .slice Aa na ca, .slice Ba ma da])]) (fun w => by go_simp) (fun wx hx0 => ?_)
    replace EY := hid (EY.out.trans hx0)
    clear hx0
    refine (fWhole_r (WorthR.wide (Ra.out.up EY.out) (k := 4) (by omega)) (by omega) (by omega) (b := t) (HT.out)).mono ?_
    rintro e wn ⟨rfl, hb⟩
    refine ⟨_, rfl, hb, ?_⟩
    replace EY := hid (EY.out.trans hb)
    clear hb
    simp only [Act.put, pA, pB, pC]
    refine WX.newR (d := some 168) (cs := #[.int .u32 1]) (t := 32) (v := fun g => (.slice (some ⟨g, 0, none⟩) 1 1)) rfl rfl (by rfl) (fun w => by go_simp) fun gVM wv hx0 hbox hge => ?_
    replace EY := hid (EY.out.trans hx0)
    have VM : Hid (Box wv gVM #[.int .u32 1] 32) := hid hbox
    clear hx0 hbox hge
    simp only [Act.put, pA, pB, pC]
    refine WX.call (d := some 169) rfl rfl (by rfl) (by go_simp) ((same_row (D17.out.up EY.out).parts.2.1 VM.out.row1.1 (b := t) HTL.out).mono ?_)
    rintro e wn ⟨rfl, hb⟩
    refine ⟨_, rfl, hb, ?_⟩
    replace EY := hid (EY.out.trans hb)
    replace VM := hid (VM.out.up hb)
    clear hb
    simp only [Act.put, pA, pB, pC]
    refine WX.pure (d := some 170) rfl rfl (by rfl) (v := (.bool true)) (fun w' hk => by go_simp) ?_
    simp only [Act.put, pA, pB, pC]
    refine WX.pure (d := some 171) rfl rfl (by rfl) (v := (.bool true)) (fun w' hk => by go_simp) ?_
    simp only [Act.put, pA, pB, pC]
    refine WX.pure (d := some 8) rfl rfl (by rfl) (v := (.bool true)) (fun w' hk => by go_simp) ?_
    simp only [Act.put, pA, pB, pC]
    refine WX.done ?_
    repeat go_step
    go_ret
    exact ⟨rfl, (E.out.trans EY.out)⟩
  · refine WX.newR (d := some 168) (cs := #[.int .u32 1]) (t := 32) (v := fun g => (.slice (some ⟨g, 0, none⟩) 1 1)) rfl rfl (by rfl) (fun w => by go_simp) fun gVM wv hx0 hbox hge => ?_
    replace EY := hid (EY.out.trans hx0)
    have VM : Hid (Box wv gVM #[.int .u32 1] 32) := hid hbox
    clear hx0 hbox hge
    simp only [Act.put, pA, pB, pC]
    refine WX.callR (d := some 165) rfl rfl (by rfl) (f := 35) (args := #[(.agg #[.bool ga, .slice Aa na ca, .slice Ba ma da])]) (fun w => by go_simp) (fun wx hx0 => ?_)
    replace EY := hid (EY.out.trans hx0)
    replace VM := hid (VM.out.up hx0)
    clear hx0
    refine (fWhole_r (WorthR.wide (Ra.out.up EY.out) (k := 4) (by omega)) (by omega) (by omega) (b := t) (HT.out)).mono ?_
    rintro e wn ⟨rfl, hb⟩
    refine ⟨_, rfl, hb, ?_⟩
    replace EY := hid (EY.out.trans hb)
    replace VM := hid (VM.out.up hb)
    clear hb
    simp only [Act.put, pA, pB, pC]
    refine WX.call (d := some 169) rfl rfl (by rfl) (by go_simp) ((same_row (D17.out.up EY.out).parts.2.1 VM.out.row1.1 (b := t) HTL.out).mono ?_)
    rintro e wn ⟨rfl, hb⟩
    refine ⟨_, rfl, hb, ?_⟩
    replace EY := hid (EY.out.trans hb)
    clear hb
    simp only [Act.put, pA, pB, pC]
    refine WX.pure (d := some 170) rfl rfl (by rfl) (v := (.bool true)) (fun w' hk => by go_simp) ?_
    simp only [Act.put, pA, pB, pC]
    refine WX.pure (d := some 171) rfl rfl (by rfl) (v := (.bool true)) (fun w' hk => by go_simp) ?_
    simp only [Act.put, pA, pB, pC]
    refine WX.pure (d := some 8) rfl rfl (by rfl) (v := (.bool true)) (fun w' hk => by go_simp) ?_
    simp only [Act.put, pA, pB, pC]
    refine WX.done ?_
    repeat go_step
    go_ret
    exact ⟨rfl, (E.out.trans EY.out)⟩

end Go.Proofs.YtkjfeedclaedfaaGreat
