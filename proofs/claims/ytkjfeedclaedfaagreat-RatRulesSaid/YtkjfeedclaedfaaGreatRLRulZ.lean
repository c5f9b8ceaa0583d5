/-
  RatRules's law, one of its ways.
-/
import Derived.Test.YtkjfeedclaedfaaGreatRKnown
import Derived.Test.YtkjfeedclaedfaaGreatRLMath
namespace Go.Proofs.YtkjfeedclaedfaaGreat
open Go.ChangeShapes Go.WideShapes Go.ChangeAt Go.RowKit
set_option linter.unusedSimpArgs false
set_option linter.unusedVariables false

set_option maxRecDepth 100000 in
set_option maxHeartbeats 16000000 in
theorem ratRules_zero (W : World) (ga : Bool) (Aa : Option Addr) (na ca : Nat) (la : List Nat) (Ba : Option Addr) (ma da : Nat) (ra : List Nat) (ha : Num W W.heap.size (.slice Aa na ca) la) (ka : Num W W.heap.size (.slice Ba ma da) ra) (gb : Bool) (Ab : Option Addr) (nb cb : Nat) (lb : List Nat) (Bb : Option Addr) (mb db : Nat) (rb : List Nat) (hb : Num W W.heap.size (.slice Ab nb cb) lb) (kb : Num W W.heap.size (.slice Bb mb db) rb) (gc : Bool) (Ac : Option Addr) (nc cc : Nat) (lc : List Nat) (Bc : Option Addr) (mc dc : Nat) (rc : List Nat) (hc : Num W W.heap.size (.slice Ac nc cc) lc) (kc : Num W W.heap.size (.slice Bc mc dc) rc) (fa : Hid ((decide (la.length ≤ 4) && decide (ra.length ≤ 4)) = true)) (fb : Hid ((decide (lb.length ≤ 4) && decide (rb.length ≤ 4)) = true)) (fc : Hid ((decide (lc.length ≤ 4) && decide (rc.length ≤ 4)) = true)) (ia : Hid (M.isR ga la ra = true)) (ib : Hid (M.isR gb lb rb = true)) (ic : Hid (M.isR gc lc rc = true)) (x : Rat) (HX : Hid (x = M.rv ga la ra)) (y : Rat) (HY : Hid (y = M.rv gb lb rb)) (u : Rat) (HU : Hid (u = M.rv gc lc rc)) (hcond : Hid (y = 0)) :
    Calls Tryz.prog 4 #[.agg #[.bool ga, .slice Aa na ca, .slice Ba ma da], .agg #[.bool gb, .slice Ab nb cb, .slice Bb mb db], .agg #[.bool gc, .slice Ac nc cc, .slice Bc mc dc]] W (fun e w' => e = .returned (.bool true) ∧ Ext W w') := by
  have Na := hid ha
  have Ma := hid ka
  have Nb := hid hb
  have Mb := hid kb
  have Nc := hid hc
  have Mc := hid kc
  have KLa := hid (few_l fa.out)
  have KRa := hid (few_r fa.out)
  have Ra := hid (worthR_of ha ka KLa.out KRa.out HX.out)
  have KLb := hid (few_l fb.out)
  have KRb := hid (few_r fb.out)
  have Rb := hid (worthR_of hb kb KLb.out KRb.out HY.out)
  have KLc := hid (few_l fc.out)
  have KRc := hid (few_r fc.out)
  have Rc := hid (worthR_of hc kc KLc.out KRc.out HU.out)
  obtain ⟨z, hz⟩ : ∃ z : Int, M.rcmp x y = z := ⟨_, rfl⟩
  have HZ := hid hz
  obtain ⟨b, hb⟩ : ∃ b : Bool, decide (x.den = 1) = b := ⟨_, rfl⟩
  have HB := hid hb
  have HBE := hid (show decide (((x.floor : Int) : Rat) = ((x.ceil : Int) : Rat)) = b by rw [← hb, Bool.eq_iff_iff, decide_eq_true_iff, decide_eq_true_iff]; exact M.ends_same x)
  obtain ⟨z1, hz1⟩ : ∃ z : Int, M.rcmp ((x.floor : Int) : Rat) x = z := ⟨_, rfl⟩
  have hz1b := M.rcmp_le hz1 (M.floor_le1 x)
  have HZ1 := hid hz1
  obtain ⟨z2, hz2⟩ : ∃ z : Int, M.rcmp ((x.ceil : Int) : Rat) x = z := ⟨_, rfl⟩
  have hz2b := M.rcmp_ge hz2 (M.ceil_ge1 x)
  have HZ2 := hid hz2
  have HY0 := hid (show y.num.sign = 0 from by rw [hcond.out]; rfl)
  have HYN := hcond
  clear hz hb hz1 hz2
  clear ha ka hb kb hc kc
  go_enter Tryz.func4, Tryz.ntmps4
  go_upto_region 1 with (fail)
  have E := hid ((((Ext.refl W).alloc' (.cells #[.bool ga, .slice Aa na ca, .slice Ba ma da] 26)).alloc' (.cells #[.bool gb, .slice Ab nb cb, .slice Bb mb db] 26)).alloc' (.cells #[.bool gc, .slice Ac nc cc, .slice Bc mc dc] 26))
  have BX0 : Hid (Box (((W.alloc (.cells #[.bool ga, .slice Aa na ca, .slice Ba ma da] 26)).alloc (.cells #[.bool gb, .slice Ab nb cb, .slice Bb mb db] 26)).alloc (.cells #[.bool gc, .slice Ac nc cc, .slice Bc mc dc] 26)) (W.heap.size) #[.bool ga, .slice Aa na ca, .slice Ba ma da] 26) := hid (((Box.at_ (w := W) #[.bool ga, .slice Aa na ca, .slice Ba ma da] 26 (by simp)).alloc (.cells #[.bool gb, .slice Ab nb cb, .slice Bb mb db] 26)).alloc (.cells #[.bool gc, .slice Ac nc cc, .slice Bc mc dc] 26))
  have BX1 : Hid (Box (((W.alloc (.cells #[.bool ga, .slice Aa na ca, .slice Ba ma da] 26)).alloc (.cells #[.bool gb, .slice Ab nb cb, .slice Bb mb db] 26)).alloc (.cells #[.bool gc, .slice Ac nc cc, .slice Bc mc dc] 26)) (W.heap.size + 1) #[.bool gb, .slice Ab nb cb, .slice Bb mb db] 26) := hid ((Box.at_ (w := (W.alloc (.cells #[.bool ga, .slice Aa na ca, .slice Ba ma da] 26))) #[.bool gb, .slice Ab nb cb, .slice Bb mb db] 26 (by simp)).alloc (.cells #[.bool gc, .slice Ac nc cc, .slice Bc mc dc] 26))
  have BX2 : Hid (Box (((W.alloc (.cells #[.bool ga, .slice Aa na ca, .slice Ba ma da] 26)).alloc (.cells #[.bool gb, .slice Ab nb cb, .slice Bb mb db] 26)).alloc (.cells #[.bool gc, .slice Ac nc cc, .slice Bc mc dc] 26)) (W.heap.size + 2) #[.bool gc, .slice Ac nc cc, .slice Bc mc dc] 26) := hid (Box.at_ (w := ((W.alloc (.cells #[.bool ga, .slice Aa na ca, .slice Ba ma da] 26)).alloc (.cells #[.bool gb, .slice Ab nb cb, .slice Bb mb db] 26))) #[.bool gc, .slice Ac nc cc, .slice Bc mc dc] 26 (by simp))
  replace Na := hid (Na.out.up E.out)
  replace Ma := hid (Ma.out.up E.out)
  replace Nb := hid (Nb.out.up E.out)
  replace Mb := hid (Mb.out.up E.out)
  replace Nc := hid (Nc.out.up E.out)
  replace Mc := hid (Mc.out.up E.out)
  replace Ra := hid (Ra.out.up E.out)
  replace Rb := hid (Rb.out.up E.out)
  replace Rc := hid (Rc.out.up E.out)
  refine wp_region_T [(0, 1), (1, 0)] (by kernel_rfl) fun wd hb => ?_
  replace E := hid (E.out.trans hb)
  replace BX0 := hid (BX0.out.up hb)
  replace BX1 := hid (BX1.out.up hb)
  replace BX2 := hid (BX2.out.up hb)
  replace Na := hid (Na.out.up hb)
  replace Ma := hid (Ma.out.up hb)
  replace Nb := hid (Nb.out.up hb)
  replace Mb := hid (Mb.out.up hb)
  replace Nc := hid (Nc.out.up hb)
  replace Mc := hid (Mc.out.up hb)
  replace Ra := hid (Ra.out.up hb)
  replace Rb := hid (Rb.out.up hb)
  replace Rc := hid (Rc.out.up hb)
  clear hb
  have EY := hid (Ext.refl wd)
  refine WE.call (d := some 13) rfl rfl (by rfl) (by go_simp) ((known5 _).mono ?_)
  rintro e wn ⟨rfl, hb⟩
  refine ⟨_, rfl, hb, ?_⟩
  replace EY := hid (EY.out.trans hb)
  clear hb
  simp only [Act.put, pA, pB, pC]
  refine WE.pure (d := some 14) rfl rfl (by rfl) (v := (.bool false)) (fun w' hk => by go_simp) ?_
  simp only [Act.put, pA, pB, pC]
  refine WE.done ?_
  go_upto_region 3 with (fail)
  refine wp_region_T [(0, 0), (1, 1), (2, 0), (3, 0), (4, 0), (5, 1), (6, 0), (7, 0), (8, 0), (9, 0), (10, 1), (11, 0), (12, 0), (13, 0), (14, 0), (15, 1), (16, 0), (17, 0), (18, 0), (19, 0), (20, 1), (21, 0), (22, 0), (23, 0), (24, 0), (25, 1), (26, 0), (27, 0)] (by kernel_rfl) fun wd hb => ?_
  replace EY := hid (EY.out.trans hb)
  clear hb
  refine WE.pure (d := some 15) rfl rfl (by rfl) (v := (.agg #[.bool ga, .slice Aa na ca, .slice Ba ma da])) (fun w' hk => ?_) ?_
  · obtain ⟨ce0, ce1, ce2⟩ := ((BX0.out.up EY.out).up hk).c3; go_simp
  simp only [Act.put, pA, pB, pC]
  refine WE.call (d := some 16) rfl rfl (by rfl) (by go_simp) ((few5 (g := ga) (Na.out.up EY.out) (Ma.out.up EY.out) fa.out).mono ?_)
  rintro e wn ⟨rfl, hb⟩
  refine ⟨_, rfl, hb, ?_⟩
  replace EY := hid (EY.out.trans hb)
  clear hb
  simp only [Act.put, pA, pB, pC]
  refine WE.pure (d := some 17) rfl rfl (by rfl) (v := (.bool false)) (fun w' hk => by go_simp) ?_
  simp only [Act.put, pA, pB, pC]
  refine WE.pure (d := some 18) rfl rfl (by rfl) (v := (.bool false)) (fun w' hk => by go_simp) ?_
  simp only [Act.put, pA, pB, pC]
  refine WE.pure (d := some 19) rfl rfl (by rfl) (v := (.agg #[.bool gb, .slice Ab nb cb, .slice Bb mb db])) (fun w' hk => ?_) ?_
  · obtain ⟨ce0, ce1, ce2⟩ := ((BX1.out.up EY.out).up hk).c3; go_simp
  simp only [Act.put, pA, pB, pC]
  refine WE.call (d := some 20) rfl rfl (by rfl) (by go_simp) ((few5 (g := gb) (Nb.out.up EY.out) (Mb.out.up EY.out) fb.out).mono ?_)
  rintro e wn ⟨rfl, hb⟩
  refine ⟨_, rfl, hb, ?_⟩
  replace EY := hid (EY.out.trans hb)
  clear hb
  simp only [Act.put, pA, pB, pC]
  refine WE.pure (d := some 21) rfl rfl (by rfl) (v := (.bool false)) (fun w' hk => by go_simp) ?_
  simp only [Act.put, pA, pB, pC]
  refine WE.pure (d := some 22) rfl rfl (by rfl) (v := (.bool false)) (fun w' hk => by go_simp) ?_
  simp only [Act.put, pA, pB, pC]
  refine WE.pure (d := some 23) rfl rfl (by rfl) (v := (.bool false)) (fun w' hk => by go_simp) ?_
  simp only [Act.put, pA, pB, pC]
  as_aux_lemma =>
  refine WE.pure (d := some 24) rfl rfl (by rfl) (v := (.agg #[.bool gc, .slice Ac nc cc, .slice Bc mc dc])) (fun w' hk => ?_) ?_
  · obtain ⟨ce0, ce1, ce2⟩ := ((BX2.out.up EY.out).up hk).c3; go_simp
  simp only [Act.put, pA, pB, pC]
  refine WE.call (d := some 25) rfl rfl (by rfl) (by go_simp) ((few5 (g := gc) (Nc.out.up EY.out) (Mc.out.up EY.out) fc.out).mono ?_)
  rintro e wn ⟨rfl, hb⟩
  refine ⟨_, rfl, hb, ?_⟩
  replace EY := hid (EY.out.trans hb)
  clear hb
  simp only [Act.put, pA, pB, pC]
  refine WE.pure (d := some 26) rfl rfl (by rfl) (v := (.bool false)) (fun w' hk => by go_simp) ?_
  simp only [Act.put, pA, pB, pC]
  refine WE.pure (d := some 27) rfl rfl (by rfl) (v := (.bool false)) (fun w' hk => by go_simp) ?_
  simp only [Act.put, pA, pB, pC]
  refine WE.pure (d := some 28) rfl rfl (by rfl) (v := (.bool false)) (fun w' hk => by go_simp) ?_
  simp only [Act.put, pA, pB, pC]
  refine WE.pure (d := some 29) rfl rfl (by rfl) (v := (.agg #[.bool ga, .slice Aa na ca, .slice Ba ma da])) (fun w' hk => ?_) ?_
  · obtain ⟨ce0, ce1, ce2⟩ := ((BX0.out.up EY.out).up hk).c3; go_simp
  simp only [Act.put, pA, pB, pC]
  refine WE.call (d := some 30) rfl rfl (by rfl) (by go_simp) ((fIs_any (Na.out.up EY.out) (Ma.out.up EY.out) KLa.out KRa.out (by omega) ia.out).mono ?_)
  rintro e wn ⟨rfl, hb⟩
  refine ⟨_, rfl, hb, ?_⟩
  replace EY := hid (EY.out.trans hb)
  clear hb
  simp only [Act.put, pA, pB, pC]
  refine WE.pure (d := some 31) rfl rfl (by rfl) (v := (.bool false)) (fun w' hk => by go_simp) ?_
  simp only [Act.put, pA, pB, pC]
  refine WE.pure (d := some 32) rfl rfl (by rfl) (v := (.bool false)) (fun w' hk => by go_simp) ?_
  simp only [Act.put, pA, pB, pC]
  refine WE.pure (d := some 33) rfl rfl (by rfl) (v := (.bool false)) (fun w' hk => by go_simp) ?_
  simp only [Act.put, pA, pB, pC]
  refine WE.pure (d := some 34) rfl rfl (by rfl) (v := (.agg #[.bool gb, .slice Ab nb cb, .slice Bb mb db])) (fun w' hk => ?_) ?_
  · obtain ⟨ce0, ce1, ce2⟩ := ((BX1.out.up EY.out).up hk).c3; go_simp
  simp only [Act.put, pA, pB, pC]
  refine WE.call (d := some 35) rfl rfl (by rfl) (by go_simp) ((fIs_any (Nb.out.up EY.out) (Mb.out.up EY.out) KLb.out KRb.out (by omega) ib.out).mono ?_)
  rintro e wn ⟨rfl, hb⟩
  refine ⟨_, rfl, hb, ?_⟩
  replace EY := hid (EY.out.trans hb)
  clear hb
  simp only [Act.put, pA, pB, pC]
  as_aux_lemma =>
  refine WE.pure (d := some 36) rfl rfl (by rfl) (v := (.bool false)) (fun w' hk => by go_simp) ?_
  simp only [Act.put, pA, pB, pC]
  refine WE.pure (d := some 37) rfl rfl (by rfl) (v := (.bool false)) (fun w' hk => by go_simp) ?_
  simp only [Act.put, pA, pB, pC]
  refine WE.pure (d := some 38) rfl rfl (by rfl) (v := (.bool false)) (fun w' hk => by go_simp) ?_
  simp only [Act.put, pA, pB, pC]
  refine WE.pure (d := some 39) rfl rfl (by rfl) (v := (.agg #[.bool gc, .slice Ac nc cc, .slice Bc mc dc])) (fun w' hk => ?_) ?_
  · obtain ⟨ce0, ce1, ce2⟩ := ((BX2.out.up EY.out).up hk).c3; go_simp
  simp only [Act.put, pA, pB, pC]
  refine WE.call (d := some 40) rfl rfl (by rfl) (by go_simp) ((fIs_any (Nc.out.up EY.out) (Mc.out.up EY.out) KLc.out KRc.out (by omega) ic.out).mono ?_)
  rintro e wn ⟨rfl, hb⟩
  refine ⟨_, rfl, hb, ?_⟩
  replace EY := hid (EY.out.trans hb)
  clear hb
  simp only [Act.put, pA, pB, pC]
  refine WE.pure (d := some 41) rfl rfl (by rfl) (v := (.bool false)) (fun w' hk => by go_simp) ?_
  simp only [Act.put, pA, pB, pC]
  refine WE.pure (d := some 42) rfl rfl (by rfl) (v := (.bool false)) (fun w' hk => by go_simp) ?_
  simp only [Act.put, pA, pB, pC]
  refine WE.done ?_
  obtain ⟨q, hq⟩ : ∃ q : Bool, decide (z < 0) = q := ⟨_, rfl⟩
  go_upto_region 5 with (fail)
  refine wp_region_T [(0, 0), (1, 0), (2, 1), (3, 1), (4, 4)] (by kernel_rfl) fun wd hb => ?_
  replace EY := hid (EY.out.trans hb)
  clear hb
  refine WE.pure (d := some 43) rfl rfl (by rfl) (v := (.agg #[.bool ga, .slice Aa na ca, .slice Ba ma da])) (fun w' hk => ?_) ?_
  · obtain ⟨ce0, ce1, ce2⟩ := ((BX0.out.up EY.out).up hk).c3; go_simp
  simp only [Act.put, pA, pB, pC]
  refine WE.pure (d := some 44) rfl rfl (by rfl) (v := (.agg #[.bool gb, .slice Ab nb cb, .slice Bb mb db])) (fun w' hk => ?_) ?_
  · obtain ⟨ce0, ce1, ce2⟩ := ((BX1.out.up EY.out).up hk).c3; go_simp
  simp only [Act.put, pA, pB, pC]
  refine WE.call (d := some 45) rfl rfl (by rfl) (by go_simp) ((fAdd_r (WorthR.wide (Ra.out.up EY.out) (k := 4) (by omega)) (WorthR.wide (Rb.out.up EY.out) (k := 4) (by omega)) (by omega) (by omega)).mono ?_)
  rintro e wn ⟨v1, rfl, x1, hb⟩
  obtain ⟨g11, A11, n11, c11, B11, m11, d11, rfl, p1, q1⟩ := x1
  refine ⟨_, rfl, hb, ?_⟩
  replace EY := hid (EY.out.trans hb)
  have P11 := hid p1
  have D11 := hid q1
  clear hb p1 q1
  simp only [Act.put, pA, pB, pC]
  refine WE.new (d := some 7) (cs := #[.bool false, .slice none 0 0, .slice none 0 0]) (t := 26) (v := fun g => (.pointer (some ⟨g, 0, none⟩))) rfl rfl (by rfl) (fun w => by go_simp) fun gV7 wv hx0 hbox hge => ?_
  have HNV7BX0 := hid (show gV7 ≠ (W.heap.size) by have := (BX0.out.up EY.out).lt; omega)
  have HNV7BX1 := hid (show gV7 ≠ (W.heap.size + 1) by have := (BX1.out.up EY.out).lt; omega)
  have HNV7BX2 := hid (show gV7 ≠ (W.heap.size + 2) by have := (BX2.out.up EY.out).lt; omega)
  have HGV7 := hid (show W.heap.size ≤ gV7 by have := (E.out.trans EY.out).size; omega)
  replace EY := hid (EY.out.trans hx0)
  replace P11 := hid (P11.out.up hx0)
  replace D11 := hid (D11.out.up hx0)
  have V7 : Hid (Box wv gV7 #[.bool false, .slice none 0 0, .slice none 0 0] 26) := hid hbox
  clear hx0 hbox hge
  simp only [Act.put, pA, pB, pC]
  refine WE.store3 (g := gV7) (x := .bool g11) (y := .slice A11 n11 c11) (z := .slice B11 m11 d11) (t := 26) rfl rfl (by rfl) (fun w hb => ?_) V7.out (by rfl) fun ws hk hs => ?_
  · obtain ⟨ce0, ce1, ce2⟩ := hb.c3; obtain ⟨f0, f1, f2⟩ := hb.f3; go_simp
  intro hbx
  replace E := hid ((E.out.trans EY.out).keptG hk HGV7.out)
  replace BX0 := hid ((BX0.out.up EY.out).kept hk (by simpa using HNV7BX0.out.symm))
  replace BX1 := hid ((BX1.out.up EY.out).kept hk (by simpa using HNV7BX1.out.symm))
  replace BX2 := hid ((BX2.out.up EY.out).kept hk (by simpa using HNV7BX2.out.symm))
  replace V7 := hid hbx
  replace Ra := hid ((Ra.out.up EY.out).kz hs)
  replace Rb := hid ((Rb.out.up EY.out).kz hs)
  replace Rc := hid ((Rc.out.up EY.out).kz hs)
  replace P11 := hid (P11.out.kz hs)
  replace D11 := hid (D11.out.kz hs)
  clear hk hs hbx
  replace EY := hid (Ext.refl ws)
  refine WE.done ?_
  go_upto_region 6 with (fail)
  refine wp_region_E [(0, 0), (1, 1), (2, 0), (3, 0), (4, 0), (5, 0), (6, 1), (7, 1), (8, 0), (9, 0), (10, 0), (11, 0), (12, 0), (13, 0), (14, 1), (15, 1), (16, 0), (17, 0), (18, 0), (19, 0), (20, 0), (22, 0), (21, 1), (23, 1), (24, 0), (25, 0), (26, 0), (27, 0), (28, 0), (30, 0), (31, 0), (33, 0), (34, 0), (29, 1), (32, 1), (35, 1), (36, 1), (37, 1), (38, 0), (39, 0), (40, 0), (41, 0), (42, 0), (45, 0), (43, 1), (44, 1), (46, 1), (47, 1), (48, 0), (49, 0)] (fun _ => (0, #[])) rfl (by kernel_rfl) (by intro j hj; cases hj) (fun _ _ d _ _ => by cases d <;> exact Iff.rfl) fun wd hb => ?_
  replace EY := hid (EY.out.trans hb)
  clear hb
  as_aux_lemma =>
  refine WE.pure (d := some 46) rfl rfl (by rfl) (v := (.agg #[.bool g11, .slice A11 n11 c11, .slice B11 m11 d11])) (fun w' hk => ?_) ?_
  · obtain ⟨ce0, ce1, ce2⟩ := ((V7.out.up EY.out).up hk).c3; go_simp
  simp only [Act.put, pA, pB, pC]
  refine WE.call (d := some 47) rfl rfl (by rfl) (by go_simp) ((fIs_r (IsR.mk (P11.out.up EY.out) (D11.out.up EY.out)) (by omega)).mono ?_)
  rintro e wn ⟨rfl, hb⟩
  refine ⟨_, rfl, hb, ?_⟩
  replace EY := hid (EY.out.trans hb)
  clear hb
  simp only [Act.put, pA, pB, pC]
  refine WE.pure (d := some 48) rfl rfl (by rfl) (v := (.bool false)) (fun w' hk => by go_simp) ?_
  simp only [Act.put, pA, pB, pC]
  refine WE.pure (d := some 49) rfl rfl (by rfl) (v := (.bool false)) (fun w' hk => by go_simp) ?_
  simp only [Act.put, pA, pB, pC]
  refine WE.pure (d := some 50) rfl rfl (by rfl) (v := (.agg #[.bool ga, .slice Aa na ca, .slice Ba ma da])) (fun w' hk => ?_) ?_
  · obtain ⟨ce0, ce1, ce2⟩ := ((BX0.out.up EY.out).up hk).c3; go_simp
  simp only [Act.put, pA, pB, pC]
  refine WE.pure (d := some 51) rfl rfl (by rfl) (v := (.agg #[.bool gb, .slice Ab nb cb, .slice Bb mb db])) (fun w' hk => ?_) ?_
  · obtain ⟨ce0, ce1, ce2⟩ := ((BX1.out.up EY.out).up hk).c3; go_simp
  simp only [Act.put, pA, pB, pC]
  refine WE.call (d := some 52) rfl rfl (by rfl) (by go_simp) ((fMul_r (WorthR.wide (Ra.out.up EY.out) (k := 4) (by omega)) (WorthR.wide (Rb.out.up EY.out) (k := 4) (by omega)) (by omega) (by omega)).mono ?_)
  rintro e wn ⟨v1, rfl, x1, hb⟩
  obtain ⟨g12, A12, n12, c12, B12, m12, d12, rfl, p1, q1⟩ := x1
  refine ⟨_, rfl, hb, ?_⟩
  replace EY := hid (EY.out.trans hb)
  have P12 := hid p1
  have D12 := hid q1
  clear hb p1 q1
  simp only [Act.put, pA, pB, pC]
  refine WE.call (d := some 53) rfl rfl (by rfl) (by go_simp) ((fIs_r (IsR.mk P12.out D12.out) (by omega)).mono ?_)
  rintro e wn ⟨rfl, hb⟩
  refine ⟨_, rfl, hb, ?_⟩
  replace EY := hid (EY.out.trans hb)
  clear hb
  simp only [Act.put, pA, pB, pC]
  refine WE.pure (d := some 54) rfl rfl (by rfl) (v := (.bool false)) (fun w' hk => by go_simp) ?_
  simp only [Act.put, pA, pB, pC]
  refine WE.pure (d := some 55) rfl rfl (by rfl) (v := (.bool false)) (fun w' hk => by go_simp) ?_
  simp only [Act.put, pA, pB, pC]
  refine WE.pure (d := some 56) rfl rfl (by rfl) (v := (.bool false)) (fun w' hk => by go_simp) ?_
  simp only [Act.put, pA, pB, pC]
  refine WE.pure (d := some 57) rfl rfl (by rfl) (v := (.agg #[.bool g11, .slice A11 n11 c11, .slice B11 m11 d11])) (fun w' hk => ?_) ?_
  · obtain ⟨ce0, ce1, ce2⟩ := ((V7.out.up EY.out).up hk).c3; go_simp
  simp only [Act.put, pA, pB, pC]
  as_aux_lemma =>
  refine WE.pure (d := some 58) rfl rfl (by rfl) (v := (.agg #[.bool gb, .slice Ab nb cb, .slice Bb mb db])) (fun w' hk => ?_) ?_
  · obtain ⟨ce0, ce1, ce2⟩ := ((BX1.out.up EY.out).up hk).c3; go_simp
  simp only [Act.put, pA, pB, pC]
  refine WE.pure (d := some 59) rfl rfl (by rfl) (v := (.agg #[.bool ga, .slice Aa na ca, .slice Ba ma da])) (fun w' hk => ?_) ?_
  · obtain ⟨ce0, ce1, ce2⟩ := ((BX0.out.up EY.out).up hk).c3; go_simp
  simp only [Act.put, pA, pB, pC]
  refine WE.call (d := some 60) rfl rfl (by rfl) (by go_simp) ((fAdd_r (WorthR.wide (Rb.out.up EY.out) (k := 4) (by omega)) (WorthR.wide (Ra.out.up EY.out) (k := 4) (by omega)) (by omega) (by omega)).mono ?_)
  rintro e wn ⟨v1, rfl, x1, hb⟩
  obtain ⟨g13, A13, n13, c13, B13, m13, d13, rfl, p1, q1⟩ := x1
  refine ⟨_, rfl, hb, ?_⟩
  replace EY := hid (EY.out.trans hb)
  have P13 := hid p1
  have D13 := hid q1
  clear hb p1 q1
  simp only [Act.put, pA, pB, pC]
  refine WE.call (d := some 61) rfl rfl (by rfl) (by go_simp) ((fSame_r (WorthR.wide (IsR.mk (P11.out.up EY.out) (D11.out.up EY.out)).worth (k := 13) (by omega)) (WorthR.wide (IsR.mk P13.out D13.out).worth (k := 13) (by omega)) (by omega) (by omega) (b := true) (decide_eq_true (Rat.add_comm x y))).mono ?_)
  rintro e wn ⟨rfl, hb⟩
  refine ⟨_, rfl, hb, ?_⟩
  replace EY := hid (EY.out.trans hb)
  clear hb
  simp only [Act.put, pA, pB, pC]
  refine WE.pure (d := some 62) rfl rfl (by rfl) (v := (.bool false)) (fun w' hk => by go_simp) ?_
  simp only [Act.put, pA, pB, pC]
  refine WE.pure (d := some 63) rfl rfl (by rfl) (v := (.bool false)) (fun w' hk => by go_simp) ?_
  simp only [Act.put, pA, pB, pC]
  refine WE.pure (d := some 64) rfl rfl (by rfl) (v := (.bool false)) (fun w' hk => by go_simp) ?_
  simp only [Act.put, pA, pB, pC]
  refine WE.pure (d := some 65) rfl rfl (by rfl) (v := (.agg #[.bool g11, .slice A11 n11 c11, .slice B11 m11 d11])) (fun w' hk => ?_) ?_
  · obtain ⟨ce0, ce1, ce2⟩ := ((V7.out.up EY.out).up hk).c3; go_simp
  simp only [Act.put, pA, pB, pC]
  refine WE.pure (d := some 66) rfl rfl (by rfl) (v := (.agg #[.bool gb, .slice Ab nb cb, .slice Bb mb db])) (fun w' hk => ?_) ?_
  · obtain ⟨ce0, ce1, ce2⟩ := ((BX1.out.up EY.out).up hk).c3; go_simp
  simp only [Act.put, pA, pB, pC]
  refine WE.pure (d := some 68) rfl rfl (by rfl) (v := (.agg #[.bool ga, .slice Aa na ca, .slice Ba ma da])) (fun w' hk => ?_) ?_
  · obtain ⟨ce0, ce1, ce2⟩ := ((BX0.out.up EY.out).up hk).c3; go_simp
  simp only [Act.put, pA, pB, pC]
  refine WE.call (d := some 67) rfl rfl (by rfl) (by go_simp) ((fSub_r (WorthR.wide (IsR.mk (P11.out.up EY.out) (D11.out.up EY.out)).worth (k := 13) (by omega)) (WorthR.wide (Rb.out.up EY.out) (k := 13) (by omega)) (by omega) (by omega)).mono ?_)
  rintro e wn ⟨v1, rfl, x1, hb⟩
  obtain ⟨g14, A14, n14, c14, B14, m14, d14, rfl, p1, q1⟩ := x1
  refine ⟨_, rfl, hb, ?_⟩
  replace EY := hid (EY.out.trans hb)
  have P14 := hid p1
  have D14 := hid q1
  clear hb p1 q1
  simp only [Act.put, pA, pB, pC]
  refine WE.call (d := some 69) rfl rfl (by rfl) (by go_simp) ((fSame_r (WorthR.wide (IsR.mk P14.out D14.out).worth (k := 31) (by omega)) (WorthR.wide (Ra.out.up EY.out) (k := 31) (by omega)) (by omega) (by omega) (b := true) (decide_eq_true (M.add_sub_self x y))).mono ?_)
  rintro e wn ⟨rfl, hb⟩
  refine ⟨_, rfl, hb, ?_⟩
  replace EY := hid (EY.out.trans hb)
  clear hb
  simp only [Act.put, pA, pB, pC]
  as_aux_lemma =>
  refine WE.pure (d := some 70) rfl rfl (by rfl) (v := (.bool false)) (fun w' hk => by go_simp) ?_
  simp only [Act.put, pA, pB, pC]
  refine WE.pure (d := some 71) rfl rfl (by rfl) (v := (.bool false)) (fun w' hk => by go_simp) ?_
  simp only [Act.put, pA, pB, pC]
  refine WE.pure (d := some 72) rfl rfl (by rfl) (v := (.bool false)) (fun w' hk => by go_simp) ?_
  simp only [Act.put, pA, pB, pC]
  refine WE.pure (d := some 73) rfl rfl (by rfl) (v := (.agg #[.bool g11, .slice A11 n11 c11, .slice B11 m11 d11])) (fun w' hk => ?_) ?_
  · obtain ⟨ce0, ce1, ce2⟩ := ((V7.out.up EY.out).up hk).c3; go_simp
  simp only [Act.put, pA, pB, pC]
  refine WE.pure (d := some 74) rfl rfl (by rfl) (v := (.agg #[.bool gc, .slice Ac nc cc, .slice Bc mc dc])) (fun w' hk => ?_) ?_
  · obtain ⟨ce0, ce1, ce2⟩ := ((BX2.out.up EY.out).up hk).c3; go_simp
  simp only [Act.put, pA, pB, pC]
  refine WE.pure (d := some 76) rfl rfl (by rfl) (v := (.agg #[.bool ga, .slice Aa na ca, .slice Ba ma da])) (fun w' hk => ?_) ?_
  · obtain ⟨ce0, ce1, ce2⟩ := ((BX0.out.up EY.out).up hk).c3; go_simp
  simp only [Act.put, pA, pB, pC]
  refine WE.pure (d := some 77) rfl rfl (by rfl) (v := (.agg #[.bool gc, .slice Ac nc cc, .slice Bc mc dc])) (fun w' hk => ?_) ?_
  · obtain ⟨ce0, ce1, ce2⟩ := ((BX2.out.up EY.out).up hk).c3; go_simp
  simp only [Act.put, pA, pB, pC]
  refine WE.pure (d := some 79) rfl rfl (by rfl) (v := (.agg #[.bool gb, .slice Ab nb cb, .slice Bb mb db])) (fun w' hk => ?_) ?_
  · obtain ⟨ce0, ce1, ce2⟩ := ((BX1.out.up EY.out).up hk).c3; go_simp
  simp only [Act.put, pA, pB, pC]
  refine WE.pure (d := some 80) rfl rfl (by rfl) (v := (.agg #[.bool gc, .slice Ac nc cc, .slice Bc mc dc])) (fun w' hk => ?_) ?_
  · obtain ⟨ce0, ce1, ce2⟩ := ((BX2.out.up EY.out).up hk).c3; go_simp
  simp only [Act.put, pA, pB, pC]
  refine WE.call (d := some 75) rfl rfl (by rfl) (by go_simp) ((fMul_r (WorthR.wide (IsR.mk (P11.out.up EY.out) (D11.out.up EY.out)).worth (k := 13) (by omega)) (WorthR.wide (Rc.out.up EY.out) (k := 13) (by omega)) (by omega) (by omega)).mono ?_)
  rintro e wn ⟨v1, rfl, x1, hb⟩
  obtain ⟨g15, A15, n15, c15, B15, m15, d15, rfl, p1, q1⟩ := x1
  refine ⟨_, rfl, hb, ?_⟩
  replace EY := hid (EY.out.trans hb)
  have P15 := hid p1
  have D15 := hid q1
  clear hb p1 q1
  simp only [Act.put, pA, pB, pC]
  refine WE.call (d := some 78) rfl rfl (by rfl) (by go_simp) ((fMul_r (WorthR.wide (Ra.out.up EY.out) (k := 4) (by omega)) (WorthR.wide (Rc.out.up EY.out) (k := 4) (by omega)) (by omega) (by omega)).mono ?_)
  rintro e wn ⟨v1, rfl, x1, hb⟩
  obtain ⟨g16, A16, n16, c16, B16, m16, d16, rfl, p1, q1⟩ := x1
  refine ⟨_, rfl, hb, ?_⟩
  replace EY := hid (EY.out.trans hb)
  replace P15 := hid (P15.out.up hb)
  replace D15 := hid (D15.out.up hb)
  have P16 := hid p1
  have D16 := hid q1
  clear hb p1 q1
  simp only [Act.put, pA, pB, pC]
  refine WE.call (d := some 81) rfl rfl (by rfl) (by go_simp) ((fMul_r (WorthR.wide (Rb.out.up EY.out) (k := 4) (by omega)) (WorthR.wide (Rc.out.up EY.out) (k := 4) (by omega)) (by omega) (by omega)).mono ?_)
  rintro e wn ⟨v1, rfl, x1, hb⟩
  obtain ⟨g17, A17, n17, c17, B17, m17, d17, rfl, p1, q1⟩ := x1
  refine ⟨_, rfl, hb, ?_⟩
  replace EY := hid (EY.out.trans hb)
  replace P15 := hid (P15.out.up hb)
  replace D15 := hid (D15.out.up hb)
  replace P16 := hid (P16.out.up hb)
  replace D16 := hid (D16.out.up hb)
  have P17 := hid p1
  have D17 := hid q1
  clear hb p1 q1
  simp only [Act.put, pA, pB, pC]
  as_aux_lemma =>
  refine WE.call (d := some 82) rfl rfl (by rfl) (by go_simp) ((fAdd_r (WorthR.wide (IsR.mk P16.out D16.out).worth (k := 13) (by omega)) (WorthR.wide (IsR.mk P17.out D17.out).worth (k := 13) (by omega)) (by omega) (by omega)).mono ?_)
  rintro e wn ⟨v1, rfl, x1, hb⟩
  obtain ⟨g18, A18, n18, c18, B18, m18, d18, rfl, p1, q1⟩ := x1
  refine ⟨_, rfl, hb, ?_⟩
  replace EY := hid (EY.out.trans hb)
  replace P15 := hid (P15.out.up hb)
  replace D15 := hid (D15.out.up hb)
  have P18 := hid p1
  have D18 := hid q1
  clear hb p1 q1
  simp only [Act.put, pA, pB, pC]
  refine WE.call (d := some 83) rfl rfl (by rfl) (by go_simp) ((fSame_r (WorthR.wide (IsR.mk P15.out D15.out).worth (k := 31) (by omega)) (WorthR.wide (IsR.mk P18.out D18.out).worth (k := 31) (by omega)) (by omega) (by omega) (b := true) (decide_eq_true (M.add_times x y u))).mono ?_)
  rintro e wn ⟨rfl, hb⟩
  refine ⟨_, rfl, hb, ?_⟩
  replace EY := hid (EY.out.trans hb)
  clear hb
  simp only [Act.put, pA, pB, pC]
  refine WE.pure (d := some 84) rfl rfl (by rfl) (v := (.bool false)) (fun w' hk => by go_simp) ?_
  simp only [Act.put, pA, pB, pC]
  refine WE.pure (d := some 85) rfl rfl (by rfl) (v := (.bool false)) (fun w' hk => by go_simp) ?_
  simp only [Act.put, pA, pB, pC]
  refine WE.pure (d := some 86) rfl rfl (by rfl) (v := (.bool false)) (fun w' hk => by go_simp) ?_
  simp only [Act.put, pA, pB, pC]
  refine WE.pure (d := some 87) rfl rfl (by rfl) (v := (.agg #[.bool ga, .slice Aa na ca, .slice Ba ma da])) (fun w' hk => ?_) ?_
  · obtain ⟨ce0, ce1, ce2⟩ := ((BX0.out.up EY.out).up hk).c3; go_simp
  simp only [Act.put, pA, pB, pC]
  refine WE.pure (d := some 88) rfl rfl (by rfl) (v := (.agg #[.bool ga, .slice Aa na ca, .slice Ba ma da])) (fun w' hk => ?_) ?_
  · obtain ⟨ce0, ce1, ce2⟩ := ((BX0.out.up EY.out).up hk).c3; go_simp
  simp only [Act.put, pA, pB, pC]
  refine WE.pure (d := some 91) rfl rfl (by rfl) (v := (.agg #[.bool false, .slice none 0 0])) (fun w' hk => by go_simp) ?_
  simp only [Act.put, pA, pB, pC]
  refine WE.call (d := some 89) rfl rfl (by rfl) (by go_simp) ((fNeg_r (WorthR.wide (Ra.out.up EY.out) (k := 4) (by omega)) (by omega) (by omega)).mono ?_)
  rintro e wn ⟨v1, rfl, x1, hb⟩
  obtain ⟨g19, A19, n19, c19, B19, m19, d19, rfl, p1, q1⟩ := x1
  refine ⟨_, rfl, hb, ?_⟩
  replace EY := hid (EY.out.trans hb)
  have P19 := hid p1
  have D19 := hid q1
  clear hb p1 q1
  simp only [Act.put, pA, pB, pC]
  refine WE.call (d := some 90) rfl rfl (by rfl) (by go_simp) ((fAdd_r (WorthR.wide (Ra.out.up EY.out) (k := 4) (by omega)) (WorthR.wide (IsR.mk P19.out D19.out).worth (k := 4) (by omega)) (by omega) (by omega)).mono ?_)
  rintro e wn ⟨v1, rfl, x1, hb⟩
  obtain ⟨g20, A20, n20, c20, B20, m20, d20, rfl, p1, q1⟩ := x1
  refine ⟨_, rfl, hb, ?_⟩
  replace EY := hid (EY.out.trans hb)
  have P20 := hid p1
  have D20 := hid q1
  clear hb p1 q1
  simp only [Act.put, pA, pB, pC]
  refine WE.call (d := some 92) rfl rfl (by rfl) (by go_simp) ((fInt_r (Worth.wide IsZ.nought.worth (k := 3) (by omega)) (by omega) (by omega)).mono ?_)
  rintro e wn ⟨v1, rfl, x1, hb⟩
  obtain ⟨g21, A21, n21, c21, B21, m21, d21, rfl, p1, q1⟩ := x1
  refine ⟨_, rfl, hb, ?_⟩
  replace EY := hid (EY.out.trans hb)
  replace P20 := hid (P20.out.up hb)
  replace D20 := hid (D20.out.up hb)
  have P21 := hid p1
  have D21 := hid q1
  clear hb p1 q1
  simp only [Act.put, pA, pB, pC]
  refine WE.call (d := some 93) rfl rfl (by rfl) (by go_simp) ((fSame_r (WorthR.wide (IsR.mk P20.out D20.out).worth (k := 13) (by omega)) (WorthR.wide (IsR.mk P21.out D21.out).worth (k := 13) (by omega)) (by omega) (by omega) (b := true) (decide_eq_true (M.add_neg_self x))).mono ?_)
  rintro e wn ⟨rfl, hb⟩
  refine ⟨_, rfl, hb, ?_⟩
  replace EY := hid (EY.out.trans hb)
  clear hb
  simp only [Act.put, pA, pB, pC]
  as_aux_lemma =>
  refine WE.pure (d := some 94) rfl rfl (by rfl) (v := (.bool false)) (fun w' hk => by go_simp) ?_
  simp only [Act.put, pA, pB, pC]
  refine WE.pure (d := some 95) rfl rfl (by rfl) (v := (.bool false)) (fun w' hk => by go_simp) ?_
  simp only [Act.put, pA, pB, pC]
  refine WE.done ?_
  go_upto_region 8 with (fail)
  refine wp_region_T [(0, 0), (1, 0), (2, 1), (3, 0), (4, 0), (5, 0), (6, 1), (7, 4), (8, 0)] (by kernel_rfl) fun wd hb => ?_
  replace EY := hid (EY.out.trans hb)
  clear hb
  refine WE.pure (d := some 97) rfl rfl (by rfl) (v := (.agg #[.bool ga, .slice Aa na ca, .slice Ba ma da])) (fun w' hk => ?_) ?_
  · obtain ⟨ce0, ce1, ce2⟩ := ((BX0.out.up EY.out).up hk).c3; go_simp
  simp only [Act.put, pA, pB, pC]
  refine WE.pure (d := some 98) rfl rfl (by rfl) (v := (.agg #[.bool gb, .slice Ab nb cb, .slice Bb mb db])) (fun w' hk => ?_) ?_
  · obtain ⟨ce0, ce1, ce2⟩ := ((BX1.out.up EY.out).up hk).c3; go_simp
  simp only [Act.put, pA, pB, pC]
  refine WE.call (d := some 99) rfl rfl (by rfl) (by go_simp) ((fDiv_zero (WorthR.wide (Ra.out.up EY.out) (k := 4) (by omega)) (WorthR.wide (Rb.out.up EY.out) (k := 4) (by omega)) (by omega) (by omega) (HY0.out)).mono ?_)
  rintro e wn ⟨v1, rfl, x1, hb⟩
  obtain ⟨g22, A22, n22, c22, B22, m22, d22, rfl, p1, q1⟩ := x1
  refine ⟨_, rfl, hb, ?_⟩
  replace EY := hid (EY.out.trans hb)
  clear hb p1 q1
  simp only [Act.put, pA, pB, pC]
  refine WE.pure (d := some 96) rfl rfl (by rfl) (v := (.tuple #[(.agg #[.bool g22, .slice A22 n22 c22, .slice B22 m22 d22]), (.int .i64 12)])) (fun w' hk => by go_simp) ?_
  simp only [Act.put, pA, pB, pC]
  refine WE.pure (d := some 100) rfl rfl (by rfl) (v := (.agg #[.bool g22, .slice A22 n22 c22, .slice B22 m22 d22])) (fun w' hk => by go_simp) ?_
  simp only [Act.put, pA, pB, pC]
  refine WE.pure (d := some 101) rfl rfl (by rfl) (v := (.int .i64 12)) (fun w' hk => by go_simp) ?_
  simp only [Act.put, pA, pB, pC]
  refine WE.new (d := some 8) (cs := #[.bool false, .slice none 0 0, .slice none 0 0]) (t := 26) (v := fun g => (.pointer (some ⟨g, 0, none⟩))) rfl rfl (by rfl) (fun w => by go_simp) fun gV8 wv hx0 hbox hge => ?_
  have HNV8BX0 := hid (show gV8 ≠ (W.heap.size) by have := (BX0.out.up EY.out).lt; omega)
  have HNV8BX1 := hid (show gV8 ≠ (W.heap.size + 1) by have := (BX1.out.up EY.out).lt; omega)
  have HNV8BX2 := hid (show gV8 ≠ (W.heap.size + 2) by have := (BX2.out.up EY.out).lt; omega)
  have HNV8V7 := hid (show gV8 ≠ gV7 by have := (V7.out.up EY.out).lt; omega)
  have HGV8 := hid (show W.heap.size ≤ gV8 by have := (E.out.trans EY.out).size; omega)
  replace EY := hid (EY.out.trans hx0)
  have V8 : Hid (Box wv gV8 #[.bool false, .slice none 0 0, .slice none 0 0] 26) := hid hbox
  clear hx0 hbox hge
  simp only [Act.put, pA, pB, pC]
  refine WE.store3 (g := gV8) (x := .bool g22) (y := .slice A22 n22 c22) (z := .slice B22 m22 d22) (t := 26) rfl rfl (by rfl) (fun w hb => ?_) V8.out (by rfl) fun ws hk hs => ?_
  · obtain ⟨ce0, ce1, ce2⟩ := hb.c3; obtain ⟨f0, f1, f2⟩ := hb.f3; go_simp
  intro hbx
  replace E := hid ((E.out.trans EY.out).keptG hk HGV8.out)
  replace BX0 := hid ((BX0.out.up EY.out).kept hk (by simpa using HNV8BX0.out.symm))
  replace BX1 := hid ((BX1.out.up EY.out).kept hk (by simpa using HNV8BX1.out.symm))
  replace BX2 := hid ((BX2.out.up EY.out).kept hk (by simpa using HNV8BX2.out.symm))
  replace V7 := hid ((V7.out.up EY.out).kept hk (by simpa using HNV8V7.out.symm))
  replace V8 := hid hbx
  replace Ra := hid ((Ra.out.up EY.out).kz hs)
  replace Rb := hid ((Rb.out.up EY.out).kz hs)
  clear hk hs hbx
  replace EY := hid (Ext.refl ws)
  refine WE.pure (d := some 9) rfl rfl (by rfl) (v := (.int .i64 12)) (fun w' hk => by go_simp) ?_
  simp only [Act.put, pA, pB, pC]
  refine WE.done ?_
  go_upto_region 9 with (fail)
  refine wp_region_E [(0, 0), (1, 0), (2, 0), (3, 0), (4, 0), (6, 0), (5, 1), (7, 1), (8, 0), (9, 0)] (fun _ => (0, #[])) rfl (by kernel_rfl) (by intro j hj; cases hj) (fun _ _ d _ _ => by cases d <;> exact Iff.rfl) fun wd hb => ?_
  replace EY := hid (EY.out.trans hb)
  clear hb
  refine WE.pure (d := some 102) rfl rfl (by rfl) (v := (.int .i64 12)) (fun w' hk => by go_simp) ?_
  simp only [Act.put, pA, pB, pC]
  as_aux_lemma =>
  refine WE.pure (d := some 103) rfl rfl (by rfl) (v := (.bool false)) (fun w' hk => by go_simp) ?_
  simp only [Act.put, pA, pB, pC]
  refine WE.pure (d := some 104) rfl rfl (by rfl) (v := (.bool false)) (fun w' hk => by go_simp) ?_
  simp only [Act.put, pA, pB, pC]
  refine WE.skip (d := some 105) rfl rfl (by rfl) ?_
  simp only [Act.put, pA, pB, pC]
  refine WE.skip (d := some 106) rfl rfl (by rfl) ?_
  simp only [Act.put, pA, pB, pC]
  refine WE.skip (d := some 108) rfl rfl (by rfl) ?_
  simp only [Act.put, pA, pB, pC]
  refine WE.pass (d := some 107) rfl rfl (by rfl) ?_
  simp only [Act.put, pA, pB, pC]
  refine WE.pass (d := some 109) rfl rfl (by rfl) ?_
  simp only [Act.put, pA, pB, pC]
  refine WE.skip (d := some 110) rfl rfl (by rfl) ?_
  simp only [Act.put, pA, pB, pC]
  refine WE.pure (d := some 111) rfl rfl (by rfl) (v := (.bool false)) (fun w' hk => by go_simp) ?_
  simp only [Act.put, pA, pB, pC]
  refine WE.done ?_
  go_upto_region 11 with (fail)
  refine wp_region_E [(0, 0), (3, 0), (1, 2), (2, 2), (4, 2), (5, 2), (6, 3), (7, 3), (8, 4), (9, 4)] (fun _ => (26, #[.bool false, .slice none 0 0, .slice none 0 0])) rfl (by kernel_rfl) (by intro j hj; simp [pend] at hj; rcases hj with rfl | rfl <;> exact ⟨_, rfl, rfl, rfl, fun w => by go_simp⟩) (fun _ _ d _ _ => by cases d <;> exact Iff.rfl) fun wd hb => ?_
  replace EY := hid (EY.out.trans hb)
  clear hb
  have HL1BX0 := hid (BX0.out.up EY.out).lt
  have HL1BX1 := hid (BX1.out.up EY.out).lt
  have HL1BX2 := hid (BX2.out.up EY.out).lt
  have HL1V7 := hid (V7.out.up EY.out).lt
  have HL1V8 := hid (V8.out.up EY.out).lt
  have HW1 := hid (show W.heap.size ≤ wd.heap.size from (E.out.trans EY.out).size)
  refine WE.pure (d := some 112) rfl rfl (by rfl) (v := (.agg #[.bool ga, .slice Aa na ca, .slice Ba ma da])) (fun w' hk => ?_) ?_
  · obtain ⟨ce0, ce1, ce2⟩ := ((BX0.out.up EY.out).up hk).c3; go_simp
  simp only [Act.put, pA, pB, pC]
  refine WE.pure (d := some 115) rfl rfl (by rfl) (v := (.agg #[.bool ga, .slice Aa na ca, .slice Ba ma da])) (fun w' hk => ?_) ?_
  · obtain ⟨ce0, ce1, ce2⟩ := ((BX0.out.up EY.out).up hk).c3; go_simp
  simp only [Act.put, pA, pB, pC]
  refine WE.callR (d := some 113) rfl rfl (by rfl) (f := 31) (args := #[(.agg #[.bool ga, .slice Aa na ca, .slice Ba ma da])]) (fun w => by go_simp) (fun wx hx0 => ?_)
  replace EY := hid (EY.out.trans hx0)
  clear hx0
  refine (fFloor_r (WorthR.wide (Ra.out.up EY.out) (k := 4) (by omega)) (by omega) (by omega)).mono ?_
  rintro e wn ⟨v1, rfl, x1, hb⟩
  obtain ⟨g23, A23, n23, c23, rfl⟩ := x1.shape
  refine ⟨_, rfl, hb, ?_⟩
  replace EY := hid (EY.out.trans hb)
  have Q23 := hid x1
  clear hb x1
  simp only [Act.put, pA, pB, pC]
  as_aux_lemma =>
  refine WE.callR (d := some 114) rfl rfl (by rfl) (f := 17) (args := #[(.agg #[.bool g23, .slice A23 n23 c23])]) (fun w => by go_simp) (fun wx hx0 => ?_)
  replace EY := hid (EY.out.trans hx0)
  replace Q23 := hid (Q23.out.up hx0)
  clear hx0
  refine (fInt_r (Worth.wide Q23.out.worth (k := 5) (by omega)) (by omega) (by omega)).mono ?_
  rintro e wn ⟨v1, rfl, x1, hb⟩
  obtain ⟨g24, A24, n24, c24, B24, m24, d24, rfl, p1, q1⟩ := x1
  refine ⟨_, rfl, hb, ?_⟩
  replace EY := hid (EY.out.trans hb)
  have P24 := hid p1
  have D24 := hid q1
  clear hb p1 q1
  simp only [Act.put, pA, pB, pC]
  refine WE.callR (d := some 116) rfl rfl (by rfl) (f := 33) (args := #[(.agg #[.bool ga, .slice Aa na ca, .slice Ba ma da])]) (fun w => by go_simp) (fun wx hx0 => ?_)
  replace EY := hid (EY.out.trans hx0)
  replace P24 := hid (P24.out.up hx0)
  replace D24 := hid (D24.out.up hx0)
  clear hx0
  refine (fCeil_r (WorthR.wide (Ra.out.up EY.out) (k := 4) (by omega)) (by omega) (by omega)).mono ?_
  rintro e wn ⟨v1, rfl, x1, hb⟩
  obtain ⟨g25, A25, n25, c25, rfl⟩ := x1.shape
  refine ⟨_, rfl, hb, ?_⟩
  replace EY := hid (EY.out.trans hb)
  replace P24 := hid (P24.out.up hb)
  replace D24 := hid (D24.out.up hb)
  have Q25 := hid x1
  clear hb x1
  simp only [Act.put, pA, pB, pC]
  refine WE.callR (d := some 117) rfl rfl (by rfl) (f := 17) (args := #[(.agg #[.bool g25, .slice A25 n25 c25])]) (fun w => by go_simp) (fun wx hx0 => ?_)
  replace EY := hid (EY.out.trans hx0)
  replace P24 := hid (P24.out.up hx0)
  replace D24 := hid (D24.out.up hx0)
  replace Q25 := hid (Q25.out.up hx0)
  clear hx0
  refine (fInt_r (Worth.wide Q25.out.worth (k := 5) (by omega)) (by omega) (by omega)).mono ?_
  rintro e wn ⟨v1, rfl, x1, hb⟩
  obtain ⟨g26, A26, n26, c26, B26, m26, d26, rfl, p1, q1⟩ := x1
  refine ⟨_, rfl, hb, ?_⟩
  replace EY := hid (EY.out.trans hb)
  replace P24 := hid (P24.out.up hb)
  replace D24 := hid (D24.out.up hb)
  have P26 := hid p1
  have D26 := hid q1
  clear hb p1 q1
  simp only [Act.put, pA, pB, pC]
  refine WE.var (d := some 10) rfl fun gV10 wv hx0 hbox hge hng => ?_
  have HNV10BX0 := hid (show gV10 ≠ (W.heap.size) by have := HL1BX0.out; omega)
  have HNV10BX1 := hid (show gV10 ≠ (W.heap.size + 1) by have := HL1BX1.out; omega)
  have HGV10 := hid (show W.heap.size ≤ gV10 by have := HW1.out; omega)
  replace EY := hid (EY.out.trans hx0)
  replace P24 := hid (P24.out.up hx0)
  replace D24 := hid (D24.out.up hx0)
  replace P26 := hid (P26.out.up hx0)
  replace D26 := hid (D26.out.up hx0)
  have V10 : Hid (Box wv gV10 #[.bool false, .slice none 0 0, .slice none 0 0] 26) := hid hbox
  clear hx0 hbox hge hng
  simp only [Act.put, pA, pB, pC]
  refine WE.var (d := some 11) rfl fun gV11 wv hx0 hbox hge hng => ?_
  have HNV11BX0 := hid (show gV11 ≠ (W.heap.size) by have := HL1BX0.out; omega)
  have HNV11BX1 := hid (show gV11 ≠ (W.heap.size + 1) by have := HL1BX1.out; omega)
  have HNV11V10 := hid (show gV11 ≠ gV10 by intro e; exact hng (by simp [e]))
  have HGV11 := hid (show W.heap.size ≤ gV11 by have := HW1.out; omega)
  replace EY := hid (EY.out.trans hx0)
  replace V10 := hid (V10.out.up hx0)
  replace P24 := hid (P24.out.up hx0)
  replace D24 := hid (D24.out.up hx0)
  replace P26 := hid (P26.out.up hx0)
  replace D26 := hid (D26.out.up hx0)
  have V11 : Hid (Box wv gV11 #[.bool false, .slice none 0 0, .slice none 0 0] 26) := hid hbox
  clear hx0 hbox hge hng
  simp only [Act.put, pA, pB, pC]
  refine WE.store3 (g := gV10) (x := .bool g24) (y := .slice A24 n24 c24) (z := .slice B24 m24 d24) (t := 26) rfl rfl (by rfl) (fun w hb => ?_) V10.out (by rfl) fun ws hk hs => ?_
  · obtain ⟨ce0, ce1, ce2⟩ := hb.c3; obtain ⟨f0, f1, f2⟩ := hb.f3; go_simp
  intro hbx
  replace E := hid ((E.out.trans EY.out).keptG hk HGV10.out)
  replace BX0 := hid ((BX0.out.up EY.out).kept hk (by simpa using HNV10BX0.out.symm))
  replace BX1 := hid ((BX1.out.up EY.out).kept hk (by simpa using HNV10BX1.out.symm))
  replace V10 := hid hbx
  replace V11 := hid (V11.out.kept hk (by simpa using HNV11V10.out))
  replace Ra := hid ((Ra.out.up EY.out).kz hs)
  replace Rb := hid ((Rb.out.up EY.out).kz hs)
  replace P24 := hid (P24.out.kz hs)
  replace D24 := hid (D24.out.kz hs)
  replace P26 := hid (P26.out.kz hs)
  replace D26 := hid (D26.out.kz hs)
  clear hk hs hbx
  replace EY := hid (Ext.refl ws)
  refine WE.store3 (g := gV11) (x := .bool g26) (y := .slice A26 n26 c26) (z := .slice B26 m26 d26) (t := 26) rfl rfl (by rfl) (fun w hb => ?_) (V11.out.up EY.out) (by rfl) fun ws hk hs => ?_
  · obtain ⟨ce0, ce1, ce2⟩ := hb.c3; obtain ⟨f0, f1, f2⟩ := hb.f3; go_simp
  intro hbx
  replace E := hid ((E.out.trans EY.out).keptG hk HGV11.out)
  replace BX0 := hid ((BX0.out.up EY.out).kept hk (by simpa using HNV11BX0.out.symm))
  replace BX1 := hid ((BX1.out.up EY.out).kept hk (by simpa using HNV11BX1.out.symm))
  replace V10 := hid ((V10.out.up EY.out).kept hk (by simpa using HNV11V10.out.symm))
  replace V11 := hid hbx
  replace Ra := hid ((Ra.out.up EY.out).kz hs)
  replace Rb := hid ((Rb.out.up EY.out).kz hs)
  replace P24 := hid ((P24.out.up EY.out).kz hs)
  replace D24 := hid ((D24.out.up EY.out).kz hs)
  replace P26 := hid ((P26.out.up EY.out).kz hs)
  replace D26 := hid ((D26.out.up EY.out).kz hs)
  clear hk hs hbx
  replace EY := hid (Ext.refl ws)
  refine WE.done ?_
  go_upto_region 12 with (fail)
  refine wp_region_T [(0, 1), (1, 1), (2, 1), (3, 4)] (by kernel_rfl) fun wd hb => ?_
  replace EY := hid (EY.out.trans hb)
  clear hb
  refine WE.call (d := some 118) rfl rfl (by rfl) (by go_simp) ((rOf_z (n := (1)) (by decide) (by decide) _).mono ?_)
  rintro e wn ⟨v1, rfl, x1, hb⟩
  obtain ⟨g27, A27, n27, c27, rfl⟩ := x1.shape
  refine ⟨_, rfl, hb, ?_⟩
  replace EY := hid (EY.out.trans hb)
  have Q27 := hid x1
  clear hb x1
  simp only [Act.put, pA, pB, pC]
  refine WE.call (d := some 119) rfl rfl (by rfl) (by go_simp) ((fInt_r (Worth.wide Q27.out.worth (k := 3) (by omega)) (by omega) (by omega)).mono ?_)
  rintro e wn ⟨v1, rfl, x1, hb⟩
  obtain ⟨g28, A28, n28, c28, B28, m28, d28, rfl, p1, q1⟩ := x1
  refine ⟨_, rfl, hb, ?_⟩
  replace EY := hid (EY.out.trans hb)
  have P28 := hid p1
  have D28 := hid q1
  clear hb p1 q1
  simp only [Act.put, pA, pB, pC]
  refine WE.new (d := some 12) (cs := #[.bool false, .slice none 0 0, .slice none 0 0]) (t := 26) (v := fun g => (.pointer (some ⟨g, 0, none⟩))) rfl rfl (by rfl) (fun w => by go_simp) fun gV12 wv hx0 hbox hge => ?_
  have HNV12BX0 := hid (show gV12 ≠ (W.heap.size) by have := (BX0.out.up EY.out).lt; omega)
  have HNV12BX1 := hid (show gV12 ≠ (W.heap.size + 1) by have := (BX1.out.up EY.out).lt; omega)
  have HNV12V10 := hid (show gV12 ≠ gV10 by have := (V10.out.up EY.out).lt; omega)
  have HNV12V11 := hid (show gV12 ≠ gV11 by have := (V11.out.up EY.out).lt; omega)
  have HGV12 := hid (show W.heap.size ≤ gV12 by have := (E.out.trans EY.out).size; omega)
  replace EY := hid (EY.out.trans hx0)
  replace P28 := hid (P28.out.up hx0)
  replace D28 := hid (D28.out.up hx0)
  have V12 : Hid (Box wv gV12 #[.bool false, .slice none 0 0, .slice none 0 0] 26) := hid hbox
  clear hx0 hbox hge
  simp only [Act.put, pA, pB, pC]
  refine WE.store3 (g := gV12) (x := .bool g28) (y := .slice A28 n28 c28) (z := .slice B28 m28 d28) (t := 26) rfl rfl (by rfl) (fun w hb => ?_) V12.out (by rfl) fun ws hk hs => ?_
  · obtain ⟨ce0, ce1, ce2⟩ := hb.c3; obtain ⟨f0, f1, f2⟩ := hb.f3; go_simp
  intro hbx
  replace E := hid ((E.out.trans EY.out).keptG hk HGV12.out)
  replace BX0 := hid ((BX0.out.up EY.out).kept hk (by simpa using HNV12BX0.out.symm))
  replace BX1 := hid ((BX1.out.up EY.out).kept hk (by simpa using HNV12BX1.out.symm))
  replace V10 := hid ((V10.out.up EY.out).kept hk (by simpa using HNV12V10.out.symm))
  replace V11 := hid ((V11.out.up EY.out).kept hk (by simpa using HNV12V11.out.symm))
  replace V12 := hid hbx
  replace Ra := hid ((Ra.out.up EY.out).kz hs)
  replace Rb := hid ((Rb.out.up EY.out).kz hs)
  replace P24 := hid ((P24.out.up EY.out).kz hs)
  replace D24 := hid ((D24.out.up EY.out).kz hs)
  replace P26 := hid ((P26.out.up EY.out).kz hs)
  replace D26 := hid ((D26.out.up EY.out).kz hs)
  replace P28 := hid (P28.out.kz hs)
  replace D28 := hid (D28.out.kz hs)
  clear hk hs hbx
  replace EY := hid (Ext.refl ws)
  refine WE.done ?_
  go_upto_region 13 with (fail)
  refine wp_region_E [(0, 0), (1, 0), (2, 1), (3, 0), (4, 0), (5, 0), (6, 0), (8, 0), (7, 1), (9, 1), (10, 0), (11, 0), (12, 0), (13, 0), (14, 0), (15, 1), (16, 0), (17, 0), (18, 0), (19, 0), (20, 0), (22, 0), (21, 1), (23, 1), (24, 0), (25, 0), (26, 0), (27, 0), (28, 0), (30, 0), (29, 1), (31, 1), (32, 0), (33, 0), (34, 0), (35, 0), (36, 0), (39, 0), (40, 0), (42, 0), (37, 1), (38, 0), (41, 1), (43, 1), (44, 1), (45, 0), (46, 0), (47, 0), (48, 0)] (fun _ => (0, #[])) rfl (by kernel_rfl) (by intro j hj; cases hj) (fun _ _ d _ _ => by cases d <;> exact Iff.rfl) fun wd hb => ?_
  replace EY := hid (EY.out.trans hb)
  clear hb
  refine WE.pure (d := some 120) rfl rfl (by rfl) (v := (.agg #[.bool g24, .slice A24 n24 c24, .slice B24 m24 d24])) (fun w' hk => ?_) ?_
  · obtain ⟨ce0, ce1, ce2⟩ := ((V10.out.up EY.out).up hk).c3; go_simp
  simp only [Act.put, pA, pB, pC]
  as_aux_lemma =>
  refine WE.pure (d := some 121) rfl rfl (by rfl) (v := (.agg #[.bool ga, .slice Aa na ca, .slice Ba ma da])) (fun w' hk => ?_) ?_
  · obtain ⟨ce0, ce1, ce2⟩ := ((BX0.out.up EY.out).up hk).c3; go_simp
  simp only [Act.put, pA, pB, pC]
  refine WE.call (d := some 122) rfl rfl (by rfl) (by go_simp) ((fCmp_r (WorthR.wide (IsR.mk (P24.out.up EY.out) (D24.out.up EY.out)).worth (k := 6) (by omega)) (WorthR.wide (Ra.out.up EY.out) (k := 6) (by omega)) (by omega) (by omega) (z := z1) (HZ1.out)).mono ?_)
  rintro e wn ⟨rfl, hb⟩
  refine ⟨_, rfl, hb, ?_⟩
  replace EY := hid (EY.out.trans hb)
  clear hb
  simp only [Act.put, pA, pB, pC]
  clear P12
  clear D12
  clear P13
  clear D13
  clear P14
  clear D14
  clear P15
  clear D15
  clear P16
  clear D16
  clear P17
  clear D17
  clear P18
  clear D18
  clear P19
  clear D19
  clear P20
  clear D20
  clear P21
  clear D21
  clear Q23
  clear Q25
  clear Q27
  refine WE.pure (d := some 123) rfl rfl (by rfl) (v := (.bool true)) (fun w' hk => by go_simp) ?_
  simp only [Act.put, pA, pB, pC]
  refine WE.pure (d := some 124) rfl rfl (by rfl) (v := (.bool true)) (fun w' hk => by go_simp) ?_
  simp only [Act.put, pA, pB, pC]
  refine WE.pure (d := some 125) rfl rfl (by rfl) (v := (.agg #[.bool g24, .slice A24 n24 c24, .slice B24 m24 d24])) (fun w' hk => ?_) ?_
  · obtain ⟨ce0, ce1, ce2⟩ := ((V10.out.up EY.out).up hk).c3; go_simp
  simp only [Act.put, pA, pB, pC]
  refine WE.pure (d := some 126) rfl rfl (by rfl) (v := (.agg #[.bool g28, .slice A28 n28 c28, .slice B28 m28 d28])) (fun w' hk => ?_) ?_
  · obtain ⟨ce0, ce1, ce2⟩ := ((V12.out.up EY.out).up hk).c3; go_simp
  simp only [Act.put, pA, pB, pC]
  refine WE.pure (d := some 128) rfl rfl (by rfl) (v := (.agg #[.bool ga, .slice Aa na ca, .slice Ba ma da])) (fun w' hk => ?_) ?_
  · obtain ⟨ce0, ce1, ce2⟩ := ((BX0.out.up EY.out).up hk).c3; go_simp
  simp only [Act.put, pA, pB, pC]
  refine WE.call (d := some 127) rfl rfl (by rfl) (by go_simp) ((fAdd_r (WorthR.wide (IsR.mk (P24.out.up EY.out) (D24.out.up EY.out)).worth (k := 6) (by omega)) (WorthR.wide (IsR.mk (P28.out.up EY.out) (D28.out.up EY.out)).worth (k := 6) (by omega)) (by omega) (by omega)).mono ?_)
  rintro e wn ⟨v1, rfl, x1, hb⟩
  obtain ⟨g29, A29, n29, c29, B29, m29, d29, rfl, p1, q1⟩ := x1
  refine ⟨_, rfl, hb, ?_⟩
  replace EY := hid (EY.out.trans hb)
  have P29 := hid p1
  have D29 := hid q1
  clear hb p1 q1
  simp only [Act.put, pA, pB, pC]
  refine WE.call (d := some 129) rfl rfl (by rfl) (by go_simp) ((fCmp_r (WorthR.wide (IsR.mk P29.out D29.out).worth (k := 17) (by omega)) (WorthR.wide (Ra.out.up EY.out) (k := 17) (by omega)) (by omega) (by omega) (z := 1) (M.rcmp_gt (M.floor_lt1 x))).mono ?_)
  rintro e wn ⟨rfl, hb⟩
  refine ⟨_, rfl, hb, ?_⟩
  replace EY := hid (EY.out.trans hb)
  clear hb
  simp only [Act.put, pA, pB, pC]
  clear P29
  clear D29
  refine WE.pure (d := some 130) rfl rfl (by rfl) (v := (.bool true)) (fun w' hk => by go_simp) ?_
  simp only [Act.put, pA, pB, pC]
  refine WE.pure (d := some 131) rfl rfl (by rfl) (v := (.bool true)) (fun w' hk => by go_simp) ?_
  simp only [Act.put, pA, pB, pC]
  refine WE.pure (d := some 132) rfl rfl (by rfl) (v := (.bool true)) (fun w' hk => by go_simp) ?_
  simp only [Act.put, pA, pB, pC]
  as_aux_lemma =>
  refine WE.pure (d := some 133) rfl rfl (by rfl) (v := (.agg #[.bool g26, .slice A26 n26 c26, .slice B26 m26 d26])) (fun w' hk => ?_) ?_
  · obtain ⟨ce0, ce1, ce2⟩ := ((V11.out.up EY.out).up hk).c3; go_simp
  simp only [Act.put, pA, pB, pC]
  refine WE.pure (d := some 134) rfl rfl (by rfl) (v := (.agg #[.bool ga, .slice Aa na ca, .slice Ba ma da])) (fun w' hk => ?_) ?_
  · obtain ⟨ce0, ce1, ce2⟩ := ((BX0.out.up EY.out).up hk).c3; go_simp
  simp only [Act.put, pA, pB, pC]
  refine WE.call (d := some 135) rfl rfl (by rfl) (by go_simp) ((fCmp_r (WorthR.wide (IsR.mk (P26.out.up EY.out) (D26.out.up EY.out)).worth (k := 6) (by omega)) (WorthR.wide (Ra.out.up EY.out) (k := 6) (by omega)) (by omega) (by omega) (z := z2) (HZ2.out)).mono ?_)
  rintro e wn ⟨rfl, hb⟩
  refine ⟨_, rfl, hb, ?_⟩
  replace EY := hid (EY.out.trans hb)
  clear hb
  simp only [Act.put, pA, pB, pC]
  refine WE.pure (d := some 136) rfl rfl (by rfl) (v := (.bool true)) (fun w' hk => by go_simp) ?_
  simp only [Act.put, pA, pB, pC]
  refine WE.pure (d := some 137) rfl rfl (by rfl) (v := (.bool true)) (fun w' hk => by go_simp) ?_
  simp only [Act.put, pA, pB, pC]
  refine WE.pure (d := some 138) rfl rfl (by rfl) (v := (.bool true)) (fun w' hk => by go_simp) ?_
  simp only [Act.put, pA, pB, pC]
  refine WE.pure (d := some 139) rfl rfl (by rfl) (v := (.agg #[.bool g26, .slice A26 n26 c26, .slice B26 m26 d26])) (fun w' hk => ?_) ?_
  · obtain ⟨ce0, ce1, ce2⟩ := ((V11.out.up EY.out).up hk).c3; go_simp
  simp only [Act.put, pA, pB, pC]
  refine WE.pure (d := some 140) rfl rfl (by rfl) (v := (.agg #[.bool g28, .slice A28 n28 c28, .slice B28 m28 d28])) (fun w' hk => ?_) ?_
  · obtain ⟨ce0, ce1, ce2⟩ := ((V12.out.up EY.out).up hk).c3; go_simp
  simp only [Act.put, pA, pB, pC]
  refine WE.pure (d := some 142) rfl rfl (by rfl) (v := (.agg #[.bool ga, .slice Aa na ca, .slice Ba ma da])) (fun w' hk => ?_) ?_
  · obtain ⟨ce0, ce1, ce2⟩ := ((BX0.out.up EY.out).up hk).c3; go_simp
  simp only [Act.put, pA, pB, pC]
  refine WE.call (d := some 141) rfl rfl (by rfl) (by go_simp) ((fSub_r (WorthR.wide (IsR.mk (P26.out.up EY.out) (D26.out.up EY.out)).worth (k := 6) (by omega)) (WorthR.wide (IsR.mk (P28.out.up EY.out) (D28.out.up EY.out)).worth (k := 6) (by omega)) (by omega) (by omega)).mono ?_)
  rintro e wn ⟨v1, rfl, x1, hb⟩
  obtain ⟨g30, A30, n30, c30, B30, m30, d30, rfl, p1, q1⟩ := x1
  refine ⟨_, rfl, hb, ?_⟩
  replace EY := hid (EY.out.trans hb)
  have P30 := hid p1
  have D30 := hid q1
  clear hb p1 q1
  simp only [Act.put, pA, pB, pC]
  refine WE.call (d := some 143) rfl rfl (by rfl) (by go_simp) ((fCmp_r (WorthR.wide (IsR.mk P30.out D30.out).worth (k := 17) (by omega)) (WorthR.wide (Ra.out.up EY.out) (k := 17) (by omega)) (by omega) (by omega) (z := (-1)) (M.rcmp_lt (M.ceil_lt1 x))).mono ?_)
  rintro e wn ⟨rfl, hb⟩
  refine ⟨_, rfl, hb, ?_⟩
  replace EY := hid (EY.out.trans hb)
  clear hb
  simp only [Act.put, pA, pB, pC]
  clear P30
  clear D30
  refine WE.pure (d := some 144) rfl rfl (by rfl) (v := (.bool true)) (fun w' hk => by go_simp) ?_
  simp only [Act.put, pA, pB, pC]
  as_aux_lemma =>
  refine WE.pure (d := some 145) rfl rfl (by rfl) (v := (.bool true)) (fun w' hk => by go_simp) ?_
  simp only [Act.put, pA, pB, pC]
  refine WE.pure (d := some 146) rfl rfl (by rfl) (v := (.bool true)) (fun w' hk => by go_simp) ?_
  simp only [Act.put, pA, pB, pC]
  refine WE.pure (d := some 147) rfl rfl (by rfl) (v := (.agg #[.bool g24, .slice A24 n24 c24, .slice B24 m24 d24])) (fun w' hk => ?_) ?_
  · obtain ⟨ce0, ce1, ce2⟩ := ((V10.out.up EY.out).up hk).c3; go_simp
  simp only [Act.put, pA, pB, pC]
  refine WE.pure (d := some 148) rfl rfl (by rfl) (v := (.agg #[.bool g26, .slice A26 n26 c26, .slice B26 m26 d26])) (fun w' hk => ?_) ?_
  · obtain ⟨ce0, ce1, ce2⟩ := ((V11.out.up EY.out).up hk).c3; go_simp
  simp only [Act.put, pA, pB, pC]
  refine WE.pure (d := some 150) rfl rfl (by rfl) (v := (.agg #[.bool ga, .slice Aa na ca, .slice Ba ma da])) (fun w' hk => ?_) ?_
  · obtain ⟨ce0, ce1, ce2⟩ := ((BX0.out.up EY.out).up hk).c3; go_simp
  simp only [Act.put, pA, pB, pC]
  refine WE.call (d := some 149) rfl rfl (by rfl) (by go_simp) ((fSame_r (WorthR.wide (IsR.mk (P24.out.up EY.out) (D24.out.up EY.out)).worth (k := 6) (by omega)) (WorthR.wide (IsR.mk (P26.out.up EY.out) (D26.out.up EY.out)).worth (k := 6) (by omega)) (by omega) (by omega) (b := b) (HBE.out)).mono ?_)
  rintro e wn ⟨rfl, hb⟩
  refine ⟨_, rfl, hb, ?_⟩
  replace EY := hid (EY.out.trans hb)
  clear hb
  simp only [Act.put, pA, pB, pC]
  refine WE.call (d := some 151) rfl rfl (by rfl) (by go_simp) ((fWhole_r (WorthR.wide (Ra.out.up EY.out) (k := 4) (by omega)) (by omega) (by omega) (b := b) (HB.out)).mono ?_)
  rintro e wn ⟨rfl, hb⟩
  refine ⟨_, rfl, hb, ?_⟩
  replace EY := hid (EY.out.trans hb)
  clear hb
  simp only [Act.put, pA, pB, pC]
  refine WE.pure (d := some 152) rfl rfl (by rfl) (v := (.bool true)) (fun w' hk => by go_simp) ?_
  simp only [Act.put, pA, pB, pC]
  refine WE.pure (d := some 153) rfl rfl (by rfl) (v := (.bool true)) (fun w' hk => by go_simp) ?_
  simp only [Act.put, pA, pB, pC]
  refine WE.pure (d := some 154) rfl rfl (by rfl) (v := (.bool true)) (fun w' hk => by go_simp) ?_
  simp only [Act.put, pA, pB, pC]
  refine WE.pure (d := some 155) rfl rfl (by rfl) (v := (.agg #[.bool ga, .slice Aa na ca, .slice Ba ma da])) (fun w' hk => ?_) ?_
  · obtain ⟨ce0, ce1, ce2⟩ := ((BX0.out.up EY.out).up hk).c3; go_simp
  simp only [Act.put, pA, pB, pC]
  refine WE.pure (d := some 156) rfl rfl (by rfl) (v := (.agg #[.bool gb, .slice Ab nb cb, .slice Bb mb db])) (fun w' hk => ?_) ?_
  · obtain ⟨ce0, ce1, ce2⟩ := ((BX1.out.up EY.out).up hk).c3; go_simp
  simp only [Act.put, pA, pB, pC]
  as_aux_lemma =>
  refine WE.pure (d := some 159) rfl rfl (by rfl) (v := (.agg #[.bool ga, .slice Aa na ca, .slice Ba ma da])) (fun w' hk => ?_) ?_
  · obtain ⟨ce0, ce1, ce2⟩ := ((BX0.out.up EY.out).up hk).c3; go_simp
  simp only [Act.put, pA, pB, pC]
  refine WE.pure (d := some 160) rfl rfl (by rfl) (v := (.agg #[.bool gb, .slice Ab nb cb, .slice Bb mb db])) (fun w' hk => ?_) ?_
  · obtain ⟨ce0, ce1, ce2⟩ := ((BX1.out.up EY.out).up hk).c3; go_simp
  simp only [Act.put, pA, pB, pC]
  refine WE.pure (d := some 162) rfl rfl (by rfl) (v := (.agg #[.bool false, .slice none 0 0])) (fun w' hk => by go_simp) ?_
  simp only [Act.put, pA, pB, pC]
  refine WE.call (d := some 157) rfl rfl (by rfl) (by go_simp) ((fCmp_r (WorthR.wide (Ra.out.up EY.out) (k := 4) (by omega)) (WorthR.wide (Rb.out.up EY.out) (k := 4) (by omega)) (by omega) (by omega) (z := z) (HZ.out)).mono ?_)
  rintro e wn ⟨rfl, hb⟩
  refine ⟨_, rfl, hb, ?_⟩
  replace EY := hid (EY.out.trans hb)
  clear hb
  simp only [Act.put, pA, pB, pC]
  refine WE.pure (d := some 158) rfl rfl (by rfl) (v := (.bool q)) (fun w' hk => by go_simp) ?_
  simp only [Act.put, pA, pB, pC]
  refine WE.call (d := some 161) rfl rfl (by rfl) (by go_simp) ((fSub_r (WorthR.wide (Ra.out.up EY.out) (k := 4) (by omega)) (WorthR.wide (Rb.out.up EY.out) (k := 4) (by omega)) (by omega) (by omega)).mono ?_)
  rintro e wn ⟨v1, rfl, x1, hb⟩
  obtain ⟨g31, A31, n31, c31, B31, m31, d31, rfl, p1, q1⟩ := x1
  refine ⟨_, rfl, hb, ?_⟩
  replace EY := hid (EY.out.trans hb)
  have P31 := hid p1
  have D31 := hid q1
  clear hb p1 q1
  simp only [Act.put, pA, pB, pC]
  refine WE.call (d := some 163) rfl rfl (by rfl) (by go_simp) ((fInt_r (Worth.wide IsZ.nought.worth (k := 3) (by omega)) (by omega) (by omega)).mono ?_)
  rintro e wn ⟨v1, rfl, x1, hb⟩
  obtain ⟨g32, A32, n32, c32, B32, m32, d32, rfl, p1, q1⟩ := x1
  refine ⟨_, rfl, hb, ?_⟩
  replace EY := hid (EY.out.trans hb)
  replace P31 := hid (P31.out.up hb)
  replace D31 := hid (D31.out.up hb)
  have P32 := hid p1
  have D32 := hid q1
  clear hb p1 q1
  simp only [Act.put, pA, pB, pC]
  refine WE.call (d := some 164) rfl rfl (by rfl) (by go_simp) ((fCmp_r (WorthR.wide (IsR.mk P31.out D31.out).worth (k := 13) (by omega)) (WorthR.wide (IsR.mk P32.out D32.out).worth (k := 13) (by omega)) (by omega) (by omega) (z := z) (by rw [M.sub_zero_cmp]; exact HZ.out)).mono ?_)
  rintro e wn ⟨rfl, hb⟩
  refine ⟨_, rfl, hb, ?_⟩
  replace EY := hid (EY.out.trans hb)
  clear hb
  simp only [Act.put, pA, pB, pC]
  clear P31
  clear D31
  clear P32
  clear D32
  refine WE.pure (d := some 165) rfl rfl (by rfl) (v := (.bool q)) (fun w' hk => by go_simp) ?_
  simp only [Act.put, pA, pB, pC]
  refine WE.pure (d := some 166) rfl rfl (by rfl) (v := (.bool true)) (fun w' hk => by go_simp) ?_
  simp only [Act.put, pA, pB, pC]
  refine WE.pure (d := some 167) rfl rfl (by rfl) (v := (.bool true)) (fun w' hk => by go_simp) ?_
  simp only [Act.put, pA, pB, pC]
  refine WE.pure (d := some 6) rfl rfl (by rfl) (v := (.bool true)) (fun w' hk => by go_simp) ?_
  simp only [Act.put, pA, pB, pC]
  refine WE.done ?_
  repeat go_step
  go_ret
  exact ⟨rfl, (E.out.trans EY.out)⟩

end Go.Proofs.YtkjfeedclaedfaaGreat
