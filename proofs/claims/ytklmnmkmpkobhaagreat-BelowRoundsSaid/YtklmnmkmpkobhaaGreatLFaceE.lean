/-
  Contracts of package lin: Add, Sub, Scale, Const, Var.
-/
import Derived.Test.YtklmnmkmpkobhaaGreatLFacM
namespace Go.Proofs.YtklmnmkmpkobhaaGreat
open Go.RowKit
set_option linter.unusedSimpArgs false
set_option linter.unusedVariables false

set_option maxHeartbeats 4000000 in
theorem addL_l {w : World} {u v : Value} {t s : M.Tm} {κ μ : Int} {W : Nat} (h1 : WorthL w u t κ W) (h2 : WorthL w v s μ W) (hw : W ≤ 50) (hn : t.length ≤ 150) (hm : s.length ≤ 150) :
 Calls Tryz.prog 21 #[u, v] w (GivesL w (M.addT t s) (κ + μ) (W + 1)) := by
 obtain ⟨A1, n1, c1, g1, B1, m1, d1, rfl⟩ := h1.shape
 have R1 := hid h1
 obtain ⟨A2, n2, c2, g2, B2, m2, d2, rfl⟩ := h2.shape
 have R2 := hid h2
 have HW := hid hw
 have HN := hid hn
 have HM := hid hm
 clear hw hn hm
 clear h1 h2
 go_enter Tryz.func21, Tryz.ntmps21
 go_upto_region 1 with (fail)
 obtain ⟨E, BX0, BX1, BX2⟩ := open3 w #[.slice A1 n1 c1, .bool g1, .slice B1 m1 d1] 27 #[.slice A2 n2 c2, .bool g2, .slice B2 m2 d2] 27 #[.slice none 0 0, .bool false, .slice none 0 0] 27
 replace R1 := hid (R1.out.up E.out)
 replace R2 := hid (R2.out.up E.out)
 refine wp_region_D [(0, 0), (2, 0), (1, 1), (3, 1), (4, 1), (5, 1), (6, 4)] fun wd hb => ?_
 replace E := hid (E.out.trans hb)
 replace BX0 := hid (BX0.out.up hb)
 replace BX1 := hid (BX1.out.up hb)
 replace BX2 := hid (BX2.out.up hb)
 replace R1 := hid (R1.out.up hb)
 replace R2 := hid (R2.out.up hb)
 clear hb
 have EY := hid (Ext.refl wd)
 refine WE.qq 5 (.agg #[.slice A1 n1 c1, .bool g1, .slice B1 m1 d1]) rfl (fun w' hk => by obtain ⟨ce0, ce1, ce2⟩ := ((BX0.out.up EY.out).up hk).c3; go_simp) ?_
 refine WE.qq 7 (.agg #[.slice A2 n2 c2, .bool g2, .slice B2 m2 d2]) rfl (fun w' hk => by obtain ⟨ce0, ce1, ce2⟩ := ((BX1.out.up EY.out).up hk).c3; go_simp) ?_
 refine WE.cc 6 ((readL_l (R1.out.up EY.out)).mono ?_)
 rintro e w11 ⟨v1, rfl, x1, hb⟩
 obtain ⟨A11, n11, c11, g11, B11, m11, d11, rfl, t1, k1, o1⟩ := x1
 refine ⟨_, rfl, hb, ?_⟩
 replace EY := hid (EY.out.trans hb)
 have T11 := hid t1
 have Q11 := hid k1
 have O11 := hid o1
 have F11 := hid (Ext.refl w11)
 clear hb t1 k1 o1
 refine WE.cc 8 ((readL_l (R2.out.up EY.out)).mono ?_)
 rintro e w12 ⟨v1, rfl, x1, hb⟩
 obtain ⟨A12, n12, c12, g12, B12, m12, d12, rfl, t1, k1, o1⟩ := x1
 refine ⟨_, rfl, hb, ?_⟩
 replace EY := hid (EY.out.trans hb)
 replace Q11 := hid (Q11.out.up hb)
 replace F11 := hid (F11.out.trans hb)
 have T12 := hid t1
 have Q12 := hid k1
 have O12 := hid o1
 have F12 := hid (Ext.refl w12)
 clear hb t1 k1 o1
 simp only [Act.put, pA, pB, pC]
 refine WE.new (d := some 9) (cs := #[.slice A11 n11 c11, .bool g11, .slice B11 m11 d11, .slice A12 n12 c12, .bool g12, .slice B12 m12 d12]) (t := 27) (v := fun g => (.slice (some ⟨g, 0, none⟩) 2 2)) rfl rfl (by rfl) (fun w => by go_simp) fun gL1 wv hx0 hbox hge => ?_
 replace EY := hid (EY.out.trans hx0)
 replace Q11 := hid (Q11.out.up hx0)
 replace Q12 := hid (Q12.out.up hx0)
 replace F11 := hid (F11.out.trans hx0)
 replace F12 := hid (F12.out.trans hx0)
 have L1 : Hid (Box wv gL1 #[.slice A11 n11 c11, .bool g11, .slice B11 m11 d11, .slice A12 n12 c12, .bool g12, .slice B12 m12 d12] 27) := hid hbox
 clear hx0 hbox hge
 refine WE.cc 10 ((sum_to (t := M.addT t s) (κ := κ + μ) (U := W + 1) (flist2 L1.out (show IsL _ _ _ _ _ from ⟨_, _, _, _, _, _, _, rfl, (T11.out.up F11.out), Q11.out, O11.out⟩) (show IsL _ _ _ _ _ from ⟨_, _, _, _, _, _, _, rfl, (T12.out.up F12.out), Q12.out, O12.out⟩)) (by have := HW.out; omega) (by rw [M.cat_two]; have := HN.out; have := HM.out; omega) (M.okT_addT O11.out O12.out) (fun x => by rw [M.coef_addT O11.out O12.out, M.csum_two _ _ O11.out O12.out]) (by simp [M.ksum]) (M.addT_width O11.out O12.out T11.out.2 T12.out.2) (M.limbs_plus Q11.out.fields.2.2 Q12.out.fields.2.2)).mono ?_)
 rintro e w13 ⟨v1, rfl, x1, hb⟩
 obtain ⟨A13, n13, c13, g13, B13, m13, d13, rfl, t1, k1, o1⟩ := x1
 refine ⟨_, rfl, hb, ?_⟩
 replace EY := hid (EY.out.trans hb)
 have T13 := hid t1
 have Q13 := hid k1
 have O13 := hid o1
 have F13 := hid (Ext.refl w13)
 clear hb t1 k1 o1
 simp only [Act.put, pA, pB, pC]
 clear F11
 clear F12
 refine WE.store3 (g := (w.heap.size + 2)) (x := .slice A13 n13 c13) (y := .bool g13) (z := .slice B13 m13 d13) (t := 27) rfl rfl (by rfl) (fun w hb => ?_) (BX2.out.up EY.out) (by rfl) fun ws hk hs => ?_
 ·obtain ⟨ce0, ce1, ce2⟩ := hb.c3; obtain ⟨f0, f1, f2⟩ := hb.f3; go_simp
 intro hbx
 replace T13 := hid ((T13.out.up F13.out).kb (BX2.out.up EY.out) (by rfl) hk hs)
 replace E := hid ((E.out.trans EY.out).keptG hk (by simp))
 replace BX2 := hid hbx
 replace Q13 := hid (Q13.out.kz hs)
 clear hk hs hbx
 replace EY := hid (Ext.refl ws)
 replace F13 := hid (Ext.refl ws)
 refine WE.done ?_
 have r0 := (BX2.out.up EY.out).cell (o := 0) (v := .slice A13 n13 c13) rfl
 have r1 := (BX2.out.up EY.out).cell (o := 1) (v := .bool g13) rfl
 have r2 := (BX2.out.up EY.out).cell (o := 2) (v := .slice B13 m13 d13) rfl
 repeat go_step
 exact bodyPost_ret (v := .agg #[.slice A13 n13 c13, .bool g13, .slice B13 m13 d13]) (by simp [results, Tryz.results21, go_sem, r0, r1, r2]) rfl ⟨_, rfl, ⟨_, _, _, _, _, _, _, rfl, (T13.out.up F13.out), (Q13.out.up EY.out), O13.out⟩, (E.out.trans EY.out)⟩

set_option maxHeartbeats 4000000 in
theorem subL_l {w : World} {u v : Value} {t s : M.Tm} {κ μ : Int} {W : Nat} (h1 : WorthL w u t κ W) (h2 : WorthL w v s μ W) (hw : W ≤ 50) (hn : t.length ≤ 150) (hm : s.length ≤ 150) :
 Calls Tryz.prog 23 #[u, v] w (GivesL w (M.addT t (M.scaleT s (-1))) (κ + μ * -1) (W + 1)) := by
 obtain ⟨A1, n1, c1, g1, B1, m1, d1, rfl⟩ := h1.shape
 have R1 := hid h1
 obtain ⟨A2, n2, c2, g2, B2, m2, d2, rfl⟩ := h2.shape
 have R2 := hid h2
 have HW := hid hw
 have HN := hid hn
 have HM := hid hm
 clear hw hn hm
 clear h1 h2
 go_enter Tryz.func23, Tryz.ntmps23
 go_upto_region 1 with (fail)
 obtain ⟨E, BX0, BX1, BX2⟩ := open3 w #[.slice A1 n1 c1, .bool g1, .slice B1 m1 d1] 27 #[.slice A2 n2 c2, .bool g2, .slice B2 m2 d2] 27 #[.slice none 0 0, .bool false, .slice none 0 0] 27
 replace R1 := hid (R1.out.up E.out)
 replace R2 := hid (R2.out.up E.out)
 refine wp_region_D [(0, 0), (2, 0), (1, 1), (3, 1), (4, 1), (5, 1), (6, 1), (7, 1), (8, 4)] fun wd hb => ?_
 replace E := hid (E.out.trans hb)
 replace BX0 := hid (BX0.out.up hb)
 replace BX1 := hid (BX1.out.up hb)
 replace BX2 := hid (BX2.out.up hb)
 replace R1 := hid (R1.out.up hb)
 replace R2 := hid (R2.out.up hb)
 clear hb
 have EY := hid (Ext.refl wd)
 refine WE.qq 5 (.agg #[.slice A1 n1 c1, .bool g1, .slice B1 m1 d1]) rfl (fun w' hk => by obtain ⟨ce0, ce1, ce2⟩ := ((BX0.out.up EY.out).up hk).c3; go_simp) ?_
 refine WE.qq 7 (.agg #[.slice A2 n2 c2, .bool g2, .slice B2 m2 d2]) rfl (fun w' hk => by obtain ⟨ce0, ce1, ce2⟩ := ((BX1.out.up EY.out).up hk).c3; go_simp) ?_
 refine WE.cc 6 ((readL_l (R1.out.up EY.out)).mono ?_)
 rintro e w11 ⟨v1, rfl, x1, hb⟩
 obtain ⟨A11, n11, c11, g11, B11, m11, d11, rfl, t1, k1, o1⟩ := x1
 refine ⟨_, rfl, hb, ?_⟩
 replace EY := hid (EY.out.trans hb)
 have T11 := hid t1
 have Q11 := hid k1
 have O11 := hid o1
 have F11 := hid (Ext.refl w11)
 clear hb t1 k1 o1
 refine WE.cc 8 ((readL_l (R2.out.up EY.out)).mono ?_)
 rintro e w12 ⟨v1, rfl, x1, hb⟩
 obtain ⟨A12, n12, c12, g12, B12, m12, d12, rfl, t1, k1, o1⟩ := x1
 refine ⟨_, rfl, hb, ?_⟩
 replace EY := hid (EY.out.trans hb)
 replace Q11 := hid (Q11.out.up hb)
 replace F11 := hid (F11.out.trans hb)
 have T12 := hid t1
 have Q12 := hid k1
 have O12 := hid o1
 have F12 := hid (Ext.refl w12)
 clear hb t1 k1 o1
 refine WE.cc 9 ((of_z (n := (-1)) (by decide) (by decide) _).mono ?_)
 rintro e wn ⟨v1, rfl, x1, hb⟩
 obtain ⟨g13, A13, n13, c13, rfl⟩ := x1.shape
 refine ⟨_, rfl, hb, ?_⟩
 replace EY := hid (EY.out.trans hb)
 replace Q11 := hid (Q11.out.up hb)
 replace Q12 := hid (Q12.out.up hb)
 replace F11 := hid (F11.out.trans hb)
 replace F12 := hid (F12.out.trans hb)
 have Q13 := hid x1
 clear hb x1
 refine WE.cc 10 ((scaledL_l (W := W + 3) (IsL.wide (show IsL _ _ _ _ _ from ⟨_, _, _, _, _, _, _, rfl, (T12.out.up F12.out), Q12.out, O12.out⟩) (by omega)) (Q13.out.worth.wide (by omega)) (by have := HW.out; omega) (by have := HM.out; omega)).mono ?_)
 rintro e w14 ⟨v1, rfl, x1, hb⟩
 obtain ⟨A14, n14, c14, g14, B14, m14, d14, rfl, t1, k1, o1⟩ := x1
 refine ⟨_, rfl, hb, ?_⟩
 replace EY := hid (EY.out.trans hb)
 replace Q11 := hid (Q11.out.up hb)
 replace Q12 := hid (Q12.out.up hb)
 replace F11 := hid (F11.out.trans hb)
 have T14 := hid t1
 have Q14 := hid k1
 have O14 := hid o1
 have F14 := hid (Ext.refl w14)
 clear hb t1 k1 o1
 simp only [Act.put, pA, pB, pC]
 refine WE.new (d := some 11) (cs := #[.slice A11 n11 c11, .bool g11, .slice B11 m11 d11, .slice A14 n14 c14, .bool g14, .slice B14 m14 d14]) (t := 27) (v := fun g => (.slice (some ⟨g, 0, none⟩) 2 2)) rfl rfl (by rfl) (fun w => by go_simp) fun gL1 wv hx0 hbox hge => ?_
 replace EY := hid (EY.out.trans hx0)
 replace Q11 := hid (Q11.out.up hx0)
 replace Q12 := hid (Q12.out.up hx0)
 replace Q14 := hid (Q14.out.up hx0)
 replace F11 := hid (F11.out.trans hx0)
 replace F14 := hid (F14.out.trans hx0)
 have L1 : Hid (Box wv gL1 #[.slice A11 n11 c11, .bool g11, .slice B11 m11 d11, .slice A14 n14 c14, .bool g14, .slice B14 m14 d14] 27) := hid hbox
 clear hx0 hbox hge
 refine WE.cc 12 ((sum_to (t := M.addT t (M.scaleT s (-1))) (κ := κ + μ * -1) (U := W + 1) (flist2 L1.out (IsL.wide (show IsL _ _ _ _ _ from ⟨_, _, _, _, _, _, _, rfl, (T11.out.up F11.out), Q11.out, O11.out⟩) (U := W + 3 + (W + 3)) (by omega)) (show IsL _ _ _ _ _ from ⟨_, _, _, _, _, _, _, rfl, (T14.out.up F14.out), Q14.out, O14.out⟩)) (by have := HW.out; omega) (by rw [M.cat_two]; have := HN.out; have := HM.out; have := M.scaleT_len s (-1); omega) (M.okT_addT O11.out O14.out) (fun x => by rw [M.coef_addT O11.out O14.out, M.csum_two _ _ O11.out O14.out]) (by simp [M.ksum]) (M.addT_width O11.out O14.out T11.out.2 (M.scaleT_turn T12.out.2)) (M.limbs_plus Q11.out.fields.2.2 (M.limbs_turn Q12.out.fields.2.2))).mono ?_)
 rintro e w15 ⟨v1, rfl, x1, hb⟩
 obtain ⟨A15, n15, c15, g15, B15, m15, d15, rfl, t1, k1, o1⟩ := x1
 refine ⟨_, rfl, hb, ?_⟩
 replace EY := hid (EY.out.trans hb)
 have T15 := hid t1
 have Q15 := hid k1
 have O15 := hid o1
 have F15 := hid (Ext.refl w15)
 clear hb t1 k1 o1
 simp only [Act.put, pA, pB, pC]
 clear F11
 clear F12
 clear F14
 refine WE.store3 (g := (w.heap.size + 2)) (x := .slice A15 n15 c15) (y := .bool g15) (z := .slice B15 m15 d15) (t := 27) rfl rfl (by rfl) (fun w hb => ?_) (BX2.out.up EY.out) (by rfl) fun ws hk hs => ?_
 ·obtain ⟨ce0, ce1, ce2⟩ := hb.c3; obtain ⟨f0, f1, f2⟩ := hb.f3; go_simp
 intro hbx
 replace T15 := hid ((T15.out.up F15.out).kb (BX2.out.up EY.out) (by rfl) hk hs)
 replace E := hid ((E.out.trans EY.out).keptG hk (by simp))
 replace BX2 := hid hbx
 replace Q15 := hid (Q15.out.kz hs)
 clear hk hs hbx
 replace EY := hid (Ext.refl ws)
 replace F15 := hid (Ext.refl ws)
 refine WE.done ?_
 have r0 := (BX2.out.up EY.out).cell (o := 0) (v := .slice A15 n15 c15) rfl
 have r1 := (BX2.out.up EY.out).cell (o := 1) (v := .bool g15) rfl
 have r2 := (BX2.out.up EY.out).cell (o := 2) (v := .slice B15 m15 d15) rfl
 repeat go_step
 exact bodyPost_ret (v := .agg #[.slice A15 n15 c15, .bool g15, .slice B15 m15 d15]) (by simp [results, Tryz.results23, go_sem, r0, r1, r2]) rfl ⟨_, rfl, ⟨_, _, _, _, _, _, _, rfl, (T15.out.up F15.out), (Q15.out.up EY.out), O15.out⟩, (E.out.trans EY.out)⟩

set_option maxHeartbeats 4000000 in
theorem scaleL_l {w : World} {u v : Value} {t : M.Tm} {κ Y : Int} {W : Nat} (h1 : WorthL w u t κ W) (h2 : Worth w v Y W) (hw : W ≤ 63) (hn : t.length ≤ 1000) :
 Calls Tryz.prog 25 #[u, v] w (GivesL w (M.scaleT t Y) (κ * Y) (W + W)) := by
 obtain ⟨A1, n1, c1, g1, B1, m1, d1, rfl⟩ := h1.shape
 have R1 := hid h1
 obtain ⟨g2, A2, n2, c2, rfl⟩ := h2.shape
 have R2 := hid h2
 have HW := hid hw
 have HN := hid hn
 clear hw hn
 clear h1 h2
 go_enter Tryz.func25, Tryz.ntmps25
 go_upto_region 1 with (fail)
 obtain ⟨E, BX0, BX1, BX2⟩ := open3 w #[.slice A1 n1 c1, .bool g1, .slice B1 m1 d1] 27 #[.bool g2, .slice A2 n2 c2] 25 #[.slice none 0 0, .bool false, .slice none 0 0] 27
 replace R1 := hid (R1.out.up E.out)
 replace R2 := hid (R2.out.up E.out)
 refine wp_region_D [(0, 0), (2, 0), (1, 1), (3, 1), (4, 4)] fun wd hb => ?_
 replace E := hid (E.out.trans hb)
 replace BX0 := hid (BX0.out.up hb)
 replace BX1 := hid (BX1.out.up hb)
 replace BX2 := hid (BX2.out.up hb)
 replace R1 := hid (R1.out.up hb)
 replace R2 := hid (R2.out.up hb)
 clear hb
 have EY := hid (Ext.refl wd)
 refine WE.qq 5 (.agg #[.slice A1 n1 c1, .bool g1, .slice B1 m1 d1]) rfl (fun w' hk => by obtain ⟨ce0, ce1, ce2⟩ := ((BX0.out.up EY.out).up hk).c3; go_simp) ?_
 refine WE.qq 7 (.agg #[.bool g2, .slice A2 n2 c2]) rfl (fun w' hk => by obtain ⟨ce0, ce1⟩ := ((BX1.out.up EY.out).up hk).c2; go_simp) ?_
 refine WE.cc 6 ((readL_l (R1.out.up EY.out)).mono ?_)
 rintro e w11 ⟨v1, rfl, x1, hb⟩
 obtain ⟨A11, n11, c11, g11, B11, m11, d11, rfl, t1, k1, o1⟩ := x1
 refine ⟨_, rfl, hb, ?_⟩
 replace EY := hid (EY.out.trans hb)
 have T11 := hid t1
 have Q11 := hid k1
 have O11 := hid o1
 have F11 := hid (Ext.refl w11)
 clear hb t1 k1 o1
 refine WE.cc 8 ((scaledL_l (show IsL _ _ _ _ _ from ⟨_, _, _, _, _, _, _, rfl, (T11.out.up F11.out), Q11.out, O11.out⟩) (R2.out.up EY.out) (by have := HW.out; omega) (by have := HN.out; omega)).mono ?_)
 rintro e w12 ⟨v1, rfl, x1, hb⟩
 obtain ⟨A12, n12, c12, g12, B12, m12, d12, rfl, t1, k1, o1⟩ := x1
 refine ⟨_, rfl, hb, ?_⟩
 replace EY := hid (EY.out.trans hb)
 have T12 := hid t1
 have Q12 := hid k1
 have O12 := hid o1
 have F12 := hid (Ext.refl w12)
 clear hb t1 k1 o1
 simp only [Act.put, pA, pB, pC]
 clear F11
 refine WE.store3 (g := (w.heap.size + 2)) (x := .slice A12 n12 c12) (y := .bool g12) (z := .slice B12 m12 d12) (t := 27) rfl rfl (by rfl) (fun w hb => ?_) (BX2.out.up EY.out) (by rfl) fun ws hk hs => ?_
 ·obtain ⟨ce0, ce1, ce2⟩ := hb.c3; obtain ⟨f0, f1, f2⟩ := hb.f3; go_simp
 intro hbx
 replace T12 := hid ((T12.out.up F12.out).kb (BX2.out.up EY.out) (by rfl) hk hs)
 replace E := hid ((E.out.trans EY.out).keptG hk (by simp))
 replace BX2 := hid hbx
 replace Q12 := hid (Q12.out.kz hs)
 clear hk hs hbx
 replace EY := hid (Ext.refl ws)
 replace F12 := hid (Ext.refl ws)
 refine WE.done ?_
 have r0 := (BX2.out.up EY.out).cell (o := 0) (v := .slice A12 n12 c12) rfl
 have r1 := (BX2.out.up EY.out).cell (o := 1) (v := .bool g12) rfl
 have r2 := (BX2.out.up EY.out).cell (o := 2) (v := .slice B12 m12 d12) rfl
 repeat go_step
 exact bodyPost_ret (v := .agg #[.slice A12 n12 c12, .bool g12, .slice B12 m12 d12]) (by simp [results, Tryz.results25, go_sem, r0, r1, r2]) rfl ⟨_, rfl, ⟨_, _, _, _, _, _, _, rfl, (T12.out.up F12.out), (Q12.out.up EY.out), O12.out⟩, (E.out.trans EY.out)⟩

set_option maxHeartbeats 4000000 in
theorem constL_l {w : World} {u : Value} {Z : Int} {W : Nat} (h1 : Worth w u Z W) (hw : W ≤ 50) :
 Calls Tryz.prog 17 #[u] w (GivesL w [] Z W) := by
 obtain ⟨g1, A1, n1, c1, rfl⟩ := h1.shape
 have R1 := hid h1
 have HW := hid hw
 clear hw
 clear h1
 go_enter Tryz.func17, Tryz.ntmps17
 go_upto_region 1 with (fail)
 obtain ⟨E, BX0, BX1⟩ := open2 w #[.bool g1, .slice A1 n1 c1] 25 #[.slice none 0 0, .bool false, .slice none 0 0] 27
 replace R1 := hid (R1.out.up E.out)
 refine wp_region_S [(0, 0), (1, 0), (2, 1), (3, 1), (4, 1), (5, 4)] fun wd hb => ?_
 replace E := hid (E.out.trans hb)
 replace BX0 := hid (BX0.out.up hb)
 replace BX1 := hid (BX1.out.up hb)
 replace R1 := hid (R1.out.up hb)
 clear hb
 have EY := hid (Ext.refl wd)
 refine WE.qq 3 (.agg #[.bool g1, .slice A1 n1 c1]) rfl (fun w' hk => by obtain ⟨ce0, ce1⟩ := ((BX0.out.up EY.out).up hk).c2; go_simp) ?_
 refine WE.pp 4 (.agg #[.slice none 0 0, .bool g1, .slice A1 n1 c1]) ?_
 refine WE.cc 5 ((readL_l (WorthL.const (R1.out.up EY.out))).mono ?_)
 rintro e w11 ⟨v1, rfl, x1, hb⟩
 obtain ⟨A11, n11, c11, g11, B11, m11, d11, rfl, t1, k1, o1⟩ := x1
 refine ⟨_, rfl, hb, ?_⟩
 replace EY := hid (EY.out.trans hb)
 have T11 := hid t1
 have Q11 := hid k1
 have O11 := hid o1
 have F11 := hid (Ext.refl w11)
 clear hb t1 k1 o1
 simp only [Act.put, pA, pB, pC]
 refine WE.new (d := some 6) (cs := #[.slice A11 n11 c11, .bool g11, .slice B11 m11 d11]) (t := 27) (v := fun g => (.slice (some ⟨g, 0, none⟩) 1 1)) rfl rfl (by rfl) (fun w => by go_simp) fun gL1 wv hx0 hbox hge => ?_
 replace EY := hid (EY.out.trans hx0)
 replace Q11 := hid (Q11.out.up hx0)
 replace F11 := hid (F11.out.trans hx0)
 have L1 : Hid (Box wv gL1 #[.slice A11 n11 c11, .bool g11, .slice B11 m11 d11] 27) := hid hbox
 clear hx0 hbox hge
 refine WE.cc 7 ((sum_to (t := []) (κ := Z) (U := W) (flist1 L1.out (show IsL _ _ _ _ _ from ⟨_, _, _, _, _, _, _, rfl, (T11.out.up F11.out), Q11.out, O11.out⟩)) (by have := HW.out; omega) (by rw [M.cat_one]; simp) trivial (fun x => by rw [M.csum_one _ O11.out]) (by simp [M.ksum]) (fun x hx => by simp at hx) Q11.out.fields.2.2).mono ?_)
 rintro e w12 ⟨v1, rfl, x1, hb⟩
 obtain ⟨A12, n12, c12, g12, B12, m12, d12, rfl, t1, k1, o1⟩ := x1
 refine ⟨_, rfl, hb, ?_⟩
 replace EY := hid (EY.out.trans hb)
 have T12 := hid t1
 have Q12 := hid k1
 have O12 := hid o1
 have F12 := hid (Ext.refl w12)
 clear hb t1 k1 o1
 simp only [Act.put, pA, pB, pC]
 clear F11
 refine WE.store3 (g := (w.heap.size + 1)) (x := .slice A12 n12 c12) (y := .bool g12) (z := .slice B12 m12 d12) (t := 27) rfl rfl (by rfl) (fun w hb => ?_) (BX1.out.up EY.out) (by rfl) fun ws hk hs => ?_
 ·obtain ⟨ce0, ce1, ce2⟩ := hb.c3; obtain ⟨f0, f1, f2⟩ := hb.f3; go_simp
 intro hbx
 replace T12 := hid ((T12.out.up F12.out).kb (BX1.out.up EY.out) (by rfl) hk hs)
 replace E := hid ((E.out.trans EY.out).keptG hk (by simp))
 replace BX1 := hid hbx
 replace Q12 := hid (Q12.out.kz hs)
 clear hk hs hbx
 replace EY := hid (Ext.refl ws)
 replace F12 := hid (Ext.refl ws)
 refine WE.done ?_
 have r0 := (BX1.out.up EY.out).cell (o := 0) (v := .slice A12 n12 c12) rfl
 have r1 := (BX1.out.up EY.out).cell (o := 1) (v := .bool g12) rfl
 have r2 := (BX1.out.up EY.out).cell (o := 2) (v := .slice B12 m12 d12) rfl
 repeat go_step
 exact bodyPost_ret (v := .agg #[.slice A12 n12 c12, .bool g12, .slice B12 m12 d12]) (by simp [results, Tryz.results17, go_sem, r0, r1, r2]) rfl ⟨_, rfl, ⟨_, _, _, _, _, _, _, rfl, (T12.out.up F12.out), (Q12.out.up EY.out), O12.out⟩, (E.out.trans EY.out)⟩

set_option maxHeartbeats 2000000 in
theorem varL_pos {w : World} {v : Int} (hv : 0 ≤ v) :
 Calls Tryz.prog 19 #[.int .i64 v] w (GivesL w [(v, 1)] 0 1) := by
 have HV := hid hv
 have hvd : (max v 0) = v := by omega
 go_enter Tryz.func19, Tryz.ntmps19
 go_upto_region 1 with (fail)
 obtain ⟨E, BX0⟩ := open1 w #[.slice none 0 0, .bool false, .slice none 0 0] 27
 refine wp_region_S [(0, 0), (1, 0), (2, 1), (3, 0), (4, 1), (5, 0), (6, 4)] fun wd hb => ?_
 replace E := hid (E.out.trans hb)
 replace BX0 := hid (BX0.out.up hb)
 clear hb
 have EY := hid (Ext.refl wd)
 refine WE.pp 3 (.int .i64 v) ?_
 refine WE.pp 4 (.int .i64 v) ?_
 refine WE.cc 5 ((of_z (n := 1) (by decide) (by decide) _).mono ?_)
 rintro e wn ⟨v1, rfl, x1, hb⟩
 obtain ⟨g11, A11, n11, c11, rfl⟩ := x1.shape
 refine ⟨_, rfl, hb, ?_⟩
 replace EY := hid (EY.out.trans hb)
 have Q11 := hid x1
 clear hb x1
 refine WE.pp 6 (.agg #[.int .i64 v, .bool g11, .slice A11 n11 c11]) ?_
 simp only [Act.put, pA, pB, pC]
 refine WE.new (d := some 7) (cs := #[.int .i64 v, .bool g11, .slice A11 n11 c11]) (t := 56) (v := fun g => (.slice (some ⟨g, 0, none⟩) 1 1)) rfl rfl (by rfl) (fun w => by go_simp) fun gL1 wv hx0 hbox hge => ?_
 have HNL1BX0 := hid (show gL1 ≠ (w.heap.size) by have := (BX0.out.up EY.out).lt; omega)
 replace EY := hid (EY.out.trans hx0)
 replace Q11 := hid (Q11.out.up hx0)
 have L1 : Hid (Box wv gL1 #[.int .i64 v, .bool g11, .slice A11 n11 c11] 56) := hid hbox
 clear hx0 hbox hge
 refine WE.pp 8 (.agg #[.slice (some ⟨gL1, 0, none⟩) 1 1, .bool false, .slice none 0 0]) ?_
 simp only [Act.put, pA, pB, pC]
 refine WE.store3 (g := (w.heap.size)) (x := .slice (some ⟨gL1, 0, none⟩) 1 1) (y := .bool false) (z := .slice none 0 0) (t := 27) rfl rfl (by rfl) (fun w hb => ?_) (BX0.out.up EY.out) (by rfl) fun ws hk hs => ?_
 ·obtain ⟨ce0, ce1, ce2⟩ := hb.c3; obtain ⟨f0, f1, f2⟩ := hb.f3; go_simp
 intro hbx
 replace E := hid ((E.out.trans EY.out).keptG hk (by simp))
 replace BX0 := hid hbx
 replace L1 := hid (L1.out.kept hk (by simpa using HNL1BX0.out))
 replace Q11 := hid (Q11.out.kz hs)
 clear hk hs hbx
 replace EY := hid (Ext.refl ws)
 refine WE.done ?_
 have r0 := (BX0.out.up EY.out).cell (o := 0) (v := .slice (some ⟨gL1, 0, none⟩) 1 1) rfl
 have r1 := (BX0.out.up EY.out).cell (o := 1) (v := .bool false) rfl
 have r2 := (BX0.out.up EY.out).cell (o := 2) (v := .slice none 0 0) rfl
 repeat go_step
 exact bodyPost_ret (v := .agg #[.slice (some ⟨gL1, 0, none⟩) 1 1, .bool false, .slice none 0 0]) (by simp [results, Tryz.results19, go_sem, r0, r1, r2]) rfl ⟨_, rfl, ⟨_, _, _, _, _, _, _, rfl, LTm.lit (L1.out.up EY.out) ((Q11.out.up EY.out).short (by decide)), IsZ.nought.wide (Nat.zero_le _), ⟨by have := HV.out; omega, by decide, trivial⟩⟩, (E.out.trans EY.out)⟩

set_option maxHeartbeats 2000000 in
theorem varL_neg {w : World} {v : Int} (hv : v < 0) :
 Calls Tryz.prog 19 #[.int .i64 v] w (GivesL w [(0, 1)] 0 1) := by
 have HV := hid hv
 have hvd : (max v 0) = 0 := by omega
 go_enter Tryz.func19, Tryz.ntmps19
 go_upto_region 1 with (fail)
 obtain ⟨E, BX0⟩ := open1 w #[.slice none 0 0, .bool false, .slice none 0 0] 27
 refine wp_region_S [(0, 0), (1, 0), (2, 1), (3, 0), (4, 1), (5, 0), (6, 4)] fun wd hb => ?_
 replace E := hid (E.out.trans hb)
 replace BX0 := hid (BX0.out.up hb)
 clear hb
 have EY := hid (Ext.refl wd)
 refine WE.pp 3 (.int .i64 v) ?_
 refine WE.pp 4 (.int .i64 0) ?_
 refine WE.cc 5 ((of_z (n := 1) (by decide) (by decide) _).mono ?_)
 rintro e wn ⟨v1, rfl, x1, hb⟩
 obtain ⟨g11, A11, n11, c11, rfl⟩ := x1.shape
 refine ⟨_, rfl, hb, ?_⟩
 replace EY := hid (EY.out.trans hb)
 have Q11 := hid x1
 clear hb x1
 refine WE.pp 6 (.agg #[.int .i64 0, .bool g11, .slice A11 n11 c11]) ?_
 simp only [Act.put, pA, pB, pC]
 refine WE.new (d := some 7) (cs := #[.int .i64 0, .bool g11, .slice A11 n11 c11]) (t := 56) (v := fun g => (.slice (some ⟨g, 0, none⟩) 1 1)) rfl rfl (by rfl) (fun w => by go_simp) fun gL1 wv hx0 hbox hge => ?_
 have HNL1BX0 := hid (show gL1 ≠ (w.heap.size) by have := (BX0.out.up EY.out).lt; omega)
 replace EY := hid (EY.out.trans hx0)
 replace Q11 := hid (Q11.out.up hx0)
 have L1 : Hid (Box wv gL1 #[.int .i64 0, .bool g11, .slice A11 n11 c11] 56) := hid hbox
 clear hx0 hbox hge
 refine WE.pp 8 (.agg #[.slice (some ⟨gL1, 0, none⟩) 1 1, .bool false, .slice none 0 0]) ?_
 simp only [Act.put, pA, pB, pC]
 refine WE.store3 (g := (w.heap.size)) (x := .slice (some ⟨gL1, 0, none⟩) 1 1) (y := .bool false) (z := .slice none 0 0) (t := 27) rfl rfl (by rfl) (fun w hb => ?_) (BX0.out.up EY.out) (by rfl) fun ws hk hs => ?_
 ·obtain ⟨ce0, ce1, ce2⟩ := hb.c3; obtain ⟨f0, f1, f2⟩ := hb.f3; go_simp
 intro hbx
 replace E := hid ((E.out.trans EY.out).keptG hk (by simp))
 replace BX0 := hid hbx
 replace L1 := hid (L1.out.kept hk (by simpa using HNL1BX0.out))
 replace Q11 := hid (Q11.out.kz hs)
 clear hk hs hbx
 replace EY := hid (Ext.refl ws)
 refine WE.done ?_
 have r0 := (BX0.out.up EY.out).cell (o := 0) (v := .slice (some ⟨gL1, 0, none⟩) 1 1) rfl
 have r1 := (BX0.out.up EY.out).cell (o := 1) (v := .bool false) rfl
 have r2 := (BX0.out.up EY.out).cell (o := 2) (v := .slice none 0 0) rfl
 repeat go_step
 exact bodyPost_ret (v := .agg #[.slice (some ⟨gL1, 0, none⟩) 1 1, .bool false, .slice none 0 0]) (by simp [results, Tryz.results19, go_sem, r0, r1, r2]) rfl ⟨_, rfl, ⟨_, _, _, _, _, _, _, rfl, LTm.lit (L1.out.up EY.out) ((Q11.out.up EY.out).short (by decide)), IsZ.nought.wide (Nat.zero_le _), ⟨by have := HV.out; omega, by decide, trivial⟩⟩, (E.out.trans EY.out)⟩

set_option maxHeartbeats 2000000 in
theorem rVarL_pos {w : World} {v : Int} (hv : 0 ≤ v) :
 Calls Tryz.prog 20 #[.int .i64 v] w (GivesL w [(v, 1)] 0 1) := by
 have HV := hid hv
 have hvd : (max 0 v) = v := by omega
 go_enter Tryz.func20, Tryz.ntmps20
 go_upto_region 1 with (fail)
 obtain ⟨E, BX0⟩ := open1 w #[.slice none 0 0, .bool false, .slice none 0 0] 27
 refine wp_region_S [(0, 0), (1, 0), (2, 1), (3, 0), (4, 1), (5, 0), (6, 4)] fun wd hb => ?_
 replace E := hid (E.out.trans hb)
 replace BX0 := hid (BX0.out.up hb)
 clear hb
 have EY := hid (Ext.refl wd)
 refine WE.pp 3 (.int .i64 v) ?_
 refine WE.pp 4 (.int .i64 v) ?_
 refine WE.cc 5 ((rOf_z (n := 1) (by decide) (by decide) _).mono ?_)
 rintro e wn ⟨v1, rfl, x1, hb⟩
 obtain ⟨g11, A11, n11, c11, rfl⟩ := x1.shape
 refine ⟨_, rfl, hb, ?_⟩
 replace EY := hid (EY.out.trans hb)
 have Q11 := hid x1
 clear hb x1
 refine WE.pp 6 (.agg #[.int .i64 v, .bool g11, .slice A11 n11 c11]) ?_
 simp only [Act.put, pA, pB, pC]
 refine WE.new (d := some 7) (cs := #[.int .i64 v, .bool g11, .slice A11 n11 c11]) (t := 56) (v := fun g => (.slice (some ⟨g, 0, none⟩) 1 1)) rfl rfl (by rfl) (fun w => by go_simp) fun gL1 wv hx0 hbox hge => ?_
 have HNL1BX0 := hid (show gL1 ≠ (w.heap.size) by have := (BX0.out.up EY.out).lt; omega)
 replace EY := hid (EY.out.trans hx0)
 replace Q11 := hid (Q11.out.up hx0)
 have L1 : Hid (Box wv gL1 #[.int .i64 v, .bool g11, .slice A11 n11 c11] 56) := hid hbox
 clear hx0 hbox hge
 refine WE.pp 8 (.agg #[.slice (some ⟨gL1, 0, none⟩) 1 1, .bool false, .slice none 0 0]) ?_
 simp only [Act.put, pA, pB, pC]
 refine WE.store3 (g := (w.heap.size)) (x := .slice (some ⟨gL1, 0, none⟩) 1 1) (y := .bool false) (z := .slice none 0 0) (t := 27) rfl rfl (by rfl) (fun w hb => ?_) (BX0.out.up EY.out) (by rfl) fun ws hk hs => ?_
 ·obtain ⟨ce0, ce1, ce2⟩ := hb.c3; obtain ⟨f0, f1, f2⟩ := hb.f3; go_simp
 intro hbx
 replace E := hid ((E.out.trans EY.out).keptG hk (by simp))
 replace BX0 := hid hbx
 replace L1 := hid (L1.out.kept hk (by simpa using HNL1BX0.out))
 replace Q11 := hid (Q11.out.kz hs)
 clear hk hs hbx
 replace EY := hid (Ext.refl ws)
 refine WE.done ?_
 have r0 := (BX0.out.up EY.out).cell (o := 0) (v := .slice (some ⟨gL1, 0, none⟩) 1 1) rfl
 have r1 := (BX0.out.up EY.out).cell (o := 1) (v := .bool false) rfl
 have r2 := (BX0.out.up EY.out).cell (o := 2) (v := .slice none 0 0) rfl
 repeat go_step
 exact bodyPost_ret (v := .agg #[.slice (some ⟨gL1, 0, none⟩) 1 1, .bool false, .slice none 0 0]) (by simp [results, Tryz.results20, go_sem, r0, r1, r2]) rfl ⟨_, rfl, ⟨_, _, _, _, _, _, _, rfl, LTm.lit (L1.out.up EY.out) ((Q11.out.up EY.out).short (by decide)), IsZ.nought.wide (Nat.zero_le _), ⟨by have := HV.out; omega, by decide, trivial⟩⟩, (E.out.trans EY.out)⟩

set_option maxHeartbeats 2000000 in
theorem rVarL_neg {w : World} {v : Int} (hv : v < 0) :
 Calls Tryz.prog 20 #[.int .i64 v] w (GivesL w [(0, 1)] 0 1) := by
 have HV := hid hv
 have hvd : (max 0 v) = 0 := by omega
 go_enter Tryz.func20, Tryz.ntmps20
 go_upto_region 1 with (fail)
 obtain ⟨E, BX0⟩ := open1 w #[.slice none 0 0, .bool false, .slice none 0 0] 27
 refine wp_region_S [(0, 0), (1, 0), (2, 1), (3, 0), (4, 1), (5, 0), (6, 4)] fun wd hb => ?_
 replace E := hid (E.out.trans hb)
 replace BX0 := hid (BX0.out.up hb)
 clear hb
 have EY := hid (Ext.refl wd)
 refine WE.pp 3 (.int .i64 v) ?_
 refine WE.pp 4 (.int .i64 0) ?_
 refine WE.cc 5 ((rOf_z (n := 1) (by decide) (by decide) _).mono ?_)
 rintro e wn ⟨v1, rfl, x1, hb⟩
 obtain ⟨g11, A11, n11, c11, rfl⟩ := x1.shape
 refine ⟨_, rfl, hb, ?_⟩
 replace EY := hid (EY.out.trans hb)
 have Q11 := hid x1
 clear hb x1
 refine WE.pp 6 (.agg #[.int .i64 0, .bool g11, .slice A11 n11 c11]) ?_
 simp only [Act.put, pA, pB, pC]
 refine WE.new (d := some 7) (cs := #[.int .i64 0, .bool g11, .slice A11 n11 c11]) (t := 56) (v := fun g => (.slice (some ⟨g, 0, none⟩) 1 1)) rfl rfl (by rfl) (fun w => by go_simp) fun gL1 wv hx0 hbox hge => ?_
 have HNL1BX0 := hid (show gL1 ≠ (w.heap.size) by have := (BX0.out.up EY.out).lt; omega)
 replace EY := hid (EY.out.trans hx0)
 replace Q11 := hid (Q11.out.up hx0)
 have L1 : Hid (Box wv gL1 #[.int .i64 0, .bool g11, .slice A11 n11 c11] 56) := hid hbox
 clear hx0 hbox hge
 refine WE.pp 8 (.agg #[.slice (some ⟨gL1, 0, none⟩) 1 1, .bool false, .slice none 0 0]) ?_
 simp only [Act.put, pA, pB, pC]
 refine WE.store3 (g := (w.heap.size)) (x := .slice (some ⟨gL1, 0, none⟩) 1 1) (y := .bool false) (z := .slice none 0 0) (t := 27) rfl rfl (by rfl) (fun w hb => ?_) (BX0.out.up EY.out) (by rfl) fun ws hk hs => ?_
 ·obtain ⟨ce0, ce1, ce2⟩ := hb.c3; obtain ⟨f0, f1, f2⟩ := hb.f3; go_simp
 intro hbx
 replace E := hid ((E.out.trans EY.out).keptG hk (by simp))
 replace BX0 := hid hbx
 replace L1 := hid (L1.out.kept hk (by simpa using HNL1BX0.out))
 replace Q11 := hid (Q11.out.kz hs)
 clear hk hs hbx
 replace EY := hid (Ext.refl ws)
 refine WE.done ?_
 have r0 := (BX0.out.up EY.out).cell (o := 0) (v := .slice (some ⟨gL1, 0, none⟩) 1 1) rfl
 have r1 := (BX0.out.up EY.out).cell (o := 1) (v := .bool false) rfl
 have r2 := (BX0.out.up EY.out).cell (o := 2) (v := .slice none 0 0) rfl
 repeat go_step
 exact bodyPost_ret (v := .agg #[.slice (some ⟨gL1, 0, none⟩) 1 1, .bool false, .slice none 0 0]) (by simp [results, Tryz.results20, go_sem, r0, r1, r2]) rfl ⟨_, rfl, ⟨_, _, _, _, _, _, _, rfl, LTm.lit (L1.out.up EY.out) ((Q11.out.up EY.out).short (by decide)), IsZ.nought.wide (Nat.zero_le _), ⟨by have := HV.out; omega, by decide, trivial⟩⟩, (E.out.trans EY.out)⟩

end Go.Proofs.YtklmnmkmpkobhaaGreat
