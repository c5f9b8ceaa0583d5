/-
  Contract of package lin: a form put in a variable's place.
-/
import Derived.Test.YtklmnmkmpkobhaaGreatLFaceS
namespace Go.Proofs.YtklmnmkmpkobhaaGreat
open Go.RowKit
set_option linter.unusedSimpArgs false
set_option linter.unusedVariables false

theorem Ext.same {w w' : World} (h : Ext w w') : Ext w' w' := Ext.refl w'
theorem WorthL.ok {w : World} {v : Value} {t : M.Tm} {κ : Int} {W : Nat} (h : WorthL w v t κ W) : M.okT (-1) t := by
 obtain ⟨A, n, c, ls, g, B, m, d, l, rfl, _, _, _, _, rfl, _⟩ := h
 unfold M.ft
 split
 ·next hb => unfold M.isL at hb; rw [Bool.and_eq_true] at hb; exact (M.isT_ok hb.1).1
 ·trivial

theorem M.putT_none {t s : M.Tm} {v : Int} (ot : M.okT (-1) t) (os : M.okT (-1) s) (h : M.coef t v = 0) : M.putT t v s = t :=
 M.okT_ext (M.okT_putT ot os v) ot fun x => by
  rw [M.coef_putT ot os, h, Int.mul_zero, Int.add_zero]
  by_cases e : x = v
  ·rw [if_pos e, e, h]
  ·rw [if_neg e]

set_option maxHeartbeats 8000000 in
theorem putL_none {w : World} {u u' : Value} {t s : M.Tm} {κ μ : Int} {W : Nat} (h1 : WorthL w u t κ W) (h2 : WorthL w u' s μ W) (hw : W ≤ 50) (hn : t.length ≤ 100) (hm : s.length ≤ 100) {v : Int} (hc : M.coef t v = 0) :
 Calls Tryz.prog 30 #[u, .int .i64 v, u'] w (GivesL w (M.putT t v s) (κ + μ * M.coef t v) (W + W + 1)) := by
 obtain ⟨A1, n1, c1, g1, B1, m1, d1, rfl⟩ := h1.shape
 have R1 := hid h1
 obtain ⟨A2, n2, c2, g2, B2, m2, d2, rfl⟩ := h2.shape
 have HN := hid hn
 have HCF := hid hc
 have HW := hid hw
 have HOS := hid h2.ok
 clear hn hm hc hw
 clear h1 h2
 go_enter Tryz.func30, Tryz.ntmps30
 go_upto_region 1 with (fail)
 obtain ⟨E, BX0, -, BX2⟩ := open3 w #[.slice A1 n1 c1, .bool g1, .slice B1 m1 d1] 27 #[.slice A2 n2 c2, .bool g2, .slice B2 m2 d2] 27 #[.slice none 0 0, .bool false, .slice none 0 0] 27
 replace R1 := hid (R1.out.up E.out)
 refine wp_region_S [(0, 0), (1, 1), (2, 1), (3, 4)] fun wd hb => ?_
 replace E := hid (E.out.trans hb)
 replace BX0 := hid (BX0.out.up hb)
 replace BX2 := hid (BX2.out.up hb)
 replace R1 := hid (R1.out.up hb)
 clear hb
 have EY := hid (Ext.refl wd)
 refine WE.qq 12 (.agg #[.slice A1 n1 c1, .bool g1, .slice B1 m1 d1]) rfl (fun w' hk => by obtain ⟨ce0, ce1, ce2⟩ := ((BX0.out.up EY.out).up hk).c3; go_simp) ?_
 refine WE.cc 13 ((readL_l (R1.out.up EY.out)).mono ?_)
 rintro e w11 ⟨v1, rfl, x1, hb⟩
 obtain ⟨A11, n11, c11, g11, B11, m11, d11, rfl, t1, k1, o1⟩ := x1
 refine ⟨_, rfl, hb, ?_⟩
 replace EY := hid (EY.out.trans hb)
 have T11 := hid t1
 have Q11 := hid k1
 have O11 := hid o1
 have F11 := hid (Ext.refl w11)
 clear hb t1 k1 o1
 simp only [Act.put, pA, pB, pC]
 refine WE.new (d := some 7) (cs := #[.slice none 0 0, .bool false, .slice none 0 0]) (t := 27) (v := fun g => (.pointer (some ⟨g, 0, none⟩))) rfl rfl (by rfl) (fun w => by go_simp) fun gV7 wv hx0 hbox hge => ?_
 have HNV7BX2 := hid (show gV7 ≠ (w.heap.size + 2) by have := (BX2.out.up EY.out).lt; omega)
 have HGV7 := hid (show w.heap.size ≤ gV7 by have := (E.out.trans EY.out).size; omega)
 replace EY := hid (EY.out.trans hx0)
 replace Q11 := hid (Q11.out.up hx0)
 replace F11 := hid (F11.out.trans hx0)
 have V7 : Hid (Box wv gV7 #[.slice none 0 0, .bool false, .slice none 0 0] 27) := hid hbox
 clear hx0 hbox hge
 simp only [Act.put, pA, pB, pC]
 refine WE.store3 (g := gV7) (x := .slice A11 n11 c11) (y := .bool g11) (z := .slice B11 m11 d11) (t := 27) rfl rfl (by rfl) (fun w hb => ?_) V7.out (by rfl) fun ws hk hs => ?_
 ·obtain ⟨ce0, ce1, ce2⟩ := hb.c3; obtain ⟨f0, f1, f2⟩ := hb.f3; go_simp
 intro hbx
 replace T11 := hid ((T11.out.up F11.out).kb V7.out (by rfl) hk hs)
 replace E := hid ((E.out.trans EY.out).keptG hk HGV7.out)
 replace BX2 := hid ((BX2.out.up EY.out).kept hk (by simpa using HNV7BX2.out.symm))
 replace V7 := hid hbx
 replace Q11 := hid (Q11.out.kz hs)
 clear hk hs hbx
 replace EY := hid (Ext.refl ws)
 replace F11 := hid (Ext.refl ws)
 refine WE.done ?_
 go_upto_region 2 with (fail)
 refine wp_region_S [(0, 0), (1, 0), (2, 1), (3, 0), (4, 0), (5, 0), (6, 0), (7, 0)] fun wd hb => ?_
 replace EY := hid (EY.out.trans hb)
 replace F11 := hid (F11.out.trans hb)
 clear hb
 refine WE.qq 15 (.agg #[.slice A11 n11 c11, .bool g11, .slice B11 m11 d11]) rfl (fun w' hk => by obtain ⟨ce0, ce1, ce2⟩ := ((V7.out.up EY.out).up hk).c3; go_simp) ?_
 refine WE.pp 16 (.int .i64 v) ?_
 refine WE.cc 17 ((place_none (show IsL _ _ _ _ _ from ⟨_, _, _, _, _, _, _, rfl, (T11.out.up F11.out), (Q11.out.up EY.out), O11.out⟩) (by have := HN.out; omega) HCF.out).mono ?_)
 rintro e wn ⟨i, rfl, hb⟩
 refine ⟨_, rfl, hb, ?_⟩
 replace EY := hid (EY.out.trans hb)
 replace F11 := hid (F11.out.trans hb)
 clear hb
 refine WE.pp 14 (.tuple #[(.int .i64 (i : Int)), (.bool false)]) ?_
 refine WE.pp 18 (.int .i64 (i : Int)) ?_
 refine WE.pp 19 (.bool false) ?_
 simp only [Act.put, pA, pB, pC]
 refine WE.pp 8 (.int .i64 (i : Int)) ?_
 refine WE.pp 9 (.bool false) ?_
 simp only [Act.put, pA, pB, pC]
 refine WE.done ?_
 go_upto_region 3 with (fail)
 refine wp_region_S [(0, 0), (1, 0)] fun wd hb => ?_
 replace EY := hid (EY.out.trans hb)
 replace F11 := hid (F11.out.trans hb)
 clear hb
 refine WE.pp 20 (.bool false) ?_
 refine WE.pp 21 (.bool true) ?_
 simp only [Act.put, pA, pB, pC]
 refine WE.done ?_
 go_upto_region 4 with (fail)
 refine wp_region_S [(0, 0), (1, 1), (2, 1), (3, 4)] fun wd hb => ?_
 replace EY := hid (EY.out.trans hb)
 replace F11 := hid (F11.out.trans hb)
 clear hb
 refine WE.qq 22 (.agg #[.slice A11 n11 c11, .bool g11, .slice B11 m11 d11]) rfl (fun w' hk => by obtain ⟨ce0, ce1, ce2⟩ := ((V7.out.up EY.out).up hk).c3; go_simp) ?_
 simp only [Act.put, pA, pB, pC]
 refine WE.new (d := some 23) (cs := #[.slice A11 n11 c11, .bool g11, .slice B11 m11 d11]) (t := 27) (v := fun g => (.slice (some ⟨g, 0, none⟩) 1 1)) rfl rfl (by rfl) (fun w => by go_simp) fun gL1 wv hx0 hbox hge => ?_
 replace EY := hid (EY.out.trans hx0)
 replace F11 := hid (F11.out.trans hx0)
 have L1 : Hid (Box wv gL1 #[.slice A11 n11 c11, .bool g11, .slice B11 m11 d11] 27) := hid hbox
 clear hx0 hbox hge
 refine WE.cc 24 ((sum_to (t := t) (κ := κ) (U := W) (flist1 L1.out (show IsL _ _ _ _ _ from ⟨_, _, _, _, _, _, _, rfl, (T11.out.up F11.out), (Q11.out.up EY.out), O11.out⟩)) (by have := HW.out; omega) (by rw [M.cat_one]; have := HN.out; omega) O11.out (fun x => by rw [M.csum_one _ O11.out]) (by simp [M.ksum]) T11.out.2 (Q11.out.up EY.out).fields.2.2).mono ?_)
 rintro e w12 ⟨v1, rfl, x1, hb⟩
 obtain ⟨A12, n12, c12, g12, B12, m12, d12, rfl, t1, k1, o1⟩ := x1
 refine ⟨_, rfl, hb, ?_⟩
 replace EY := hid (EY.out.trans hb)
 have T12 := hid t1
 have Q12 := hid k1
 have O12 := hid o1
 have F12 := hid (Ext.refl w12)
 clear hb t1 k1 o1
 simp only [Act.put, pA, pB, pC]
 clear F11
 refine WE.store3 (g := (w.heap.size + 2)) (x := .slice A12 n12 c12) (y := .bool g12) (z := .slice B12 m12 d12) (t := 27) rfl rfl (by rfl) (fun w hb => ?_) (BX2.out.up EY.out) (by rfl) fun ws hk hs => ?_
 ·obtain ⟨ce0, ce1, ce2⟩ := hb.c3; obtain ⟨f0, f1, f2⟩ := hb.f3; go_simp
 intro hbx
 replace T12 := hid ((T12.out.up F12.out).kb (BX2.out.up EY.out) (by rfl) hk hs)
 replace E := hid ((E.out.trans EY.out).keptG hk (by simp))
 replace BX2 := hid hbx
 replace Q12 := hid (Q12.out.kz hs)
 clear hk hs hbx
 replace EY := hid (Ext.refl ws)
 replace F12 := hid (Ext.refl ws)
 refine WE.done ?_
 have r0 := (BX2.out.up EY.out).cell (o := 0) (v := .slice A12 n12 c12) rfl
 have r1 := (BX2.out.up EY.out).cell (o := 1) (v := .bool g12) rfl
 have r2 := (BX2.out.up EY.out).cell (o := 2) (v := .slice B12 m12 d12) rfl
 repeat go_step
 exact bodyPost_ret (v := .agg #[.slice A12 n12 c12, .bool g12, .slice B12 m12 d12]) (by simp [results, Tryz.results30, go_sem, r0, r1, r2]) rfl ⟨_, rfl, by rw [M.putT_none O11.out HOS.out HCF.out, HCF.out, Int.mul_zero, Int.add_zero]; exact IsL.wide (show IsL _ _ _ _ _ from ⟨_, _, _, _, _, _, _, rfl, (T12.out.up F12.out), (Q12.out.up EY.out), O12.out⟩) (by omega), (E.out.trans EY.out)⟩

set_option maxHeartbeats 8000000 in
theorem putL_some {w : World} {u u' : Value} {t s : M.Tm} {κ μ : Int} {W : Nat} (h1 : WorthL w u t κ W) (h2 : WorthL w u' s μ W) (hw : W ≤ 50) (hn : t.length ≤ 100) (hm : s.length ≤ 100) {v : Int} (hc : M.coef t v ≠ 0) :
 Calls Tryz.prog 30 #[u, .int .i64 v, u'] w (GivesL w (M.putT t v s) (κ + μ * M.coef t v) (W + W + 1)) := by
 obtain ⟨A1, n1, c1, g1, B1, m1, d1, rfl⟩ := h1.shape
 have R1 := hid h1
 obtain ⟨A2, n2, c2, g2, B2, m2, d2, rfl⟩ := h2.shape
 have HB2 := hid h2
 have HN := hid hn
 have HM := hid hm
 have HCF := hid hc
 have HW := hid hw
 clear hn hm hc hw
 clear h1 h2
 go_enter Tryz.func30, Tryz.ntmps30
 go_upto_region 1 with (fail)
 obtain ⟨E, BX0, BX1, BX2⟩ := open3 w #[.slice A1 n1 c1, .bool g1, .slice B1 m1 d1] 27 #[.slice A2 n2 c2, .bool g2, .slice B2 m2 d2] 27 #[.slice none 0 0, .bool false, .slice none 0 0] 27
 replace R1 := hid (R1.out.up E.out)
 refine wp_region_S [(0, 0), (1, 1), (2, 1), (3, 4)] fun wd hb => ?_
 replace E := hid (E.out.trans hb)
 replace BX0 := hid (BX0.out.up hb)
 replace BX1 := hid (BX1.out.up hb)
 replace BX2 := hid (BX2.out.up hb)
 replace R1 := hid (R1.out.up hb)
 clear hb
 have EY := hid (Ext.refl wd)
 refine WE.qq 12 (.agg #[.slice A1 n1 c1, .bool g1, .slice B1 m1 d1]) rfl (fun w' hk => by obtain ⟨ce0, ce1, ce2⟩ := ((BX0.out.up EY.out).up hk).c3; go_simp) ?_
 refine WE.cc 13 ((readL_l (R1.out.up EY.out)).mono ?_)
 rintro e w11 ⟨v1, rfl, x1, hb⟩
 obtain ⟨A11, n11, c11, g11, B11, m11, d11, rfl, t1, k1, o1⟩ := x1
 refine ⟨_, rfl, hb, ?_⟩
 replace EY := hid (EY.out.trans hb)
 have T11 := hid t1
 have Q11 := hid k1
 have O11 := hid o1
 have F11 := hid (Ext.refl w11)
 clear hb t1 k1 o1
 simp only [Act.put, pA, pB, pC]
 refine WE.new (d := some 7) (cs := #[.slice none 0 0, .bool false, .slice none 0 0]) (t := 27) (v := fun g => (.pointer (some ⟨g, 0, none⟩))) rfl rfl (by rfl) (fun w => by go_simp) fun gV7 wv hx0 hbox hge => ?_
 have HNV7BX0 := hid (show gV7 ≠ (w.heap.size) by have := (BX0.out.up EY.out).lt; omega)
 have HNV7BX1 := hid (show gV7 ≠ (w.heap.size + 1) by have := (BX1.out.up EY.out).lt; omega)
 have HNV7BX2 := hid (show gV7 ≠ (w.heap.size + 2) by have := (BX2.out.up EY.out).lt; omega)
 have HGV7 := hid (show w.heap.size ≤ gV7 by have := (E.out.trans EY.out).size; omega)
 replace EY := hid (EY.out.trans hx0)
 replace Q11 := hid (Q11.out.up hx0)
 replace F11 := hid (F11.out.trans hx0)
 have V7 : Hid (Box wv gV7 #[.slice none 0 0, .bool false, .slice none 0 0] 27) := hid hbox
 clear hx0 hbox hge
 simp only [Act.put, pA, pB, pC]
 refine WE.store3 (g := gV7) (x := .slice A11 n11 c11) (y := .bool g11) (z := .slice B11 m11 d11) (t := 27) rfl rfl (by rfl) (fun w hb => ?_) V7.out (by rfl) fun ws hk hs => ?_
 ·obtain ⟨ce0, ce1, ce2⟩ := hb.c3; obtain ⟨f0, f1, f2⟩ := hb.f3; go_simp
 intro hbx
 replace T11 := hid ((T11.out.up F11.out).kb V7.out (by rfl) hk hs)
 replace E := hid ((E.out.trans EY.out).keptG hk HGV7.out)
 replace BX0 := hid ((BX0.out.up EY.out).kept hk (by simpa using HNV7BX0.out.symm))
 replace BX1 := hid ((BX1.out.up EY.out).kept hk (by simpa using HNV7BX1.out.symm))
 replace BX2 := hid ((BX2.out.up EY.out).kept hk (by simpa using HNV7BX2.out.symm))
 replace V7 := hid hbx
 replace Q11 := hid (Q11.out.kz hs)
 clear hk hs hbx
 replace EY := hid (Ext.refl ws)
 replace F11 := hid (Ext.refl ws)
 refine WE.done ?_
 go_upto_region 2 with (fail)
 refine wp_region_S [(0, 0), (1, 0), (2, 1), (3, 0), (4, 0), (5, 0), (6, 0), (7, 0)] fun wd hb => ?_
 replace EY := hid (EY.out.trans hb)
 replace F11 := hid (F11.out.trans hb)
 clear hb
 refine WE.qq 15 (.agg #[.slice A11 n11 c11, .bool g11, .slice B11 m11 d11]) rfl (fun w' hk => by obtain ⟨ce0, ce1, ce2⟩ := ((V7.out.up EY.out).up hk).c3; go_simp) ?_
 refine WE.pp 16 (.int .i64 v) ?_
 refine WE.cc 17 ((place_some (show IsL _ _ _ _ _ from ⟨_, _, _, _, _, _, _, rfl, (T11.out.up F11.out), (Q11.out.up EY.out), O11.out⟩) (by have := HN.out; omega) HCF.out).mono ?_)
 rintro e wn ⟨i, rfl, hg, hb⟩
 refine ⟨_, rfl, hb, ?_⟩
 replace EY := hid (EY.out.trans hb)
 replace F11 := hid (F11.out.trans hb)
 have HG := hid hg
 clear hb hg
 refine WE.pp 14 (.tuple #[(.int .i64 (i : Int)), (.bool true)]) ?_
 refine WE.pp 18 (.int .i64 (i : Int)) ?_
 refine WE.pp 19 (.bool true) ?_
 simp only [Act.put, pA, pB, pC]
 refine WE.pp 8 (.int .i64 (i : Int)) ?_
 refine WE.pp 9 (.bool true) ?_
 simp only [Act.put, pA, pB, pC]
 refine WE.done ?_
 go_upto_region 3 with (fail)
 refine wp_region_S [(0, 0), (1, 0)] fun wd hb => ?_
 replace EY := hid (EY.out.trans hb)
 replace F11 := hid (F11.out.trans hb)
 clear hb
 refine WE.pp 20 (.bool true) ?_
 refine WE.pp 21 (.bool false) ?_
 simp only [Act.put, pA, pB, pC]
 refine WE.done ?_
 have HIN := hid (show i + 1 ≤ n11 by have := (List.getElem?_eq_some_iff.1 HG.out).1; have := T11.out.count.1; omega)
 have hin := HIN.out
 have hb9 : n11 ≤ 9223372036854775807 := T11.out.count.2.2
 have hnc : n11 ≤ c11 := T11.out.count.2.1
 obtain ⟨i1, hi1⟩ : ∃ i1 : Nat, i + 1 = i1 := ⟨_, rfl⟩
 have hii : (i : Int) + 1 = (i1 : Int) := by omega
 have hwi1 : IntKind.i64.wrap (i1 : Int) = (i1 : Int) := by rw [IntKind.wrap_i64]; omega
 obtain ⟨A21, n21, c21, hsa⟩ : ∃ A' n' c', Value.slice (if c11 = 0 then A11 else A11.map (·.add (0 * 3))) i c11 = .slice A' n' c' := ⟨_, _, _, rfl⟩
 obtain ⟨A22, n22, c22, hsb⟩ : ∃ A' n' c', Value.slice (if c11 = i1 then A11 else A11.map (·.add (i1 * 3))) (n11 - i1) (c11 - i1) = .slice A' n' c' := ⟨_, _, _, rfl⟩
 have HSA := hid (show ∀ w, (Instr.slice 22 (.slice A11 n11 c11) none (some (.int .i64 (i : Int))) none).run Tryz.prog w = .ok (.slice A21 n21 c21) w from fun w => hsa ▸ slice_toL (k := i) (by omega) w)
 have HSB := hid (show ∀ w, (Instr.slice 22 (.slice A11 n11 c11) (some (.int .i64 (i1 : Int))) none none).run Tryz.prog w = .ok (.slice A22 n22 c22) w from fun w => hsb ▸ slice_fromL (k := i1) (by omega) w)
 have T21 := hid (show LTm _ (.slice A21 n21 c21) (t.take i) W from hsa ▸ (T11.out.up F11.out).to_ (k := i) (by omega))
 have T22 := hid (show LTm _ (.slice A22 n22 c22) (t.drop (i + 1)) W from by rw [hi1]; exact hsb ▸ (T11.out.up F11.out).from_ (k := i1) (by omega))
 have F21 := hid (Ext.refl wd)
 have F22 := hid (Ext.refl wd)
 have O21 := hid (M.okT_take O11.out i)
 have O22 := hid (M.okT_drop O11.out (i + 1))
 clear hsa hsb
 go_upto_region 5 with (fail)
 refine wp_region_X [] [(0, 0), (1, 0), (2, 0), (3, 0), (4, 0), (5, 0), (6, 0), (7, 5), (8, 5), (9, 5), (10, 5), (11, 5), (12, 5), (13, 3), (14, 3), (15, 4), (16, 4)] (fun _ => (27, #[.slice none 0 0, .bool false, .slice none 0 0])) rfl (by kernel_rfl) (by intro j hj; simp [pend] at hj; rcases hj with rfl | rfl <;> exact ⟨_, rfl, rfl, rfl, fun w => by go_simp⟩) (fun _ _ d _ _ => by cases d <;> exact Iff.rfl) fun wd hb => ?_
 replace EY := hid (EY.out.trans hb)
 replace F11 := hid (F11.out.trans hb)
 replace F21 := hid (F21.out.trans hb)
 replace F22 := hid (F22.out.trans hb)
 clear hb
 have HL1BX0 := hid (BX0.out.up EY.out).lt
 have HL1BX1 := hid (BX1.out.up EY.out).lt
 have HL1BX2 := hid (BX2.out.up EY.out).lt
 have HL1V7 := hid (V7.out.up EY.out).lt
 have HW1 := hid (show w.heap.size ≤ wd.heap.size from (E.out.trans EY.out).size)
 refine WX.pp 25 (.pointer (some ⟨gV7, 0, none⟩)) ?_
 refine WX.qq 26 (.slice A11 n11 c11) rfl (fun w' hk => by have ce0 := ((V7.out.up EY.out).up hk).k 0; go_simp) ?_
 refine WX.pp 27 (.int .i64 (i : Int)) ?_
 refine WX.qq 28 (.slice A21 n21 c21) rfl (fun w' hk => by have hf := HSA.out; go_simp) ?_
 refine WX.pp 29 (.pointer (some ⟨gV7, 1, none⟩)) ?_
 refine WX.qq 30 (.agg #[.bool g11, .slice B11 m11 d11]) rfl (fun w' hk => by obtain ⟨ce0, ce1, ce2⟩ := ((V7.out.up EY.out).up hk).c3; go_simp) ?_
 simp only [Act.put, pA, pB, pC]
 refine WX.pp 31 (.agg #[.slice A21 n21 c21, .bool g11, .slice B11 m11 d11]) ?_
 refine WX.any (d := some 32) rfl rfl (by rfl) (v := (.pointer (some ⟨gV7, 0, none⟩))) (fun w' hk => by go_simp) ?_
 refine WX.any (d := some 33) rfl rfl (by rfl) (v := (.slice A11 n11 c11)) (fun w' hk => ?_) ?_
 ·have ce0 := ((V7.out.up EY.out).keptX hk HL1V7.out nm_nil).cell (o := 0) (v := .slice A11 n11 c11) rfl; go_simp
 refine WX.any (d := some 34) rfl rfl (by rfl) (v := (.int .i64 (i : Int))) (fun w' hk => by go_simp) ?_
 refine WX.any (d := some 35) rfl rfl (by rfl) (v := (.int .i64 (i1 : Int))) (fun w' hk => by go_simp) ?_
 refine WX.any (d := some 36) rfl rfl (by rfl) (v := (.slice A22 n22 c22)) (fun w' hk => ?_) ?_
 ·have hf := HSB.out; go_simp
 refine WX.any (d := some 37) rfl rfl (by rfl) (v := (.agg #[.slice A22 n22 c22, .bool false, .slice none 0 0])) (fun w' hk => by go_simp) ?_
 simp only [Act.put, pA, pB, pC]
 refine WX.var (d := some 10) rfl fun gV10 wv hx0 hbox hge hng => ?_
 have HNV10BX1 := hid (show gV10 ≠ (w.heap.size + 1) by have := HL1BX1.out; omega)
 have HNV10BX2 := hid (show gV10 ≠ (w.heap.size + 2) by have := HL1BX2.out; omega)
 have HNV10V7 := hid (show gV10 ≠ gV7 by have := HL1V7.out; omega)
 have HGV10 := hid (show w.heap.size ≤ gV10 by have := HW1.out; omega)
 replace EY := hid (EY.out.trans hx0)
 replace F11 := hid (F11.out.trans hx0)
 replace F21 := hid (F21.out.trans hx0)
 replace F22 := hid (F22.out.trans hx0)
 have V10 : Hid (Box wv gV10 #[.slice none 0 0, .bool false, .slice none 0 0] 27) := hid hbox
 have HBV10 := hid hge
 clear hx0 hbox hge hng
 simp only [Act.put, pA, pB, pC]
 refine WX.var (d := some 11) rfl fun gV11 wv hx0 hbox hge hng => ?_
 have HNV11BX1 := hid (show gV11 ≠ (w.heap.size + 1) by have := HL1BX1.out; omega)
 have HNV11BX2 := hid (show gV11 ≠ (w.heap.size + 2) by have := HL1BX2.out; omega)
 have HNV11V7 := hid (show gV11 ≠ gV7 by have := HL1V7.out; omega)
 have HNV11V10 := hid (show gV11 ≠ gV10 by intro e; exact hng (by simp [e]))
 have HGV11 := hid (show w.heap.size ≤ gV11 by have := HW1.out; omega)
 replace EY := hid (EY.out.trans hx0)
 replace V10 := hid (V10.out.up hx0)
 replace F11 := hid (F11.out.trans hx0)
 replace F21 := hid (F21.out.trans hx0)
 replace F22 := hid (F22.out.trans hx0)
 have V11 : Hid (Box wv gV11 #[.slice none 0 0, .bool false, .slice none 0 0] 27) := hid hbox
 have HBV11 := hid hge
 clear hx0 hbox hge hng
 simp only [Act.put, pA, pB, pC]
 refine WX.store3 (g := gV10) (x := .slice A21 n21 c21) (y := .bool g11) (z := .slice B11 m11 d11) (t := 27) rfl rfl (by rfl) (fun w hb => ?_) V10.out (by rfl) (.inr HBV10.out) fun ws hk hs => ?_
 ·obtain ⟨ce0, ce1, ce2⟩ := hb.c3; obtain ⟨f0, f1, f2⟩ := hb.f3; go_simp
 intro hbx
 replace T11 := hid ((T11.out.up F11.out).kb V10.out (by rfl) hk hs)
 replace T21 := hid ((T21.out.up F21.out).kb V10.out (by rfl) hk hs)
 replace T22 := hid ((T22.out.up F22.out).kb V10.out (by rfl) hk hs)
 replace E := hid ((E.out.trans EY.out).keptG hk HGV10.out)
 replace BX1 := hid ((BX1.out.up EY.out).kept hk (by simpa using HNV10BX1.out.symm))
 replace BX2 := hid ((BX2.out.up EY.out).kept hk (by simpa using HNV10BX2.out.symm))
 replace V7 := hid ((V7.out.up EY.out).kept hk (by simpa using HNV10V7.out.symm))
 replace V10 := hid hbx
 replace V11 := hid (V11.out.kept hk (by simpa using HNV11V10.out))
 replace Q11 := hid ((Q11.out.up EY.out).kz hs)
 clear hk hs hbx
 replace EY := hid (Ext.refl ws)
 replace F11 := hid (Ext.refl ws)
 replace F21 := hid (Ext.refl ws)
 replace F22 := hid (Ext.refl ws)
 refine WX.store3 (g := gV11) (x := .slice A22 n22 c22) (y := .bool false) (z := .slice none 0 0) (t := 27) rfl rfl (by rfl) (fun w hb => ?_) (V11.out.up EY.out) (by rfl) (.inr HBV11.out) fun ws hk hs => ?_
 ·obtain ⟨ce0, ce1, ce2⟩ := hb.c3; obtain ⟨f0, f1, f2⟩ := hb.f3; go_simp
 intro hbx
 replace T11 := hid ((T11.out.up F11.out).kb (V11.out.up EY.out) (by rfl) hk hs)
 replace T21 := hid ((T21.out.up F21.out).kb (V11.out.up EY.out) (by rfl) hk hs)
 replace T22 := hid ((T22.out.up F22.out).kb (V11.out.up EY.out) (by rfl) hk hs)
 replace E := hid ((E.out.trans EY.out).keptG hk HGV11.out)
 replace BX1 := hid ((BX1.out.up EY.out).kept hk (by simpa using HNV11BX1.out.symm))
 replace BX2 := hid ((BX2.out.up EY.out).kept hk (by simpa using HNV11BX2.out.symm))
 replace V7 := hid ((V7.out.up EY.out).kept hk (by simpa using HNV11V7.out.symm))
 replace V10 := hid ((V10.out.up EY.out).kept hk (by simpa using HNV11V10.out.symm))
 replace V11 := hid hbx
 replace Q11 := hid ((Q11.out.up EY.out).kz hs)
 clear hk hs hbx
 replace EY := hid (Ext.refl ws)
 replace F11 := hid (Ext.refl ws)
 replace F21 := hid (Ext.refl ws)
 replace F22 := hid (Ext.refl ws)
 refine WX.done ?_
 obtain ⟨ad, ge, Ae, ne, ce, rfl, ka, kb, kc, kz⟩ := T11.out.get HG.out
 have KB := hid kb
 have KC := hid kc
 have QE := hid (IsZ.to (kz.up F11.out) (show (v, M.coef t v).2 = M.coef t v from rfl))
 clear ka kb kc kz
 have hin2 : i < n11 := by omega
 go_upto_region 6 with (fail)
 refine wp_region_D [(0, 0), (1, 0), (3, 0), (4, 0), (5, 0), (6, 0), (7, 0), (8, 0), (10, 0), (2, 1), (9, 1), (11, 1), (12, 1), (13, 4)] fun wd hb => ?_
 replace EY := hid (EY.out.trans hb)
 replace QE := hid (QE.out.up hb)
 replace F11 := hid (F11.out.trans hb)
 replace F21 := hid (F21.out.trans hb)
 replace F22 := hid (F22.out.trans hb)
 clear hb
 refine WE.qq 38 (.agg #[.slice A21 n21 c21, .bool g11, .slice B11 m11 d11]) rfl (fun w' hk => by obtain ⟨ce0, ce1, ce2⟩ := ((V10.out.up EY.out).up hk).c3; go_simp) ?_
 refine WE.qq 39 (.agg #[.slice A2 n2 c2, .bool g2, .slice B2 m2 d2]) rfl (fun w' hk => by obtain ⟨ce0, ce1, ce2⟩ := ((BX1.out.up EY.out).up hk).c3; go_simp) ?_
 refine WE.pp 41 (.pointer (some ⟨gV7, 0, none⟩)) ?_
 refine WE.qq 42 (.slice (some ad) n11 c11) rfl (fun w' hk => by have ce0 := ((V7.out.up EY.out).up hk).k 0; go_simp) ?_
 refine WE.pp 43 (.int .i64 (i : Int)) ?_
 refine WE.pp 44 (.pointer (some (ad.add (i * 3)))) ?_
 simp only [Act.put, pA, pB, pC]
 refine WE.pp 45 (.pointer (some ⟨(ad.add (i * 3)).block, (ad.add (i * 3)).off + 1, none⟩)) ?_
 refine WE.qq 46 (.agg #[.bool ge, .slice Ae ne ce]) rfl (fun w' hk => by have ce1 : w'.cell? ⟨(ad.add (i * 3)).block, (ad.add (i * 3)).off + 1, none⟩ = some (.bool ge) := (KB.out.up F11.out).up hk; have ce2 : w'.cell? ⟨(ad.add (i * 3)).block, (ad.add (i * 3)).off + 2, none⟩ = some (.slice Ae ne ce) := (KC.out.up F11.out).up hk; go_simp) ?_
 refine WE.qq 48 (.agg #[.slice A22 n22 c22, .bool false, .slice none 0 0]) rfl (fun w' hk => by obtain ⟨ce0, ce1, ce2⟩ := ((V11.out.up EY.out).up hk).c3; go_simp) ?_
 refine WE.cc 40 ((readL_l (HB2.out.up (E.out.trans EY.out))).mono ?_)
 rintro e w12 ⟨v1, rfl, x1, hb⟩
 obtain ⟨A12, n12, c12, g12, B12, m12, d12, rfl, t1, k1, o1⟩ := x1
 refine ⟨_, rfl, hb, ?_⟩
 replace EY := hid (EY.out.trans hb)
 replace QE := hid (QE.out.up hb)
 replace F21 := hid (F21.out.trans hb)
 replace F22 := hid (F22.out.trans hb)
 have T12 := hid t1
 have Q12 := hid k1
 have O12 := hid o1
 have F12 := hid (Ext.refl w12)
 clear hb t1 k1 o1
 refine WE.cc 47 ((scaledL_l (show IsL _ _ _ _ _ from ⟨_, _, _, _, _, _, _, rfl, (T12.out.up F12.out), Q12.out, O12.out⟩) QE.out.worth (by have := HW.out; omega) (by have := HM.out; omega)).mono ?_)
 rintro e w13 ⟨v1, rfl, x1, hb⟩
 obtain ⟨A13, n13, c13, g13, B13, m13, d13, rfl, t1, k1, o1⟩ := x1
 refine ⟨_, rfl, hb, ?_⟩
 replace EY := hid (EY.out.trans hb)
 replace F21 := hid (F21.out.trans hb)
 replace F22 := hid (F22.out.trans hb)
 have T13 := hid t1
 have Q13 := hid k1
 have O13 := hid o1
 have F13 := hid (Ext.refl w13)
 clear hb t1 k1 o1
 simp only [Act.put, pA, pB, pC]
 refine WE.new (d := some 49) (cs := #[.slice A21 n21 c21, .bool g11, .slice B11 m11 d11, .slice A13 n13 c13, .bool g13, .slice B13 m13 d13, .slice A22 n22 c22, .bool false, .slice none 0 0]) (t := 27) (v := fun g => (.slice (some ⟨g, 0, none⟩) 3 3)) rfl rfl (by rfl) (fun w => by go_simp) fun gL1 wv hx0 hbox hge => ?_
 replace EY := hid (EY.out.trans hx0)
 replace Q13 := hid (Q13.out.up hx0)
 replace F21 := hid (F21.out.trans hx0)
 replace F22 := hid (F22.out.trans hx0)
 replace F13 := hid (F13.out.trans hx0)
 have L1 : Hid (Box wv gL1 #[.slice A21 n21 c21, .bool g11, .slice B11 m11 d11, .slice A13 n13 c13, .bool g13, .slice B13 m13 d13, .slice A22 n22 c22, .bool false, .slice none 0 0] 27) := hid hbox
 clear hx0 hbox hge
 refine WE.cc 50 ((sum_to (t := M.putT t v s) (κ := κ + μ * M.coef t v) (U := W + W + 1) (flist3 L1.out (IsL.wide (show IsL _ _ _ _ W from ⟨_, _, _, _, _, _, _, rfl, (T21.out.up F21.out), (Q11.out.up EY.out), O21.out⟩) (U := W + W) (by omega)) (show IsL _ _ _ _ _ from ⟨_, _, _, _, _, _, _, rfl, (T13.out.up F13.out), Q13.out, O13.out⟩) (IsL.wide (show IsL _ _ _ _ W from ⟨_, _, _, _, _, _, _, rfl, (T22.out.up F22.out), IsZ.nought.wide (Nat.zero_le _), O22.out⟩) (U := W + W) (by omega))) (by have := HW.out; omega) (by rw [M.cat_three]; have := HN.out; have := HM.out; have := M.scaleT_len s (M.coef t v); have := T21.out.count.1; rw [List.length_take, List.length_drop]; omega) (M.okT_putT O11.out O12.out v) (fun x => by rw [M.coef_putT O11.out O12.out, M.csum_three _ _ _ O21.out O13.out O22.out, M.coef_scaleT]; have := M.coef_around O11.out HG.out rfl x; simp only [] at this; omega) (by simp [M.ksum]) (M.putT_width O11.out O12.out T11.out.2 T12.out.2) (by exact M.limbs_plus (W := W + W) (Nat.le_trans (Q11.out.up EY.out).fields.2.2 (by omega)) Q13.out.fields.2.2)).mono ?_)
 rintro e w14 ⟨v1, rfl, x1, hb⟩
 obtain ⟨A14, n14, c14, g14, B14, m14, d14, rfl, t1, k1, o1⟩ := x1
 refine ⟨_, rfl, hb, ?_⟩
 replace EY := hid (EY.out.trans hb)
 have T14 := hid t1
 have Q14 := hid k1
 have O14 := hid o1
 have F14 := hid (Ext.refl w14)
 clear hb t1 k1 o1
 simp only [Act.put, pA, pB, pC]
 clear F11
 clear F21
 clear F22
 clear F12
 clear F13
 refine WE.store3 (g := (w.heap.size + 2)) (x := .slice A14 n14 c14) (y := .bool g14) (z := .slice B14 m14 d14) (t := 27) rfl rfl (by rfl) (fun w hb => ?_) (BX2.out.up EY.out) (by rfl) fun ws hk hs => ?_
 ·obtain ⟨ce0, ce1, ce2⟩ := hb.c3; obtain ⟨f0, f1, f2⟩ := hb.f3; go_simp
 intro hbx
 replace T14 := hid ((T14.out.up F14.out).kb (BX2.out.up EY.out) (by rfl) hk hs)
 replace E := hid ((E.out.trans EY.out).keptG hk (by simp))
 replace BX2 := hid hbx
 replace Q14 := hid (Q14.out.kz hs)
 clear hk hs hbx
 replace EY := hid (Ext.refl ws)
 replace F14 := hid (Ext.refl ws)
 refine WE.done ?_
 have r0 := (BX2.out.up EY.out).cell (o := 0) (v := .slice A14 n14 c14) rfl
 have r1 := (BX2.out.up EY.out).cell (o := 1) (v := .bool g14) rfl
 have r2 := (BX2.out.up EY.out).cell (o := 2) (v := .slice B14 m14 d14) rfl
 repeat go_step
 exact bodyPost_ret (v := .agg #[.slice A14 n14 c14, .bool g14, .slice B14 m14 d14]) (by simp [results, Tryz.results30, go_sem, r0, r1, r2]) rfl ⟨_, rfl, ⟨_, _, _, _, _, _, _, rfl, (T14.out.up F14.out), (Q14.out.up EY.out), O14.out⟩, (E.out.trans EY.out)⟩

theorem putL_l {w : World} {u u' : Value} {t s : M.Tm} {κ μ : Int} {W : Nat} (h1 : WorthL w u t κ W) (h2 : WorthL w u' s μ W) (hw : W ≤ 50) (hn : t.length ≤ 100) (hm : s.length ≤ 100) {v : Int} : Calls Tryz.prog 30 #[u, .int .i64 v, u'] w (GivesL w (M.putT t v s) (κ + μ * M.coef t v) (W + W + 1)) := by
 by_cases hc : M.coef t v = 0
 ·exact putL_none h1 h2 hw hn hm hc
 ·exact putL_some h1 h2 hw hn hm hc

end Go.Proofs.YtklmnmkmpkobhaaGreat
