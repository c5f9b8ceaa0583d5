/-
  Contracts of the reference's forms: Sub, Put.
-/
import Derived.Test.YtklmnmkmpkobhaaGreatLRefF
import Derived.Test.YtklmnmkmpkobhaaGreatLOpen
namespace Go.Proofs.YtklmnmkmpkobhaaGreat
open Go.RowKit
set_option linter.unusedSimpArgs false
set_option linter.unusedVariables false

theorem M.dropT_snoc (t : M.Tm) (x : Int × Int) (v : Int) : M.dropT (t ++ [x]) v = M.dropT t v ++ (if x.1 = v then [] else [x]) := by
 unfold M.dropT
 rw [List.filter_append]
 congr 1
 by_cases h : x.1 = v
 ·rw [if_pos h]; simp [h]
 ·rw [if_neg h]; simp [h]

set_option maxHeartbeats 4000000 in
theorem rSubL_l {w : World} {u v : Value} {t s : M.Tm} {κ μ : Int} {W : Nat} (h1 : WorthL w u t κ W) (h2 : WorthL w v s μ W) (hw : W ≤ 200) (hn : t.length ≤ 400) (hm : s.length ≤ 400) :
 Calls Tryz.prog 24 #[u, v] w (GivesL w (M.addT t (M.scaleT s (-1))) (κ + μ * -1) (W + 3 + (W + 3) + 1)) := by
 obtain ⟨A1, n1, c1, g1, B1, m1, d1, rfl⟩ := h1.shape
 have R1 := hid h1
 obtain ⟨A2, n2, c2, g2, B2, m2, d2, rfl⟩ := h2.shape
 have R2 := hid h2
 have HW := hid hw
 have HN := hid hn
 have HM := hid hm
 clear hw hn hm
 clear h1 h2
 go_enter Tryz.func24, Tryz.ntmps24
 go_upto_region 1 with (fail)
 obtain ⟨E, BX0, BX1, BX2⟩ := open3 w #[.slice A1 n1 c1, .bool g1, .slice B1 m1 d1] 27 #[.slice A2 n2 c2, .bool g2, .slice B2 m2 d2] 27 #[.slice none 0 0, .bool false, .slice none 0 0] 27
 replace R1 := hid (R1.out.up E.out)
 replace R2 := hid (R2.out.up E.out)
 refine wp_region_D [(0, 0), (1, 0), (2, 1), (3, 1), (4, 1), (5, 4)] fun wd hb => ?_
 replace E := hid (E.out.trans hb)
 replace BX0 := hid (BX0.out.up hb)
 replace BX1 := hid (BX1.out.up hb)
 replace BX2 := hid (BX2.out.up hb)
 replace R1 := hid (R1.out.up hb)
 replace R2 := hid (R2.out.up hb)
 clear hb
 have EY := hid (Ext.refl wd)
 refine WE.qq 5 (.agg #[.slice A1 n1 c1, .bool g1, .slice B1 m1 d1]) rfl (fun w' hk => by obtain ⟨ce0, ce1, ce2⟩ := ((BX0.out.up EY.out).up hk).c3; go_simp) ?_
 refine WE.qq 6 (.agg #[.slice A2 n2 c2, .bool g2, .slice B2 m2 d2]) rfl (fun w' hk => by obtain ⟨ce0, ce1, ce2⟩ := ((BX1.out.up EY.out).up hk).c3; go_simp) ?_
 refine WE.cc 7 ((rOf_z (n := (-1)) (by decide) (by decide) _).mono ?_)
 rintro e wn ⟨v1, rfl, x1, hb⟩
 obtain ⟨g11, A11, n11, c11, rfl⟩ := x1.shape
 refine ⟨_, rfl, hb, ?_⟩
 replace EY := hid (EY.out.trans hb)
 have Q11 := hid x1
 clear hb x1
 refine WE.cc 8 ((rScaleL_l (W := W + 3) ((R2.out.up EY.out).wide (by omega)) (Q11.out.worth.wide (by omega)) (by have := HW.out; omega) (by have := HM.out; omega)).mono ?_)
 rintro e w12 ⟨v1, rfl, x1, hb⟩
 obtain ⟨A12, n12, c12, g12, B12, m12, d12, rfl, t1, k1, o1⟩ := x1
 refine ⟨_, rfl, hb, ?_⟩
 replace EY := hid (EY.out.trans hb)
 have T12 := hid t1
 have Q12 := hid k1
 have O12 := hid o1
 have F12 := hid (Ext.refl w12)
 clear hb t1 k1 o1
 refine WE.cc 9 ((rAddL_l ((R1.out.up EY.out).wide (W := W) (U := W + 3 + (W + 3)) (by omega)) (show IsL _ _ _ _ _ from ⟨_, _, _, _, _, _, _, rfl, (T12.out.up F12.out), Q12.out, O12.out⟩).worth (by have := HW.out; omega) (by have := HN.out; omega) (by have := HM.out; have := M.scaleT_len s (-1); omega)).mono ?_)
 rintro e w13 ⟨v1, rfl, x1, hb⟩
 obtain ⟨A13, n13, c13, g13, B13, m13, d13, rfl, t1, k1, o1⟩ := x1
 refine ⟨_, rfl, hb, ?_⟩
 replace EY := hid (EY.out.trans hb)
 have T13 := hid t1
 have Q13 := hid k1
 have O13 := hid o1
 have F13 := hid (Ext.refl w13)
 clear hb t1 k1 o1
 simp only [Act.put, pA, pB, pC]
 clear F12
 refine WE.store3 (g := (w.heap.size + 2)) (x := .slice A13 n13 c13) (y := .bool g13) (z := .slice B13 m13 d13) (t := 27) rfl rfl (by rfl) (fun w hb => ?_) (BX2.out.up EY.out) (by rfl) fun ws hk hs => ?_
 ·obtain ⟨ce0, ce1, ce2⟩ := hb.c3; obtain ⟨f0, f1, f2⟩ := hb.f3; go_simp
 intro hbx
 replace T13 := hid ((T13.out.up F13.out).kb (BX2.out.up EY.out) (by rfl) hk hs)
 replace E := hid ((E.out.trans EY.out).keptG hk (by simp))
 replace BX2 := hid hbx
 replace Q13 := hid (Q13.out.kz hs)
 clear hk hs hbx
 replace EY := hid (Ext.refl ws)
 replace F13 := hid (Ext.refl ws)
 refine WE.done ?_
 have r0 := (BX2.out.up EY.out).cell (o := 0) (v := .slice A13 n13 c13) rfl
 have r1 := (BX2.out.up EY.out).cell (o := 1) (v := .bool g13) rfl
 have r2 := (BX2.out.up EY.out).cell (o := 2) (v := .slice B13 m13 d13) rfl
 repeat go_step
 exact bodyPost_ret (v := .agg #[.slice A13 n13 c13, .bool g13, .slice B13 m13 d13]) (by simp [results, Tryz.results24, go_sem, r0, r1, r2]) rfl ⟨_, rfl, ⟨_, _, _, _, _, _, _, rfl, (T13.out.up F13.out), (Q13.out.up EY.out), O13.out⟩, (E.out.trans EY.out)⟩

set_option maxRecDepth 100000 in
set_option maxHeartbeats 8000000 in
theorem rPutL_l {w : World} {u u' : Value} {t s : M.Tm} {κ μ : Int} {W : Nat} (h1 : WorthL w u t κ W) (h2 : WorthL w u' s μ W) (hw : W ≤ 200) (hn : t.length ≤ 400) (hm : s.length ≤ 400) (v : Int) :
 Calls Tryz.prog 31 #[u, .int .i64 v, u'] w (GivesL w (M.putT t v s) (κ + μ * M.coef t v) (W + W + 1)) := by
 obtain ⟨A1, n1, c1, g1, B1, m1, d1, rfl⟩ := h1.shape
 have R1 := hid h1
 obtain ⟨A2, n2, c2, g2, B2, m2, d2, rfl⟩ := h2.shape
 have HB2 := hid h2
 have HW := hid hw
 have HN := hid hn
 have HM := hid hm
 clear hw hn hm
 clear h1 h2
 go_enter Tryz.func31, Tryz.ntmps31
 go_upto_region 1 with (fail)
 obtain ⟨E, BX0, BX1, BX2⟩ := open3 w #[.slice A1 n1 c1, .bool g1, .slice B1 m1 d1] 27 #[.slice A2 n2 c2, .bool g2, .slice B2 m2 d2] 27 #[.slice none 0 0, .bool false, .slice none 0 0] 27
 replace R1 := hid (R1.out.up E.out)
 refine wp_region_S [(0, 0), (1, 1), (2, 1), (3, 4)] fun wd hb => ?_
 replace E := hid (E.out.trans hb)
 replace BX0 := hid (BX0.out.up hb)
 replace BX1 := hid (BX1.out.up hb)
 replace BX2 := hid (BX2.out.up hb)
 replace R1 := hid (R1.out.up hb)
 clear hb
 have EY := hid (Ext.refl wd)
 refine WE.qq 11 (.agg #[.slice A1 n1 c1, .bool g1, .slice B1 m1 d1]) rfl (fun w' hk => by obtain ⟨ce0, ce1, ce2⟩ := ((BX0.out.up EY.out).up hk).c3; go_simp) ?_
 refine WE.cc 12 ((rMayL_l (R1.out.up EY.out)).mono ?_)
 rintro e w11 ⟨v1, rfl, x1, hb⟩
 obtain ⟨A11, n11, c11, g11, B11, m11, d11, rfl, t1, k1, o1⟩ := x1
 refine ⟨_, rfl, hb, ?_⟩
 replace EY := hid (EY.out.trans hb)
 have T11 := hid t1
 have Q11 := hid k1
 have O11 := hid o1
 have F11 := hid (Ext.refl w11)
 clear hb t1 k1 o1
 simp only [Act.put, pA, pB, pC]
 refine WE.new (d := some 7) (cs := #[.slice none 0 0, .bool false, .slice none 0 0]) (t := 27) (v := fun g => (.pointer (some ⟨g, 0, none⟩))) rfl rfl (by rfl) (fun w => by go_simp) fun gV7 wv hx0 hbox hge => ?_
 have HNV7BX1 := hid (show gV7 ≠ (w.heap.size + 1) by have := (BX1.out.up EY.out).lt; omega)
 have HNV7BX2 := hid (show gV7 ≠ (w.heap.size + 2) by have := (BX2.out.up EY.out).lt; omega)
 have HGV7 := hid (show w.heap.size ≤ gV7 by have := (E.out.trans EY.out).size; omega)
 replace EY := hid (EY.out.trans hx0)
 replace Q11 := hid (Q11.out.up hx0)
 replace F11 := hid (F11.out.trans hx0)
 have V7 : Hid (Box wv gV7 #[.slice none 0 0, .bool false, .slice none 0 0] 27) := hid hbox
 clear hx0 hbox hge
 simp only [Act.put, pA, pB, pC]
 refine WE.store3 (g := gV7) (x := .slice A11 n11 c11) (y := .bool g11) (z := .slice B11 m11 d11) (t := 27) rfl rfl (by rfl) (fun w hb => ?_) V7.out (by rfl) fun ws hk hs => ?_
 ·obtain ⟨ce0, ce1, ce2⟩ := hb.c3; obtain ⟨f0, f1, f2⟩ := hb.f3; go_simp
 intro hbx
 replace T11 := hid ((T11.out.up F11.out).kb V7.out (by rfl) hk hs)
 replace E := hid ((E.out.trans EY.out).keptG hk HGV7.out)
 replace BX1 := hid ((BX1.out.up EY.out).kept hk (by simpa using HNV7BX1.out.symm))
 replace BX2 := hid ((BX2.out.up EY.out).kept hk (by simpa using HNV7BX2.out.symm))
 replace V7 := hid hbx
 replace Q11 := hid (Q11.out.kz hs)
 clear hk hs hbx
 replace EY := hid (Ext.refl ws)
 replace F11 := hid (Ext.refl ws)
 refine WE.done ?_
 go_upto_region 2 with (fail)
 refine wp_region_S [(0, 0), (1, 0), (2, 1), (3, 1), (4, 4)] fun wd hb => ?_
 replace EY := hid (EY.out.trans hb)
 replace F11 := hid (F11.out.trans hb)
 clear hb
 refine WE.qq 13 (.agg #[.slice A11 n11 c11, .bool g11, .slice B11 m11 d11]) rfl (fun w' hk => by obtain ⟨ce0, ce1, ce2⟩ := ((V7.out.up EY.out).up hk).c3; go_simp) ?_
 refine WE.pp 14 (.int .i64 v) ?_
 refine WE.cc 15 ((rCoef_l (show IsL _ _ _ _ _ from ⟨_, _, _, _, _, _, _, rfl, (T11.out.up F11.out), (Q11.out.up EY.out), O11.out⟩).worth v).mono ?_)
 rintro e wn ⟨v1, rfl, x1, hb⟩
 obtain ⟨g12, A12, n12, c12, rfl⟩ := x1.shape
 refine ⟨_, rfl, hb, ?_⟩
 replace EY := hid (EY.out.trans hb)
 replace F11 := hid (F11.out.trans hb)
 have Q12 := hid x1
 clear hb x1
 simp only [Act.put, pA, pB, pC]
 refine WE.new (d := some 8) (cs := #[.bool false, .slice none 0 0]) (t := 25) (v := fun g => (.pointer (some ⟨g, 0, none⟩))) rfl rfl (by rfl) (fun w => by go_simp) fun gV8 wv hx0 hbox hge => ?_
 have HNV8BX1 := hid (show gV8 ≠ (w.heap.size + 1) by have := (BX1.out.up EY.out).lt; omega)
 have HNV8BX2 := hid (show gV8 ≠ (w.heap.size + 2) by have := (BX2.out.up EY.out).lt; omega)
 have HNV8V7 := hid (show gV8 ≠ gV7 by have := (V7.out.up EY.out).lt; omega)
 have HGV8 := hid (show w.heap.size ≤ gV8 by have := (E.out.trans EY.out).size; omega)
 replace EY := hid (EY.out.trans hx0)
 replace Q12 := hid (Q12.out.up hx0)
 replace F11 := hid (F11.out.trans hx0)
 have V8 : Hid (Box wv gV8 #[.bool false, .slice none 0 0] 25) := hid hbox
 clear hx0 hbox hge
 simp only [Act.put, pA, pB, pC]
 refine WE.store2 (g := gV8) (x := .bool g12) (y := .slice A12 n12 c12) (t := 25) rfl rfl (by rfl) (fun w hb => ?_) V8.out (by rfl) fun ws hk hs => ?_
 ·obtain ⟨ce0, ce1⟩ := hb.c2; obtain ⟨f0, f1⟩ := hb.f2; go_simp
 intro hbx
 replace T11 := hid ((T11.out.up F11.out).kb V8.out (by rfl) hk hs)
 replace E := hid ((E.out.trans EY.out).keptG hk HGV8.out)
 replace BX1 := hid ((BX1.out.up EY.out).kept hk (by simpa using HNV8BX1.out.symm))
 replace BX2 := hid ((BX2.out.up EY.out).kept hk (by simpa using HNV8BX2.out.symm))
 replace V7 := hid ((V7.out.up EY.out).kept hk (by simpa using HNV8V7.out.symm))
 replace V8 := hid hbx
 replace Q11 := hid ((Q11.out.up EY.out).kz hs)
 replace Q12 := hid (Q12.out.kz hs)
 clear hk hs hbx
 replace EY := hid (Ext.refl ws)
 replace F11 := hid (Ext.refl ws)
 refine WE.done ?_
 go_upto_region 3 with (fail)
 refine wp_region_S [(0, 0), (1, 0), (2, 0), (3, 1), (4, 4)] fun wd hb => ?_
 replace EY := hid (EY.out.trans hb)
 replace F11 := hid (F11.out.trans hb)
 clear hb
 refine WE.pp 16 (.pointer (some ⟨gV7, 1, none⟩)) ?_
 refine WE.qq 17 (.agg #[.bool g11, .slice B11 m11 d11]) rfl (fun w' hk => by obtain ⟨ce0, ce1, ce2⟩ := ((V7.out.up EY.out).up hk).c3; go_simp) ?_
 refine WE.pp 18 (.agg #[.slice none 0 0, .bool g11, .slice B11 m11 d11]) ?_
 simp only [Act.put, pA, pB, pC]
 refine WE.new (d := some 9) (cs := #[.slice none 0 0, .bool false, .slice none 0 0]) (t := 27) (v := fun g => (.pointer (some ⟨g, 0, none⟩))) rfl rfl (by rfl) (fun w => by go_simp) fun gV9 wv hx0 hbox hge => ?_
 have HNV9BX1 := hid (show gV9 ≠ (w.heap.size + 1) by have := (BX1.out.up EY.out).lt; omega)
 have HNV9BX2 := hid (show gV9 ≠ (w.heap.size + 2) by have := (BX2.out.up EY.out).lt; omega)
 have HNV9V7 := hid (show gV9 ≠ gV7 by have := (V7.out.up EY.out).lt; omega)
 have HNV9V8 := hid (show gV9 ≠ gV8 by have := (V8.out.up EY.out).lt; omega)
 have HGV9 := hid (show w.heap.size ≤ gV9 by have := (E.out.trans EY.out).size; omega)
 replace EY := hid (EY.out.trans hx0)
 replace F11 := hid (F11.out.trans hx0)
 have V9 : Hid (Box wv gV9 #[.slice none 0 0, .bool false, .slice none 0 0] 27) := hid hbox
 clear hx0 hbox hge
 simp only [Act.put, pA, pB, pC]
 refine WE.store3 (g := gV9) (x := .slice none 0 0) (y := .bool g11) (z := .slice B11 m11 d11) (t := 27) rfl rfl (by rfl) (fun w hb => ?_) V9.out (by rfl) fun ws hk hs => ?_
 ·obtain ⟨ce0, ce1, ce2⟩ := hb.c3; obtain ⟨f0, f1, f2⟩ := hb.f3; go_simp
 intro hbx
 replace T11 := hid ((T11.out.up F11.out).kb V9.out (by rfl) hk hs)
 replace E := hid ((E.out.trans EY.out).keptG hk HGV9.out)
 replace BX1 := hid ((BX1.out.up EY.out).kept hk (by simpa using HNV9BX1.out.symm))
 replace BX2 := hid ((BX2.out.up EY.out).kept hk (by simpa using HNV9BX2.out.symm))
 replace V7 := hid ((V7.out.up EY.out).kept hk (by simpa using HNV9V7.out.symm))
 replace V8 := hid ((V8.out.up EY.out).kept hk (by simpa using HNV9V8.out.symm))
 replace V9 := hid hbx
 replace Q11 := hid ((Q11.out.up EY.out).kz hs)
 replace Q12 := hid ((Q12.out.up EY.out).kz hs)
 clear hk hs hbx
 replace EY := hid (Ext.refl ws)
 replace F11 := hid (Ext.refl ws)
 refine WE.done ?_
 go_upto_region 4 with (fail)
 refine wp_region_S [(0, 0)] fun wd hb => ?_
 replace EY := hid (EY.out.trans hb)
 replace F11 := hid (F11.out.trans hb)
 clear hb
 refine WE.pp 10 (.int .i64 (0)) ?_
 simp only [Act.put, pA, pB, pC]
 refine WE.done ?_
 have HC := hid T11.out.count
 have hb9 : n11 ≤ 9223372036854775807 := T11.out.count.2.2
 replace T11 := hid (T11.out.up F11.out)
 replace F11 := hid (Ext.refl wd)
 have hlV7 := (V7.out.up EY.out).lt
 have hlV8 := (V8.out.up EY.out).lt
 have hlV9 := (V9.out.up EY.out).lt
 have hlBX1 := (BX1.out.up EY.out).lt
 have hlBX2 := (BX2.out.up EY.out).lt
 have hszw := (E.out.trans EY.out).size
 obtain ⟨base, hbase, HV7', HV8', HV9', HBX1', HBX2', HBW', HBA'⟩ : ∃ base : Nat, base ≤ _ ∧ gV7 < base ∧ gV8 < base ∧ gV9 < base ∧ (w.heap.size + 1) < base ∧ (w.heap.size + 2) < base ∧ w.heap.size ≤ base ∧ wd.heap.size ≤ base := ⟨_, Nat.le_refl _, hlV7, hlV8, hlV9, hlBX1, hlBX2, hszw, Nat.le_refl _⟩
 have HBV7 := hid HV7'
 have HBV8 := hid HV8'
 have HBV9 := hid HV9'
 have HBBX1 := hid HBX1'
 have HBBX2 := hid HBX2'
 have HBW := hid HBW'
 have BE11 := hid (T11.out.bel HBA')
 clear HV7' HV8' HV9' HBX1' HBX2' HBW' HBA' hszw hlV7 hlV8 hlV9 hlBX1 hlBX2
 go_wp2
 go_loopw [10] (fun x10 wr => ∃ (k : Nat) (Ao : Option Addr) (no : Nat) (co : Nat), x10 = .int .i64 (k : Int) ∧ k ≤ n11 ∧ Ext w wr ∧ LTm wr (.slice A11 n11 c11) t W ∧ base ≤ wr.heap.size ∧ Box wr gV7 #[.slice A11 n11 c11, .bool g11, .slice B11 m11 d11] 27 ∧ Box wr gV8 #[.bool g12, .slice A12 n12 c12] 25 ∧ Box wr gV9 #[.slice Ao no co, .bool g11, .slice B11 m11 d11] 27 ∧ Box wr (w.heap.size + 1) #[.slice A2 n2 c2, .bool g2, .slice B2 m2 d2] 27 ∧ Box wr (w.heap.size + 2) #[.slice none 0 0, .bool false, .slice none 0 0] 27 ∧ IsZ wr (.agg #[.bool g12, .slice A12 n12 c12]) (M.coef t v) W ∧ IsZ wr (.agg #[.bool g11, .slice B11 m11 d11]) κ W ∧ LOwn base wr (.slice Ao no co) ((M.dropT (t.take k) v).map M.rawm)) (fun x10 _ => n11 - (intOf x10).toNat)
 case atStart => exact ⟨0, none, 0, 0, rfl, Nat.zero_le _, (E.out.trans EY.out), T11.out, hbase, (V7.out.up EY.out), (V8.out.up EY.out), (V9.out.up EY.out), (BX1.out.up EY.out), (BX2.out.up EY.out), (Q12.out.up EY.out), (Q11.out.up EY.out), .inl ⟨rfl, rfl⟩⟩
 case round =>
  clear E EY F11 T11 V7 V8 V9 BX1 BX2 BX0 Q12 Q11 R1 hbase
  obtain ⟨k, Ao, no, co, rfl, hr0, hr1, hr2, hr3, hr4, hr5, hr6, hr7, hr8, hr9, hr10, hr11⟩ := hrel
  have E := hid hr1
  have T11 := hid hr2
  have HBH := hid hr3
  have V7 := hid hr4
  have V8 := hid hr5
  have V9 := hid hr6
  have BX1 := hid hr7
  have BX2 := hid hr8
  have Q12 := hid hr9
  have Q11 := hid hr10
  have OWN := hid hr11
  clear hr1 hr2 hr3 hr4 hr5 hr6 hr7 hr8 hr9 hr10 hr11
  have EY := hid (Ext.refl wr)
  have hk := hr0
  have F11 := hid (Ext.refl wr)
  have FE := hid (Ext.refl wr)
  by_cases hlt : k < n11
  ·have hlt' : decide ((k : Int) < (n11 : Int)) = true := decide_eq_true (by omega)
   obtain ⟨x, hx⟩ : ∃ x, t[k]? = some x := ⟨_, List.getElem?_eq_getElem (by rw [← HC.out.1]; exact hlt)⟩
   obtain ⟨ad, ge, Ae, ne, ce, rfl, ka, kb, kc, kz⟩ := T11.out.get hx
   obtain ⟨xv, xc⟩ := x
   have HX := hid hx
   have KA := hid ka
   have KB := hid kb
   have KC := hid kc
   have QE := hid kz
   clear hx ka kb kc kz
   go_upto_region 5 with (fail)
   refine wp_region_S [(0, 0), (1, 0), (2, 0), (3, 0), (4, 0)] fun wd hb => ?_
   replace EY := hid (EY.out.trans hb)
   replace F11 := hid (F11.out.trans hb)
   replace FE := hid (FE.out.trans hb)
   clear hb
   refine WE.pp 19 (.int .i64 (k : Int)) ?_
   refine WE.pp 20 (.pointer (some ⟨gV7, 0, none⟩)) ?_
   refine WE.qq 21 (.slice (some ad) n11 c11) rfl (fun w' hk => by have ce0 := ((V7.out.up EY.out).up hk).k 0; go_simp) ?_
   refine WE.pp 22 (.int .i64 (n11 : Int)) ?_
   refine WE.pp 23 (.bool true) ?_
   simp only [Act.put, pA, pB, pC]
   refine WE.done ?_
   by_cases hv : xv = v
   ·have hvd : (xv != v) = false := by rw [hv]; simp
    go_upto_region 7 with (fail)
    refine wp_region_S [(0, 0), (1, 0), (2, 0), (3, 0), (4, 0), (5, 0), (6, 0), (7, 0)] fun wd hb => ?_
    replace EY := hid (EY.out.trans hb)
    replace F11 := hid (F11.out.trans hb)
    replace FE := hid (FE.out.trans hb)
    clear hb
    refine WE.pp 26 (.pointer (some ⟨gV7, 0, none⟩)) ?_
    refine WE.qq 27 (.slice (some ad) n11 c11) rfl (fun w' hk => by have ce0 := ((V7.out.up EY.out).up hk).k 0; go_simp) ?_
    refine WE.pp 28 (.int .i64 (k : Int)) ?_
    refine WE.pp 29 (.pointer (some (ad.add (k * 3)))) ?_
    refine WE.pp 30 (.pointer (some (ad.add (k * 3)))) ?_
    refine WE.qq 31 (.int .i64 xv) rfl (fun w' hk => by have ce0 : w'.cell? (ad.add (k * 3)) = some (.int .i64 xv) := (KA.out.up FE.out).up hk; go_simp) ?_
    simp only [Act.put, pA, pB, pC]
    refine WE.pp 32 (.int .i64 v) ?_
    refine WE.pp 33 (.bool false) ?_
    simp only [Act.put, pA, pB, pC]
    refine WE.done ?_
    go_wp2
    go_roundw
    case rel => exact ⟨k + 1, Ao, no, co, by go_num, by omega, (E.out.trans EY.out), T11.out.up F11.out, Nat.le_trans HBH.out EY.out.size, (V7.out.up EY.out), (V8.out.up EY.out), (V9.out.up EY.out), (BX1.out.up EY.out), (BX2.out.up EY.out), (Q12.out.up EY.out), (Q11.out.up EY.out), by rw [List.take_add_one, HX.out, Option.toList_some, M.dropT_snoc, if_pos hv, List.append_nil]; exact (OWN.out.up EY.out)⟩
    case measure => simp [intOf]; all_goals omega
   ·have hvd : (xv != v) = true := by simpa using hv
    go_upto_region 7 with (fail)
    refine wp_region_S [(0, 0), (1, 0), (2, 0), (3, 0), (4, 0), (5, 0), (6, 0), (7, 0)] fun wd hb => ?_
    replace EY := hid (EY.out.trans hb)
    replace F11 := hid (F11.out.trans hb)
    replace FE := hid (FE.out.trans hb)
    clear hb
    refine WE.pp 26 (.pointer (some ⟨gV7, 0, none⟩)) ?_
    refine WE.qq 27 (.slice (some ad) n11 c11) rfl (fun w' hk => by have ce0 := ((V7.out.up EY.out).up hk).k 0; go_simp) ?_
    refine WE.pp 28 (.int .i64 (k : Int)) ?_
    refine WE.pp 29 (.pointer (some (ad.add (k * 3)))) ?_
    refine WE.pp 30 (.pointer (some (ad.add (k * 3)))) ?_
    refine WE.qq 31 (.int .i64 xv) rfl (fun w' hk => by have ce0 : w'.cell? (ad.add (k * 3)) = some (.int .i64 xv) := (KA.out.up FE.out).up hk; go_simp) ?_
    simp only [Act.put, pA, pB, pC]
    refine WE.pp 32 (.int .i64 v) ?_
    refine WE.pp 33 (.bool true) ?_
    simp only [Act.put, pA, pB, pC]
    refine WE.done ?_
    go_upto_region 8 with (fail)
    refine wp_region_X [gV9, ownBlk base (.slice Ao no co)] [(0, 0), (1, 0), (2, 0), (3, 0), (4, 0), (5, 0), (6, 0), (7, 1), (8, 4), (9, 5), (10, 4)] (fun _ => (0, #[])) rfl (by kernel_rfl) (by intro j hj; cases hj) (fun _ _ d _ _ => by cases d <;> exact Iff.rfl) fun wd hb => ?_
    replace EY := hid (EY.out.trans hb)
    replace F11 := hid (F11.out.trans hb)
    replace FE := hid (FE.out.trans hb)
    clear hb
    have HL1BX1 := hid (BX1.out.up EY.out).lt
    have HL1BX2 := hid (BX2.out.up EY.out).lt
    have HL1V7 := hid (V7.out.up EY.out).lt
    have HL1V8 := hid (V8.out.up EY.out).lt
    have HL1V9 := hid (V9.out.up EY.out).lt
    refine WX.pp 34 (.pointer (some ⟨gV9, 0, none⟩)) ?_
    refine WX.qq 35 (.slice Ao no co) rfl (fun w' hk => by have ce0 := ((V9.out.up EY.out).up hk).k 0; go_simp) ?_
    refine WX.pp 36 (.pointer (some ⟨gV7, 0, none⟩)) ?_
    refine WX.qq 37 (.slice (some ad) n11 c11) rfl (fun w' hk => by have ce0 := ((V7.out.up EY.out).up hk).k 0; go_simp) ?_
    refine WX.pp 38 (.int .i64 (k : Int)) ?_
    refine WX.pp 39 (.pointer (some (ad.add (k * 3)))) ?_
    simp only [Act.put, pA, pB, pC]
    refine WX.qq 40 (.agg #[.int .i64 xv, .bool ge, .slice Ae ne ce]) rfl (fun w' hk => by have ce0 : w'.cell? (ad.add (k * 3)) = some (.int .i64 xv) := (KA.out.up FE.out).up hk; have ce1 : w'.cell? ⟨(ad.add (k * 3)).block, (ad.add (k * 3)).off + 1, none⟩ = some (.bool ge) := (KB.out.up FE.out).up hk; have ce2 : w'.cell? ⟨(ad.add (k * 3)).block, (ad.add (k * 3)).off + 2, none⟩ = some (.slice Ae ne ce) := (KC.out.up FE.out).up hk; go_simp) ?_
    simp only [Act.put, pA, pB, pC]
    refine WX.new (d := some 41) (cs := #[.int .i64 xv, .bool ge, .slice Ae ne ce]) (t := 56) (v := fun g => (.slice (some ⟨g, 0, none⟩) 1 1)) rfl rfl (by rfl) (fun w => by go_simp) fun gL1 wv hx0 hbox hge => ?_
    replace EY := hid (EY.out.trans hx0)
    replace F11 := hid (F11.out.trans hx0)
    have L1 : Hid (Box wv gL1 #[.int .i64 xv, .bool ge, .slice Ae ne ce] 56) := hid hbox
    clear hx0 hbox hge
    simp only [Act.put, pA, pB, pC]
    clear FE
    obtain ⟨v9, wk, hrun, ho9, hk9, hs9⟩ := appL_run (V := xv) (OWN.out.up EY.out) L1.out (QE.out.up EY.out).fields.2.1 (by rw [List.length_map]; have h1 := M.dropT_len (t.take k) v; rw [List.length_take] at h1; have := HN.out; have := HC.out.1; omega) (Nat.le_trans HBH.out EY.out.size) 22
    obtain ⟨A9, n9, c9, rfl⟩ := ho9.shape
    have HBLK := hid (OWN.out.up EY.out).blk
    refine WX.actK (d := some 42) rfl rfl (by rfl) (exec_app (.tmp 35) (.tmp 41) rfl rfl rfl hrun) (hk9.keptB (.inl (by simp))) ?_
    have HQ9 := hid (QE.out.up EY.out).fields
    replace E := hid (((E.out.trans EY.out)).own hk9 HBLK.out HBW.out)
    replace V7 := hid (Kept.box (X := []) ((V7.out.up EY.out)) hk9 HBLK.out HBV7.out)
    replace V8 := hid (Kept.box (X := []) ((V8.out.up EY.out)) hk9 HBLK.out HBV8.out)
    replace V9 := hid (Kept.box (X := []) ((V9.out.up EY.out)) hk9 HBLK.out HBV9.out)
    replace BX1 := hid (Kept.box (X := []) ((BX1.out.up EY.out)) hk9 HBLK.out HBBX1.out)
    replace BX2 := hid (Kept.box (X := []) ((BX2.out.up EY.out)) hk9 HBLK.out HBBX2.out)
    replace Q12 := hid ((Q12.out.up EY.out).kz hs9)
    replace Q11 := hid ((Q11.out.up EY.out).kz hs9)
    replace T11 := hid ((T11.out.up F11.out).keptB BE11.out hk9 HBLK.out hs9)
    replace F11 := hid (Ext.refl wk)
    have HSZ := hid hk9.1.size
    replace HBH := hid (Nat.le_trans HBH.out (Nat.le_trans EY.out.size HSZ.out))
    replace OWN := hid ho9
    replace EY := hid (Ext.refl wk)
    clear hrun ho9 hk9 hs9 HBLK HSZ L1
    refine WX.any (d := some 43) rfl rfl (by rfl) (v := (.pointer (some ⟨gV9, 0, none⟩))) (fun w' hk => by go_simp) ?_
    simp only [Act.put, pA, pB, pC]
    refine WX.storeAt (g := gV9) (off := 0) (cs' := #[.slice A9 n9 c9, .bool g11, .slice B11 m11 d11]) (y := .slice A9 n9 c9) (t := 27) rfl rfl (by rfl) (fun w hb => ?_) (V9.out.up EY.out) (by rfl) rfl (.inl (by simp)) fun ws hk hs hbx => ?_
    ·have ce0 := hb.k 0; have f0 := hb.free 0; go_simp
    replace HBH := hid (Nat.le_trans HBH.out (Nat.le_trans EY.out.size hk.1.size))
    replace OWN := hid ((OWN.out.up EY.out).kept hk hs HBV9.out)
    replace T11 := hid ((T11.out.up F11.out).kb (V9.out.up EY.out) (by rfl) hk hs)
    replace E := hid ((E.out.trans EY.out).keptG hk HGV9.out)
    replace BX1 := hid ((BX1.out.up EY.out).kept hk (by simpa using HNV9BX1.out.symm))
    replace BX2 := hid ((BX2.out.up EY.out).kept hk (by simpa using HNV9BX2.out.symm))
    replace V7 := hid ((V7.out.up EY.out).kept hk (by simpa using HNV9V7.out.symm))
    replace V8 := hid ((V8.out.up EY.out).kept hk (by simpa using HNV9V8.out.symm))
    replace V9 := hid hbx
    replace Q12 := hid ((Q12.out.up EY.out).kz hs)
    replace Q11 := hid ((Q11.out.up EY.out).kz hs)
    clear hk hs hbx
    replace EY := hid (Ext.refl ws)
    replace F11 := hid (Ext.refl ws)
    refine WX.done ?_
    go_wp2
    go_roundw
    case rel => exact ⟨k + 1, A9, n9, c9, by go_num, by omega, (E.out.trans EY.out), T11.out.up F11.out, Nat.le_trans HBH.out EY.out.size, (V7.out.up EY.out), (V8.out.up EY.out), (V9.out.up EY.out), (BX1.out.up EY.out), (BX2.out.up EY.out), (Q12.out.up EY.out), (Q11.out.up EY.out), by rw [List.take_add_one, HX.out, Option.toList_some, M.dropT_snoc, if_neg hv, List.map_append]; have := (OWN.out.up EY.out); rw [HQ9.out.1] at this; exact this⟩
    case measure => simp [intOf]; all_goals omega
  ·obtain rfl : k = n11 := by omega
   have hlt' : decide ((k : Int) < (k : Int)) = false := by simp
   go_upto_region 5 with (fail)
   refine wp_region_S [(0, 0), (1, 0), (2, 0), (3, 0), (4, 0)] fun wd hb => ?_
   replace EY := hid (EY.out.trans hb)
   clear hb
   refine WE.pp 19 (.int .i64 (k : Int)) ?_
   refine WE.pp 20 (.pointer (some ⟨gV7, 0, none⟩)) ?_
   refine WE.qq 21 (.slice A11 k c11) rfl (fun w' hk => by have ce0 := ((V7.out.up EY.out).up hk).k 0; go_simp) ?_
   refine WE.pp 22 (.int .i64 (k : Int)) ?_
   refine WE.pp 23 (.bool false) ?_
   simp only [Act.put, pA, pB, pC]
   refine WE.done ?_
   have HTK := hid (show t.take k = t by rw [HC.out.1]; exact List.take_length)
   have T30 := hid (show LTm _ (.slice Ao no co) (M.dropT t v) W from (by have h := (OWN.out.up EY.out); rw [HTK.out] at h; exact h : LOwn base _ (.slice Ao no co) ((M.dropT t v).map M.rawm)).tm fun x hx => T11.out.2 x (M.dropT_mem hx))
   have O30 := hid (M.okT_dropT O11.out v)
   have F30 := hid (Ext.refl wd)
   have HWT := hid T11.out.2
   clear OWN F11 FE
   go_upto_region 9 with (fail)
   refine wp_region_D [(0, 0), (1, 0), (2, 0), (3, 1), (4, 1), (5, 4)] fun wd hb => ?_
   replace EY := hid (EY.out.trans hb)
   replace F30 := hid (F30.out.trans hb)
   clear hb
   refine WE.qq 44 (.agg #[.slice Ao no co, .bool g11, .slice B11 m11 d11]) rfl (fun w' hk => by obtain ⟨ce0, ce1, ce2⟩ := ((V9.out.up EY.out).up hk).c3; go_simp) ?_
   refine WE.qq 45 (.agg #[.slice A2 n2 c2, .bool g2, .slice B2 m2 d2]) rfl (fun w' hk => by obtain ⟨ce0, ce1, ce2⟩ := ((BX1.out.up EY.out).up hk).c3; go_simp) ?_
   refine WE.qq 46 (.agg #[.bool g12, .slice A12 n12 c12]) rfl (fun w' hk => by obtain ⟨ce0, ce1⟩ := ((V8.out.up EY.out).up hk).c2; go_simp) ?_
   refine WE.cc 47 ((rScaleL_l (HB2.out.up (E.out.trans EY.out)) (Q12.out.up EY.out).worth (by have := HW.out; omega) (by have := HM.out; omega)).mono ?_)
   rintro e w41 ⟨v1, rfl, x1, hb⟩
   obtain ⟨A41, n41, c41, g41, B41, m41, d41, rfl, t1, k1, o1⟩ := x1
   refine ⟨_, rfl, hb, ?_⟩
   replace EY := hid (EY.out.trans hb)
   replace F30 := hid (F30.out.trans hb)
   have T41 := hid t1
   have Q41 := hid k1
   have O41 := hid o1
   have F41 := hid (Ext.refl w41)
   clear hb t1 k1 o1
   refine WE.cc 48 ((rAddL_l (WorthL.wide (IsL.worth (show IsL _ _ _ _ W from ⟨_, _, _, _, _, _, _, rfl, T30.out.up F30.out, (Q11.out.up EY.out), O30.out⟩)) (U := W + W) (by omega)) (show IsL _ _ _ _ _ from ⟨_, _, _, _, _, _, _, rfl, (T41.out.up F41.out), Q41.out, O41.out⟩).worth (by have := HW.out; omega) (by have := HN.out; have := M.dropT_len t v; omega) (by have := HM.out; have := M.scaleT_len s (M.coef t v); omega)).mono ?_)
   rintro e w42 ⟨v1, rfl, x1, hb⟩
   obtain ⟨A42, n42, c42, g42, B42, m42, d42, rfl, t1, k1, o1⟩ := x1
   refine ⟨_, rfl, hb, ?_⟩
   replace EY := hid (EY.out.trans hb)
   have T42 := hid t1
   have Q42 := hid k1
   have O42 := hid o1
   have F42 := hid (Ext.refl w42)
   clear hb t1 k1 o1
   simp only [Act.put, pA, pB, pC]
   clear F30
   clear F41
   refine WE.store3 (g := (w.heap.size + 2)) (x := .slice A42 n42 c42) (y := .bool g42) (z := .slice B42 m42 d42) (t := 27) rfl rfl (by rfl) (fun w hb => ?_) (BX2.out.up EY.out) (by rfl) fun ws hk hs => ?_
   ·obtain ⟨ce0, ce1, ce2⟩ := hb.c3; obtain ⟨f0, f1, f2⟩ := hb.f3; go_simp
   intro hbx
   replace T42 := hid ((T42.out.up F42.out).kb (BX2.out.up EY.out) (by rfl) hk hs)
   replace E := hid ((E.out.trans EY.out).keptG hk (by simp))
   replace BX2 := hid hbx
   replace Q42 := hid (Q42.out.kz hs)
   clear hk hs hbx
   replace EY := hid (Ext.refl ws)
   replace F42 := hid (Ext.refl ws)
   refine WE.done ?_
   have r0 := (BX2.out.up EY.out).cell (o := 0) (v := .slice A42 n42 c42) rfl
   have r1 := (BX2.out.up EY.out).cell (o := 1) (v := .bool g42) rfl
   have r2 := (BX2.out.up EY.out).cell (o := 2) (v := .slice B42 m42 d42) rfl
   repeat go_step
   exact bodyPost_ret (v := .agg #[.slice A42 n42 c42, .bool g42, .slice B42 m42 d42]) (by simp [results, Tryz.results31, go_sem, r0, r1, r2]) rfl ⟨_, rfl, ⟨_, _, _, _, _, _, _, rfl, (T42.out.up F42.out), (Q42.out.up EY.out), O42.out⟩, (E.out.trans EY.out)⟩

end Go.Proofs.YtklmnmkmpkobhaaGreat
