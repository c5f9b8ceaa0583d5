/-
  Contract of the reference's Scale: a form times a number.
-/
import Derived.Test.YtklmnmkmpkobhaaGreatLRefB
namespace Go.Proofs.YtklmnmkmpkobhaaGreat
open Go.RowKit
set_option linter.unusedSimpArgs false
set_option linter.unusedVariables false

theorem IsZ.fields {w : World} {g : Bool} {A : Option Addr} {n c k : Nat} {Z : Int} (h : IsZ w (.agg #[.bool g, .slice A n c]) Z k) : g = decide (Z < 0) ∧ Num w w.heap.size (.slice A n c) (M.limbs Z.natAbs) ∧ (M.limbs Z.natAbs).length ≤ k := by
 obtain ⟨g', A', n', c', e, hg, hm⟩ := h.form
 simp at e
 obtain ⟨rfl, rfl, rfl, rfl⟩ := e
 exact ⟨hg, hm.1, hm.2⟩
/-- Each term times c. -/
def M.smap (t : M.Tm) (c : Int) : M.Tm := t.map fun x => (x.1, x.2 * c)
theorem M.scaleT_some {t : M.Tm} {c : Int} (h : c ≠ 0) : M.scaleT t c = M.smap t c := by unfold M.scaleT M.smap; rw [if_neg h]
theorem M.smap_snoc (t : M.Tm) (v x c : Int) : M.smap (t ++ [(v, x)]) c = M.smap t c ++ [(v, x * c)] := by unfold M.smap; rw [List.map_append]; rfl
theorem M.smap_len (t : M.Tm) (c : Int) : (M.smap t c).length = t.length := by unfold M.smap; rw [List.length_map]
theorem scale_post {w : World} {base W : Nat} {A B : Option Addr} {n c m d : Nat} {g : Bool} {t p : M.Tm} {κ Y : Int} (e : p = t) (o : LOwn base w (.slice A n c) ((M.smap p Y).map M.rawm)) (ow : ∀ x ∈ M.smap p Y, (M.limbs x.2.natAbs).length ≤ W) (q : IsZ w (.agg #[.bool g, .slice B m d]) κ W) (h : M.okT (-1) t) (hy : Y ≠ 0) :
 IsL w (.agg #[.slice A n c, .bool g, .slice B m d]) (M.scaleT t Y) κ W := by
 subst e
 have h0 := M.okT_scaleT h Y
 rw [M.scaleT_some hy] at h0 ⊢
 exact ⟨_, _, _, _, _, _, _, rfl, o.tm ow, q, h0⟩

set_option maxHeartbeats 2000000 in
theorem rScaleL_zero {w : World} {u v : Value} {t : M.Tm} {κ Y : Int} {W : Nat} (h1 : WorthL w u t κ W) (h2 : Worth w v Y W) (hw : W ≤ 1000) (hn : t.length ≤ 1000) (hy : Y = 0) :
 Calls Tryz.prog 26 #[u, v] w (GivesL w (M.scaleT t Y) (κ * Y) (W + W)) := by
 obtain ⟨A1, n1, c1, g1, B1, m1, d1, rfl⟩ := h1.shape
 have R1 := hid h1
 obtain ⟨g2, A2, n2, c2, rfl⟩ := h2.shape
 have R2 := hid h2
 have HW := hid hw
 have HYC := hid hy
 obtain ⟨s, hs⟩ : ∃ s : Int, Y.sign = s := ⟨_, rfl⟩
 have HS := hid hs
 have hs0 : (s == 0) = true := by rw [← hs]; rw [hy]; rfl
 clear hw hn hy hs
 clear h1 h2
 go_enter Tryz.func26, Tryz.ntmps26
 go_upto_region 1 with (fail)
 obtain ⟨E, BX0, BX1, BX2⟩ := open3 w #[.slice A1 n1 c1, .bool g1, .slice B1 m1 d1] 27 #[.bool g2, .slice A2 n2 c2] 25 #[.slice none 0 0, .bool false, .slice none 0 0] 27
 replace R1 := hid (R1.out.up E.out)
 replace R2 := hid (R2.out.up E.out)
 refine wp_region_S [(0, 0), (1, 1), (2, 1), (3, 4)] fun wd hb => ?_
 replace E := hid (E.out.trans hb)
 replace BX0 := hid (BX0.out.up hb)
 replace BX1 := hid (BX1.out.up hb)
 replace BX2 := hid (BX2.out.up hb)
 replace R1 := hid (R1.out.up hb)
 replace R2 := hid (R2.out.up hb)
 clear hb
 have EY := hid (Ext.refl wd)
 refine WE.qq 8 (.agg #[.slice A1 n1 c1, .bool g1, .slice B1 m1 d1]) rfl (fun w' hk => by obtain ⟨ce0, ce1, ce2⟩ := ((BX0.out.up EY.out).up hk).c3; go_simp) ?_
 refine WE.cc 9 ((rMayL_l (R1.out.up EY.out)).mono ?_)
 rintro e w11 ⟨v1, rfl, x1, hb⟩
 obtain ⟨A11, n11, c11, g11, B11, m11, d11, rfl, t1, k1, o1⟩ := x1
 refine ⟨_, rfl, hb, ?_⟩
 replace EY := hid (EY.out.trans hb)
 have Q11 := hid k1
 clear hb t1 k1 o1
 simp only [Act.put, pA, pB, pC]
 refine WE.new (d := some 5) (cs := #[.slice none 0 0, .bool false, .slice none 0 0]) (t := 27) (v := fun g => (.pointer (some ⟨g, 0, none⟩))) rfl rfl (by rfl) (fun w => by go_simp) fun gV5 wv hx0 hbox hge => ?_
 have HNV5BX1 := hid (show gV5 ≠ (w.heap.size + 1) by have := (BX1.out.up EY.out).lt; omega)
 have HNV5BX2 := hid (show gV5 ≠ (w.heap.size + 2) by have := (BX2.out.up EY.out).lt; omega)
 have HGV5 := hid (show w.heap.size ≤ gV5 by have := (E.out.trans EY.out).size; omega)
 replace EY := hid (EY.out.trans hx0)
 replace Q11 := hid (Q11.out.up hx0)
 have V5 : Hid (Box wv gV5 #[.slice none 0 0, .bool false, .slice none 0 0] 27) := hid hbox
 clear hx0 hbox hge
 simp only [Act.put, pA, pB, pC]
 refine WE.store3 (g := gV5) (x := .slice A11 n11 c11) (y := .bool g11) (z := .slice B11 m11 d11) (t := 27) rfl rfl (by rfl) (fun w hb => ?_) V5.out (by rfl) fun ws hk hs => ?_
 ·obtain ⟨ce0, ce1, ce2⟩ := hb.c3; obtain ⟨f0, f1, f2⟩ := hb.f3; go_simp
 intro hbx
 replace E := hid ((E.out.trans EY.out).keptG hk HGV5.out)
 replace BX1 := hid ((BX1.out.up EY.out).kept hk (by simpa using HNV5BX1.out.symm))
 replace BX2 := hid ((BX2.out.up EY.out).kept hk (by simpa using HNV5BX2.out.symm))
 replace V5 := hid hbx
 replace R2 := hid ((R2.out.up EY.out).kz hs)
 replace Q11 := hid (Q11.out.kz hs)
 clear hk hs hbx
 replace EY := hid (Ext.refl ws)
 refine WE.done ?_
 clear R1
 go_upto_region 2 with (fail)
 refine wp_region_S [(0, 0), (1, 0), (2, 0), (3, 1), (4, 0), (5, 1), (6, 4)] fun wd hb => ?_
 replace EY := hid (EY.out.trans hb)
 clear hb
 refine WE.pp 10 (.pointer (some ⟨gV5, 1, none⟩)) ?_
 refine WE.qq 11 (.agg #[.bool g11, .slice B11 m11 d11]) rfl (fun w' hk => by obtain ⟨ce0, ce1, ce2⟩ := ((V5.out.up EY.out).up hk).c3; go_simp) ?_
 refine WE.qq 12 (.agg #[.bool g2, .slice A2 n2 c2]) rfl (fun w' hk => by obtain ⟨ce0, ce1⟩ := ((BX1.out.up EY.out).up hk).c2; go_simp) ?_
 refine WE.cc 13 ((rMul_w (Q11.out.up EY.out).worth (R2.out.up EY.out) (by have := HW.out; omega) (by have := HW.out; omega)).mono ?_)
 rintro e wn ⟨v1, rfl, x1, hb⟩
 obtain ⟨g12, A12, n12, c12, rfl⟩ := x1.shape
 refine ⟨_, rfl, hb, ?_⟩
 replace EY := hid (EY.out.trans hb)
 have Q12 := hid x1
 clear hb x1
 simp only [Act.put, pA, pB, pC]
 clear Q11
 refine WE.pp 14 (.agg #[.slice none 0 0, .bool g12, .slice A12 n12 c12]) ?_
 simp only [Act.put, pA, pB, pC]
 refine WE.new (d := some 6) (cs := #[.slice none 0 0, .bool false, .slice none 0 0]) (t := 27) (v := fun g => (.pointer (some ⟨g, 0, none⟩))) rfl rfl (by rfl) (fun w => by go_simp) fun gV6 wv hx0 hbox hge => ?_
 have HNV6BX1 := hid (show gV6 ≠ (w.heap.size + 1) by have := (BX1.out.up EY.out).lt; omega)
 have HNV6BX2 := hid (show gV6 ≠ (w.heap.size + 2) by have := (BX2.out.up EY.out).lt; omega)
 have HGV6 := hid (show w.heap.size ≤ gV6 by have := (E.out.trans EY.out).size; omega)
 replace EY := hid (EY.out.trans hx0)
 replace Q12 := hid (Q12.out.up hx0)
 have V6 : Hid (Box wv gV6 #[.slice none 0 0, .bool false, .slice none 0 0] 27) := hid hbox
 clear hx0 hbox hge
 simp only [Act.put, pA, pB, pC]
 refine WE.store3 (g := gV6) (x := .slice none 0 0) (y := .bool g12) (z := .slice A12 n12 c12) (t := 27) rfl rfl (by rfl) (fun w hb => ?_) V6.out (by rfl) fun ws hk hs => ?_
 ·obtain ⟨ce0, ce1, ce2⟩ := hb.c3; obtain ⟨f0, f1, f2⟩ := hb.f3; go_simp
 intro hbx
 replace E := hid ((E.out.trans EY.out).keptG hk HGV6.out)
 replace BX1 := hid ((BX1.out.up EY.out).kept hk (by simpa using HNV6BX1.out.symm))
 replace BX2 := hid ((BX2.out.up EY.out).kept hk (by simpa using HNV6BX2.out.symm))
 replace V6 := hid hbx
 replace R2 := hid ((R2.out.up EY.out).kz hs)
 replace Q12 := hid (Q12.out.kz hs)
 clear hk hs hbx
 replace EY := hid (Ext.refl ws)
 refine WE.done ?_
 go_upto_region 3 with (fail)
 refine wp_region_S [(0, 0), (1, 1), (2, 0)] fun wd hb => ?_
 replace EY := hid (EY.out.trans hb)
 clear hb
 refine WE.qq 15 (.agg #[.bool g2, .slice A2 n2 c2]) rfl (fun w' hk => by obtain ⟨ce0, ce1⟩ := ((BX1.out.up EY.out).up hk).c2; go_simp) ?_
 refine WE.cc 16 ((rSign_w (R2.out.up EY.out) (s := s) (HS.out)).mono ?_)
 rintro e wn ⟨rfl, hb⟩
 refine ⟨_, rfl, hb, ?_⟩
 replace EY := hid (EY.out.trans hb)
 clear hb
 refine WE.pp 17 (.bool true) ?_
 simp only [Act.put, pA, pB, pC]
 refine WE.done ?_
 go_upto_region 4 with (fail)
 refine wp_region_S [(0, 0), (1, 4)] fun wd hb => ?_
 replace EY := hid (EY.out.trans hb)
 clear hb
 refine WE.qq 18 (.agg #[.slice none 0 0, .bool g12, .slice A12 n12 c12]) rfl (fun w' hk => by obtain ⟨ce0, ce1, ce2⟩ := ((V6.out.up EY.out).up hk).c3; go_simp) ?_
 simp only [Act.put, pA, pB, pC]
 refine WE.store3 (g := (w.heap.size + 2)) (x := .slice none 0 0) (y := .bool g12) (z := .slice A12 n12 c12) (t := 27) rfl rfl (by rfl) (fun w hb => ?_) (BX2.out.up EY.out) (by rfl) fun ws hk hs => ?_
 ·obtain ⟨ce0, ce1, ce2⟩ := hb.c3; obtain ⟨f0, f1, f2⟩ := hb.f3; go_simp
 intro hbx
 replace E := hid ((E.out.trans EY.out).keptG hk (by simp))
 replace BX2 := hid hbx
 replace Q12 := hid ((Q12.out.up EY.out).kz hs)
 clear hk hs hbx
 replace EY := hid (Ext.refl ws)
 refine WE.done ?_
 have r0 := (BX2.out.up EY.out).cell (o := 0) (v := .slice none 0 0) rfl
 have r1 := (BX2.out.up EY.out).cell (o := 1) (v := .bool g12) rfl
 have r2 := (BX2.out.up EY.out).cell (o := 2) (v := .slice A12 n12 c12) rfl
 repeat go_step
 exact bodyPost_ret (v := .agg #[.slice none 0 0, .bool g12, .slice A12 n12 c12]) (by simp [results, Tryz.results26, go_sem, r0, r1, r2]) rfl ⟨_, rfl, by rw [show M.scaleT t Y = [] by unfold M.scaleT; rw [if_pos HYC.out]]; exact ⟨none, 0, 0, _, _, _, _, rfl, LTm.nil _ _, (Q12.out.up EY.out), trivial⟩, (E.out.trans EY.out)⟩

set_option maxHeartbeats 4000000 in
theorem rScaleL_some {w : World} {u v : Value} {t : M.Tm} {κ Y : Int} {W : Nat} (h1 : WorthL w u t κ W) (h2 : Worth w v Y W) (hw : W ≤ 1000) (hn : t.length ≤ 1000) (hy : Y ≠ 0) :
 Calls Tryz.prog 26 #[u, v] w (GivesL w (M.scaleT t Y) (κ * Y) (W + W)) := by
 obtain ⟨A1, n1, c1, g1, B1, m1, d1, rfl⟩ := h1.shape
 have R1 := hid h1
 obtain ⟨g2, A2, n2, c2, rfl⟩ := h2.shape
 have R2 := hid h2
 have HW := hid hw
 have HN := hid hn
 have HYC := hid hy
 obtain ⟨s, hs⟩ : ∃ s : Int, Y.sign = s := ⟨_, rfl⟩
 have HS := hid hs
 have hs0 : (s == 0) = false := by rw [← hs]; rw [beq_eq_false_iff_ne]; exact fun e => hy (Int.sign_eq_zero_iff_zero.1 e)
 clear hw hn hy hs
 clear h1 h2
 go_enter Tryz.func26, Tryz.ntmps26
 go_upto_region 1 with (fail)
 obtain ⟨E, BX0, BX1, BX2⟩ := open3 w #[.slice A1 n1 c1, .bool g1, .slice B1 m1 d1] 27 #[.bool g2, .slice A2 n2 c2] 25 #[.slice none 0 0, .bool false, .slice none 0 0] 27
 replace R1 := hid (R1.out.up E.out)
 replace R2 := hid (R2.out.up E.out)
 refine wp_region_S [(0, 0), (1, 1), (2, 1), (3, 4)] fun wd hb => ?_
 replace E := hid (E.out.trans hb)
 replace BX0 := hid (BX0.out.up hb)
 replace BX1 := hid (BX1.out.up hb)
 replace BX2 := hid (BX2.out.up hb)
 replace R1 := hid (R1.out.up hb)
 replace R2 := hid (R2.out.up hb)
 clear hb
 have EY := hid (Ext.refl wd)
 refine WE.qq 8 (.agg #[.slice A1 n1 c1, .bool g1, .slice B1 m1 d1]) rfl (fun w' hk => by obtain ⟨ce0, ce1, ce2⟩ := ((BX0.out.up EY.out).up hk).c3; go_simp) ?_
 refine WE.cc 9 ((rMayL_l (R1.out.up EY.out)).mono ?_)
 rintro e w11 ⟨v1, rfl, x1, hb⟩
 obtain ⟨A11, n11, c11, g11, B11, m11, d11, rfl, t1, k1, o1⟩ := x1
 refine ⟨_, rfl, hb, ?_⟩
 replace EY := hid (EY.out.trans hb)
 have T11 := hid t1
 have Q11 := hid k1
 have O11 := hid o1
 have F11 := hid (Ext.refl w11)
 clear hb t1 k1 o1
 simp only [Act.put, pA, pB, pC]
 refine WE.new (d := some 5) (cs := #[.slice none 0 0, .bool false, .slice none 0 0]) (t := 27) (v := fun g => (.pointer (some ⟨g, 0, none⟩))) rfl rfl (by rfl) (fun w => by go_simp) fun gV5 wv hx0 hbox hge => ?_
 have HNV5BX1 := hid (show gV5 ≠ (w.heap.size + 1) by have := (BX1.out.up EY.out).lt; omega)
 have HNV5BX2 := hid (show gV5 ≠ (w.heap.size + 2) by have := (BX2.out.up EY.out).lt; omega)
 have HGV5 := hid (show w.heap.size ≤ gV5 by have := (E.out.trans EY.out).size; omega)
 have HAF11V5 := hid (show w11.heap.size ≤ gV5 by have := F11.out.size; omega)
 replace EY := hid (EY.out.trans hx0)
 replace Q11 := hid (Q11.out.up hx0)
 replace F11 := hid (F11.out.trans hx0)
 have V5 : Hid (Box wv gV5 #[.slice none 0 0, .bool false, .slice none 0 0] 27) := hid hbox
 clear hx0 hbox hge
 simp only [Act.put, pA, pB, pC]
 refine WE.store3 (g := gV5) (x := .slice A11 n11 c11) (y := .bool g11) (z := .slice B11 m11 d11) (t := 27) rfl rfl (by rfl) (fun w hb => ?_) V5.out (by rfl) fun ws hk hs => ?_
 ·obtain ⟨ce0, ce1, ce2⟩ := hb.c3; obtain ⟨f0, f1, f2⟩ := hb.f3; go_simp
 intro hbx
 replace F11 := hid (F11.out.keptG hk HAF11V5.out)
 replace E := hid ((E.out.trans EY.out).keptG hk HGV5.out)
 replace BX1 := hid ((BX1.out.up EY.out).kept hk (by simpa using HNV5BX1.out.symm))
 replace BX2 := hid ((BX2.out.up EY.out).kept hk (by simpa using HNV5BX2.out.symm))
 replace V5 := hid hbx
 replace R2 := hid ((R2.out.up EY.out).kz hs)
 replace Q11 := hid (Q11.out.kz hs)
 clear hk hs hbx
 replace EY := hid (Ext.refl ws)
 refine WE.done ?_
 clear R1
 go_upto_region 2 with (fail)
 refine wp_region_S [(0, 0), (1, 0), (2, 0), (3, 1), (4, 0), (5, 1), (6, 4)] fun wd hb => ?_
 replace EY := hid (EY.out.trans hb)
 replace F11 := hid (F11.out.trans hb)
 clear hb
 refine WE.pp 10 (.pointer (some ⟨gV5, 1, none⟩)) ?_
 refine WE.qq 11 (.agg #[.bool g11, .slice B11 m11 d11]) rfl (fun w' hk => by obtain ⟨ce0, ce1, ce2⟩ := ((V5.out.up EY.out).up hk).c3; go_simp) ?_
 refine WE.qq 12 (.agg #[.bool g2, .slice A2 n2 c2]) rfl (fun w' hk => by obtain ⟨ce0, ce1⟩ := ((BX1.out.up EY.out).up hk).c2; go_simp) ?_
 refine WE.cc 13 ((rMul_w (Q11.out.up EY.out).worth (R2.out.up EY.out) (by have := HW.out; omega) (by have := HW.out; omega)).mono ?_)
 rintro e wn ⟨v1, rfl, x1, hb⟩
 obtain ⟨g12, A12, n12, c12, rfl⟩ := x1.shape
 refine ⟨_, rfl, hb, ?_⟩
 replace EY := hid (EY.out.trans hb)
 replace F11 := hid (F11.out.trans hb)
 have Q12 := hid x1
 clear hb x1
 simp only [Act.put, pA, pB, pC]
 clear Q11
 refine WE.pp 14 (.agg #[.slice none 0 0, .bool g12, .slice A12 n12 c12]) ?_
 simp only [Act.put, pA, pB, pC]
 refine WE.new (d := some 6) (cs := #[.slice none 0 0, .bool false, .slice none 0 0]) (t := 27) (v := fun g => (.pointer (some ⟨g, 0, none⟩))) rfl rfl (by rfl) (fun w => by go_simp) fun gV6 wv hx0 hbox hge => ?_
 have HNV6BX1 := hid (show gV6 ≠ (w.heap.size + 1) by have := (BX1.out.up EY.out).lt; omega)
 have HNV6BX2 := hid (show gV6 ≠ (w.heap.size + 2) by have := (BX2.out.up EY.out).lt; omega)
 have HNV6V5 := hid (show gV6 ≠ gV5 by have := (V5.out.up EY.out).lt; omega)
 have HGV6 := hid (show w.heap.size ≤ gV6 by have := (E.out.trans EY.out).size; omega)
 have HAF11V6 := hid (show w11.heap.size ≤ gV6 by have := F11.out.size; omega)
 replace EY := hid (EY.out.trans hx0)
 replace Q12 := hid (Q12.out.up hx0)
 replace F11 := hid (F11.out.trans hx0)
 have V6 : Hid (Box wv gV6 #[.slice none 0 0, .bool false, .slice none 0 0] 27) := hid hbox
 clear hx0 hbox hge
 simp only [Act.put, pA, pB, pC]
 refine WE.store3 (g := gV6) (x := .slice none 0 0) (y := .bool g12) (z := .slice A12 n12 c12) (t := 27) rfl rfl (by rfl) (fun w hb => ?_) V6.out (by rfl) fun ws hk hs => ?_
 ·obtain ⟨ce0, ce1, ce2⟩ := hb.c3; obtain ⟨f0, f1, f2⟩ := hb.f3; go_simp
 intro hbx
 replace F11 := hid (F11.out.keptG hk HAF11V6.out)
 replace E := hid ((E.out.trans EY.out).keptG hk HGV6.out)
 replace BX1 := hid ((BX1.out.up EY.out).kept hk (by simpa using HNV6BX1.out.symm))
 replace BX2 := hid ((BX2.out.up EY.out).kept hk (by simpa using HNV6BX2.out.symm))
 replace V5 := hid ((V5.out.up EY.out).kept hk (by simpa using HNV6V5.out.symm))
 replace V6 := hid hbx
 replace R2 := hid ((R2.out.up EY.out).kz hs)
 replace Q12 := hid (Q12.out.kz hs)
 clear hk hs hbx
 replace EY := hid (Ext.refl ws)
 refine WE.done ?_
 go_upto_region 3 with (fail)
 refine wp_region_S [(0, 0), (1, 1), (2, 0)] fun wd hb => ?_
 replace EY := hid (EY.out.trans hb)
 replace F11 := hid (F11.out.trans hb)
 clear hb
 refine WE.qq 15 (.agg #[.bool g2, .slice A2 n2 c2]) rfl (fun w' hk => by obtain ⟨ce0, ce1⟩ := ((BX1.out.up EY.out).up hk).c2; go_simp) ?_
 refine WE.cc 16 ((rSign_w (R2.out.up EY.out) (s := s) (HS.out)).mono ?_)
 rintro e wn ⟨rfl, hb⟩
 refine ⟨_, rfl, hb, ?_⟩
 replace EY := hid (EY.out.trans hb)
 replace F11 := hid (F11.out.trans hb)
 clear hb
 refine WE.pp 17 (.bool false) ?_
 simp only [Act.put, pA, pB, pC]
 refine WE.done ?_
 have HC := hid T11.out.count
 have hb9 : n11 ≤ 9223372036854775807 := T11.out.count.2.2
 have hlt6 := (V6.out.up EY.out).lt
 have hlt5 := (V5.out.up EY.out).lt
 have hltx := (BX2.out.up EY.out).lt
 have hltc := (BX1.out.up EY.out).lt
 have hszw := (E.out.trans EY.out).size
 have hsza := F11.out.size
 obtain ⟨base, hbase, HB6', HB5', HBX2', HBX1', HBW', HBA'⟩ : ∃ base : Nat, base ≤ _ ∧ gV6 < base ∧ gV5 < base ∧ (w.heap.size + 2) < base ∧ (w.heap.size + 1) < base ∧ w.heap.size ≤ base ∧ w11.heap.size ≤ base := ⟨_, Nat.le_refl _, hlt6, hlt5, hltx, hltc, hszw, hsza⟩
 have HBV6 := hid HB6'
 have HBV5 := hid HB5'
 have HBBX2 := hid HBX2'
 have HBBX1 := hid HBX1'
 have HBW := hid HBW'
 have HBA := hid HBA'
 clear HB6' HB5' HBX2' HBX1' HBW' HBA' hlt6 hlt5 hltx hltc hszw hsza
 go_wp2
 go_loopw [7] (fun i wr => ∃ (k : Nat) (Ao : Option Addr) (no co : Nat), k ≤ n11 ∧ i = .int .i64 (k : Int) ∧ Ext w wr ∧ Ext w11 wr ∧ base ≤ wr.heap.size ∧ Box wr gV5 #[.slice A11 n11 c11, .bool g11, .slice B11 m11 d11] 27 ∧ Box wr gV6 #[.slice Ao no co, .bool g12, .slice A12 n12 c12] 27 ∧ Box wr (w.heap.size + 1) #[.bool g2, .slice A2 n2 c2] 25 ∧ Box wr (w.heap.size + 2) #[.slice none 0 0, .bool false, .slice none 0 0] 27 ∧ Worth wr (.agg #[.bool g2, .slice A2 n2 c2]) Y W ∧ IsZ wr (.agg #[.bool g12, .slice A12 n12 c12]) (κ * Y) (W + W) ∧ LOwn base wr (.slice Ao no co) ((M.smap (t.take k) Y).map M.rawm) ∧ (∀ x ∈ M.smap (t.take k) Y, (M.limbs x.2.natAbs).length ≤ W + W)) (fun i _ => n11 - (intOf i).toNat)
 case atStart => exact ⟨0, none, 0, 0, Nat.zero_le _, rfl, (E.out.trans EY.out), F11.out, hbase, (V5.out.up EY.out), (V6.out.up EY.out), (BX1.out.up EY.out), (BX2.out.up EY.out), (R2.out.up EY.out), (Q12.out.up EY.out), .inl ⟨rfl, rfl⟩, fun x hx => by simp [M.smap] at hx⟩
 case round =>
  clear E EY F11 V5 V6 BX1 BX2 R2 Q12 hbase
  obtain ⟨k, Ao, no, co, hk, rfl, hext, hf, hbh, hv5, hv6, hb1, hb2, hr, hq, ho, how⟩ := hrel
  have E := hid hext
  have F11 := hid hf
  have HBH := hid hbh
  have V5 := hid hv5
  have V6 := hid hv6
  have BX1 := hid hb1
  have BX2 := hid hb2
  have R2 := hid hr
  have Q12 := hid hq
  have OWN := hid ho
  have HOW := hid how
  clear hext hf hbh hv5 hv6 hb1 hb2 hr hq ho how
  have EY := hid (Ext.refl wr)
  by_cases hlt : k < n11
  ·have hlt' : decide ((k : Int) < (n11 : Int)) = true := decide_eq_true (by omega)
   obtain ⟨x, hx⟩ : ∃ x, t[k]? = some x := ⟨_, List.getElem?_eq_getElem (by rw [← HC.out.1]; exact hlt)⟩
   obtain ⟨ad, ge, Ae, ne, ce, rfl, ka, kb, kc, kz⟩ := T11.out.get hx
   obtain ⟨xv, xc⟩ := x
   have HX := hid hx
   have KA := hid ka
   have KB := hid kb
   have KC := hid kc
   have QE := hid (kz.up F11.out)
   clear hx ka kb kc kz
   go_upto_region 6 with (fail)
   refine wp_region_S [(0, 0), (1, 0), (2, 0), (3, 0), (4, 0)] fun wd hb => ?_
   replace EY := hid (EY.out.trans hb)
   replace QE := hid (QE.out.up hb)
   replace F11 := hid (F11.out.trans hb)
   clear hb
   refine WE.pp 19 (.int .i64 (k : Int)) ?_
   refine WE.pp 20 (.pointer (some ⟨gV5, 0, none⟩)) ?_
   refine WE.qq 21 (.slice (some ad) n11 c11) rfl (fun w' hk => by have ce0 := ((V5.out.up EY.out).up hk).k 0; go_simp) ?_
   refine WE.pp 22 (.int .i64 (n11 : Int)) ?_
   refine WE.pp 23 (.bool true) ?_
   simp only [Act.put, pA, pB, pC]
   refine WE.done ?_
   go_upto_region 8 with (fail)
   refine wp_region_X [gV6, ownBlk base (.slice Ao no co)] [(0, 0), (1, 0), (2, 0), (3, 0), (4, 0), (5, 0), (6, 0), (7, 0), (8, 0), (9, 0), (10, 0), (11, 0), (12, 0), (13, 0), (14, 0), (15, 1), (16, 0), (17, 1), (18, 4), (19, 5), (20, 4)] (fun _ => (0, #[])) rfl (by kernel_rfl) (by intro j hj; cases hj) (fun _ _ d _ _ => by cases d <;> exact Iff.rfl) fun wd hb => ?_
   replace EY := hid (EY.out.trans hb)
   replace QE := hid (QE.out.up hb)
   replace F11 := hid (F11.out.trans hb)
   clear hb
   have HL1BX1 := hid (BX1.out.up EY.out).lt
   have HL1BX2 := hid (BX2.out.up EY.out).lt
   have HL1V5 := hid (V5.out.up EY.out).lt
   have HL1V6 := hid (V6.out.up EY.out).lt
   refine WX.pp 26 (.pointer (some ⟨gV6, 0, none⟩)) ?_
   refine WX.qq 27 (.slice Ao no co) rfl (fun w' hk => by have ce0 := ((V6.out.up EY.out).up hk).k 0; go_simp) ?_
   refine WX.pp 28 (.pointer (some ⟨gV5, 0, none⟩)) ?_
   refine WX.qq 29 (.slice (some ad) n11 c11) rfl (fun w' hk => by have ce0 := ((V5.out.up EY.out).up hk).k 0; go_simp) ?_
   refine WX.pp 30 (.int .i64 (k : Int)) ?_
   refine WX.pp 31 (.pointer (some (ad.add (k * 3)))) ?_
   simp only [Act.put, pA, pB, pC]
   refine WX.pp 32 (.pointer (some (ad.add (k * 3)))) ?_
   refine WX.qq 33 (.int .i64 xv) rfl (fun w' hk => by have ce0 : w'.cell? (ad.add (k * 3)) = some (.int .i64 xv) := (KA.out.up F11.out).up hk; go_simp) ?_
   refine WX.pp 34 (.pointer (some ⟨gV5, 0, none⟩)) ?_
   refine WX.qq 35 (.slice (some ad) n11 c11) rfl (fun w' hk => by have ce0 := ((V5.out.up EY.out).up hk).k 0; go_simp) ?_
   refine WX.pp 36 (.int .i64 (k : Int)) ?_
   refine WX.pp 37 (.pointer (some (ad.add (k * 3)))) ?_
   simp only [Act.put, pA, pB, pC]
   refine WX.pp 38 (.pointer (some ⟨(ad.add (k * 3)).block, (ad.add (k * 3)).off + 1, none⟩)) ?_
   refine WX.qq 39 (.agg #[.bool ge, .slice Ae ne ce]) rfl (fun w' hk => by have ce1 : w'.cell? ⟨(ad.add (k * 3)).block, (ad.add (k * 3)).off + 1, none⟩ = some (.bool ge) := (KB.out.up F11.out).up hk; have ce2 : w'.cell? ⟨(ad.add (k * 3)).block, (ad.add (k * 3)).off + 2, none⟩ = some (.slice Ae ne ce) := (KC.out.up F11.out).up hk; go_simp) ?_
   refine WX.qq 40 (.agg #[.bool g2, .slice A2 n2 c2]) rfl (fun w' hk => by obtain ⟨ce0, ce1⟩ := ((BX1.out.up EY.out).up hk).c2; go_simp) ?_
   refine WX.cc 41 ((rMul_w QE.out.worth (R2.out.up EY.out) (by have := HW.out; have := HC.out.1; have := HN.out; omega) (by have := HW.out; have := HC.out.1; have := HN.out; omega)).mono ?_)
   rintro e wn ⟨v1, rfl, x1, hb⟩
   obtain ⟨g13, A13, n13, c13, rfl⟩ := x1.shape
   refine ⟨_, rfl, hb, ?_⟩
   replace EY := hid (EY.out.trans hb)
   replace F11 := hid (F11.out.trans hb)
   have Q13 := hid x1
   clear hb x1
   refine WX.pp 42 (.agg #[.int .i64 xv, .bool g13, .slice A13 n13 c13]) ?_
   simp only [Act.put, pA, pB, pC]
   refine WX.new (d := some 43) (cs := #[.int .i64 xv, .bool g13, .slice A13 n13 c13]) (t := 56) (v := fun g => (.slice (some ⟨g, 0, none⟩) 1 1)) rfl rfl (by rfl) (fun w => by go_simp) fun gL1 wv hx0 hbox hge => ?_
   replace EY := hid (EY.out.trans hx0)
   replace Q13 := hid (Q13.out.up hx0)
   replace F11 := hid (F11.out.trans hx0)
   have L1 : Hid (Box wv gL1 #[.int .i64 xv, .bool g13, .slice A13 n13 c13] 56) := hid hbox
   clear hx0 hbox hge
   simp only [Act.put, pA, pB, pC]
   obtain ⟨v9, wk, hrun, ho9, hk9, hs9⟩ := appL_run (V := xv) (OWN.out.up EY.out) L1.out Q13.out.fields.2.1 (by rw [List.length_map, M.smap_len, List.length_take]; have := HN.out; omega) (Nat.le_trans HBH.out EY.out.size) 22
   obtain ⟨A9, n9, c9, rfl⟩ := ho9.shape
   have HBLK := hid (OWN.out.up EY.out).blk
   refine WX.actK (d := some 44) rfl rfl (by rfl) (exec_app (.tmp 27) (.tmp 43) rfl rfl rfl hrun) (hk9.keptB (.inl (by simp))) ?_
   replace E := hid ((E.out.trans EY.out).own hk9 HBLK.out HBW.out)
   replace F11 := hid ((F11.out).own hk9 HBLK.out HBA.out)
   replace V5 := hid (Kept.box (X := []) ((V5.out.up EY.out)) hk9 HBLK.out HBV5.out)
   replace V6 := hid (Kept.box (X := []) ((V6.out.up EY.out)) hk9 HBLK.out HBV6.out)
   replace BX1 := hid (Kept.box (X := []) ((BX1.out.up EY.out)) hk9 HBLK.out HBBX1.out)
   replace BX2 := hid (Kept.box (X := []) ((BX2.out.up EY.out)) hk9 HBLK.out HBBX2.out)
   replace R2 := hid ((R2.out.up EY.out).kz hs9)
   replace Q12 := hid ((Q12.out.up EY.out).kz hs9)
   replace Q13 := hid (Q13.out.kz hs9)
   have HSZ := hid hk9.1.size
   replace HBH := hid (Nat.le_trans HBH.out (Nat.le_trans EY.out.size HSZ.out))
   replace OWN := hid ho9
   have HQ9 := hid Q13.out.fields
   replace EY := hid (Ext.refl wk)
   clear hrun ho9 hk9 hs9 HBLK HSZ L1
   refine WX.any (d := some 45) rfl rfl (by rfl) (v := (.pointer (some ⟨gV6, 0, none⟩))) (fun w' hk => by go_simp) ?_
   simp only [Act.put, pA, pB, pC]
   refine WX.storeAt (g := gV6) (off := 0) (cs' := #[.slice A9 n9 c9, .bool g12, .slice A12 n12 c12]) (y := .slice A9 n9 c9) (t := 27) rfl rfl (by rfl) (fun w hb => ?_) (V6.out.up EY.out) (by rfl) rfl (.inl (by simp)) fun ws hk hs hbx => ?_
   ·have ce0 := hb.k 0; have f0 := hb.free 0; go_simp
   replace HBH := hid (Nat.le_trans HBH.out (Nat.le_trans EY.out.size hk.1.size))
   replace OWN := hid ((OWN.out.up EY.out).kept hk hs HBV6.out)
   replace F11 := hid (F11.out.keptG hk HAF11V6.out)
   replace E := hid ((E.out.trans EY.out).keptG hk HGV6.out)
   replace BX1 := hid ((BX1.out.up EY.out).kept hk (by simpa using HNV6BX1.out.symm))
   replace BX2 := hid ((BX2.out.up EY.out).kept hk (by simpa using HNV6BX2.out.symm))
   replace V5 := hid ((V5.out.up EY.out).kept hk (by simpa using HNV6V5.out.symm))
   replace V6 := hid hbx
   replace R2 := hid ((R2.out.up EY.out).kz hs)
   replace Q12 := hid ((Q12.out.up EY.out).kz hs)
   clear hk hs hbx
   replace EY := hid (Ext.refl ws)
   clear Q13
   refine WX.done ?_
   go_wp2
   go_roundw
   case rel => exact ⟨k + 1, A9, n9, c9, by omega, by go_num, (E.out.trans EY.out), F11.out, HBH.out, (V5.out.up EY.out), (V6.out.up EY.out), (BX1.out.up EY.out), (BX2.out.up EY.out), (R2.out.up EY.out), (Q12.out.up EY.out), by rw [List.take_add_one, HX.out, Option.toList_some, M.smap_snoc, List.map_append]; have := OWN.out; rw [HQ9.out.1] at this; exact this, fun y hy => by rw [List.take_add_one, HX.out, Option.toList_some, M.smap_snoc] at hy; rcases List.mem_append.1 hy with hy | hy; exact HOW.out y hy; simp at hy; subst hy; exact HQ9.out.2.2⟩
   case measure => simp [intOf]; all_goals omega
  ·obtain rfl : k = n11 := by omega
   have hlt' : decide ((k : Int) < (k : Int)) = false := by simp
   clear F11
   go_upto_region 6 with (fail)
   refine wp_region_S [(0, 0), (1, 0), (2, 0), (3, 0), (4, 0)] fun wd hb => ?_
   replace EY := hid (EY.out.trans hb)
   clear hb
   refine WE.pp 19 (.int .i64 (k : Int)) ?_
   refine WE.pp 20 (.pointer (some ⟨gV5, 0, none⟩)) ?_
   refine WE.qq 21 (.slice A11 k c11) rfl (fun w' hk => by have ce0 := ((V5.out.up EY.out).up hk).k 0; go_simp) ?_
   refine WE.pp 22 (.int .i64 (k : Int)) ?_
   refine WE.pp 23 (.bool false) ?_
   simp only [Act.put, pA, pB, pC]
   refine WE.done ?_
   go_upto_region 9 with (fail)
   refine wp_region_S [(0, 0), (1, 4)] fun wd hb => ?_
   replace EY := hid (EY.out.trans hb)
   clear hb
   refine WE.qq 46 (.agg #[.slice Ao no co, .bool g12, .slice A12 n12 c12]) rfl (fun w' hk => by obtain ⟨ce0, ce1, ce2⟩ := ((V6.out.up EY.out).up hk).c3; go_simp) ?_
   simp only [Act.put, pA, pB, pC]
   refine WE.store3 (g := (w.heap.size + 2)) (x := .slice Ao no co) (y := .bool g12) (z := .slice A12 n12 c12) (t := 27) rfl rfl (by rfl) (fun w hb => ?_) (BX2.out.up EY.out) (by rfl) fun ws hk hs => ?_
   ·obtain ⟨ce0, ce1, ce2⟩ := hb.c3; obtain ⟨f0, f1, f2⟩ := hb.f3; go_simp
   intro hbx
   replace OWN := hid ((OWN.out.up EY.out).kept hk hs HBBX2.out)
   replace E := hid ((E.out.trans EY.out).keptG hk (by simp))
   replace BX2 := hid hbx
   replace Q12 := hid ((Q12.out.up EY.out).kz hs)
   clear hk hs hbx
   replace EY := hid (Ext.refl ws)
   refine WE.done ?_
   have r0 := (BX2.out.up EY.out).cell (o := 0) (v := .slice Ao no co) rfl
   have r1 := (BX2.out.up EY.out).cell (o := 1) (v := .bool g12) rfl
   have r2 := (BX2.out.up EY.out).cell (o := 2) (v := .slice A12 n12 c12) rfl
   repeat go_step
   exact bodyPost_ret (v := .agg #[.slice Ao no co, .bool g12, .slice A12 n12 c12]) (by simp [results, Tryz.results26, go_sem, r0, r1, r2]) rfl ⟨_, rfl, scale_post (by rw [HC.out.1]; exact List.take_length) OWN.out HOW.out (Q12.out.up EY.out) O11.out HYC.out, (E.out.trans EY.out)⟩

theorem rScaleL_l {w : World} {u v : Value} {t : M.Tm} {κ Y : Int} {W : Nat} (h1 : WorthL w u t κ W) (h2 : Worth w v Y W) (hw : W ≤ 1000) (hn : t.length ≤ 1000) : Calls Tryz.prog 26 #[u, v] w (GivesL w (M.scaleT t Y) (κ * Y) (W + W)) := by
 by_cases hy : Y = 0
 ·exact rScaleL_zero h1 h2 hw hn hy
 ·exact rScaleL_some h1 h2 hw hn hy

end Go.Proofs.YtklmnmkmpkobhaaGreat
