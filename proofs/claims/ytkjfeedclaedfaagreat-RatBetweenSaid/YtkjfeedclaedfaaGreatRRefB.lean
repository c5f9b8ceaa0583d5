/-
  Contracts of the reference's sums, products and so on of fractions.
-/
import Derived.Test.YtkjfeedclaedfaaGreatRRefA
import Derived.Test.YtkjfeedclaedfaaGreatRRefO
namespace Go.Proofs.YtkjfeedclaedfaaGreat
open Go.RowKit
set_option linter.unusedSimpArgs false
set_option linter.unusedVariables false

set_option maxHeartbeats 2000000 in
theorem rIntR_r {w : World} {u : Value} {Z : Int} {j : Nat} (h1 : Worth w u Z j) (hj : j ≤ 900) (hj1 : 1 ≤ j) :
    Calls Tryz.prog 18 #[u] w (GivesR w (Z : Rat) j) := by
  obtain ⟨g1, A1, n1, c1, rfl⟩ := h1.shape
  have R1 := hid h1
  have HJ1 := hid hj1
  clear h1 hj hj1
  go_enter Tryz.func18, Tryz.ntmps18
  go_upto_region 1 with (fail)
  have E := hid (((Ext.refl w).alloc' (.cells #[.bool g1, .slice A1 n1 c1] 24)).alloc' (.cells #[.bool false, .slice none 0 0, .slice none 0 0] 26))
  have BX0 : Hid (Box ((w.alloc (.cells #[.bool g1, .slice A1 n1 c1] 24)).alloc (.cells #[.bool false, .slice none 0 0, .slice none 0 0] 26)) (w.heap.size) #[.bool g1, .slice A1 n1 c1] 24) := hid ((Box.at_ (w := w) #[.bool g1, .slice A1 n1 c1] 24 (by simp)).alloc (.cells #[.bool false, .slice none 0 0, .slice none 0 0] 26))
  have BX1 : Hid (Box ((w.alloc (.cells #[.bool g1, .slice A1 n1 c1] 24)).alloc (.cells #[.bool false, .slice none 0 0, .slice none 0 0] 26)) (w.heap.size + 1) #[.bool false, .slice none 0 0, .slice none 0 0] 26) := hid (Box.at_ (w := (w.alloc (.cells #[.bool g1, .slice A1 n1 c1] 24))) #[.bool false, .slice none 0 0, .slice none 0 0] 26 (by simp))
  replace R1 := hid (R1.out.up E.out)
  refine wp_region_T [(0, 0), (1, 1), (2, 1), (3, 0), (4, 4)] (by kernel_rfl) fun wd hb => ?_
  replace E := hid (E.out.trans hb)
  replace BX0 := hid (BX0.out.up hb)
  replace BX1 := hid (BX1.out.up hb)
  replace R1 := hid (R1.out.up hb)
  clear hb
  have EY := hid (Ext.refl wd)
  refine WE.pure (d := some 3) rfl rfl (by rfl) (v := (.agg #[.bool g1, .slice A1 n1 c1])) (fun w' hk => ?_) ?_
  · obtain ⟨ce0, ce1⟩ := ((BX0.out.up EY.out).up hk).c2; go_simp
  simp only [Act.put, pA, pB, pC]
  refine WE.call (d := some 4) rfl rfl (by rfl) (by go_simp) ((rMay_w (R1.out.up EY.out)).mono ?_)
  rintro e wn ⟨v1, rfl, x1, hb⟩
  obtain ⟨g11, A11, n11, c11, rfl⟩ := x1.shape
  refine ⟨_, rfl, hb, ?_⟩
  replace EY := hid (EY.out.trans hb)
  have Q11 := hid x1
  clear hb x1
  simp only [Act.put, pA, pB, pC]
  refine WE.new (d := some 5) (cs := #[.int .u32 1]) (t := 32) (v := fun g => (.slice (some ⟨g, 0, none⟩) 1 1)) rfl rfl (by rfl) (fun w => by go_simp) fun gVL wv hx0 hbox hge => ?_
  have HNVLBX1 := hid (show gVL ≠ (w.heap.size + 1) by have := (BX1.out.up EY.out).lt; omega)
  replace EY := hid (EY.out.trans hx0)
  replace Q11 := hid (Q11.out.up hx0)
  have VL : Hid (Box wv gVL #[.int .u32 1] 32) := hid hbox
  clear hx0 hbox hge
  simp only [Act.put, pA, pB, pC]
  refine WE.pure (d := some 6) rfl rfl (by rfl) (v := (.agg #[.bool g11, .slice A11 n11 c11, .slice (some ⟨gVL, 0, none⟩) 1 1])) (fun w' hk => by go_simp) ?_
  simp only [Act.put, pA, pB, pC]
  refine WE.store3 (g := (w.heap.size + 1)) (x := .bool g11) (y := .slice A11 n11 c11) (z := .slice (some ⟨gVL, 0, none⟩) 1 1) (t := 26) rfl rfl (by rfl) (fun w hb => ?_) (BX1.out.up EY.out) (by rfl) fun ws hk hs => ?_
  · obtain ⟨ce0, ce1, ce2⟩ := hb.c3; obtain ⟨f0, f1, f2⟩ := hb.f3; go_simp
  intro hbx
  replace E := hid ((E.out.trans EY.out).keptG hk (by simp))
  replace BX1 := hid hbx
  replace VL := hid (VL.out.kept hk (by simpa using HNVLBX1.out))
  replace Q11 := hid (Q11.out.kz hs)
  clear hk hs hbx
  replace EY := hid (Ext.refl ws)
  refine WE.done ?_
  have r0 := (BX1.out.up EY.out).cell (o := 0) (v := .bool g11) rfl
  have r1 := (BX1.out.up EY.out).cell (o := 1) (v := .slice A11 n11 c11) rfl
  have r2 := (BX1.out.up EY.out).cell (o := 2) (v := .slice (some ⟨gVL, 0, none⟩) 1 1) rfl
  repeat go_step
  exact bodyPost_ret (v := .agg #[.bool g11, .slice A11 n11 c11, .slice (some ⟨gVL, 0, none⟩) 1 1]) (by simp [results, Tryz.results18, go_sem, r0, r1, r2]) rfl ⟨_, rfl, IsR.mk (x := (Z : Rat)) (Q11.out.up EY.out) ((IsZ.mk (Z := 1) rfl (VL.out.up EY.out).row1).wide HJ1.out), (E.out.trans EY.out)⟩

set_option maxHeartbeats 2000000 in
theorem rCmpR_r {w : World} {u v : Value} {x y : Rat} {j : Nat} (h1 : WorthR w u x j) (h2 : WorthR w v y j) (hj : j ≤ 60) (hj1 : 1 ≤ j) {z : Int} (hz : M.rcmp x y = z) :
    Calls Tryz.prog 20 #[u, v] w (fun e w' => e = .returned (.int .i64 z) ∧ Ext w w') := by
  obtain ⟨g1, A1, n1, c1, B1, m1, d1, rfl⟩ := h1.shape
  have R1 := hid h1
  obtain ⟨g2, A2, n2, c2, B2, m2, d2, rfl⟩ := h2.shape
  have R2 := hid h2
  have HJ := hid hj
  have HJ1 := hid hj1
  have HZ := hid hz
  clear h1 h2 hj hj1 hz
  go_enter Tryz.func20, Tryz.ntmps20
  go_upto_region 1 with (fail)
  have E := hid (((Ext.refl w).alloc' (.cells #[.bool g1, .slice A1 n1 c1, .slice B1 m1 d1] 26)).alloc' (.cells #[.bool g2, .slice A2 n2 c2, .slice B2 m2 d2] 26))
  have BX0 : Hid (Box ((w.alloc (.cells #[.bool g1, .slice A1 n1 c1, .slice B1 m1 d1] 26)).alloc (.cells #[.bool g2, .slice A2 n2 c2, .slice B2 m2 d2] 26)) (w.heap.size) #[.bool g1, .slice A1 n1 c1, .slice B1 m1 d1] 26) := hid ((Box.at_ (w := w) #[.bool g1, .slice A1 n1 c1, .slice B1 m1 d1] 26 (by simp)).alloc (.cells #[.bool g2, .slice A2 n2 c2, .slice B2 m2 d2] 26))
  have BX1 : Hid (Box ((w.alloc (.cells #[.bool g1, .slice A1 n1 c1, .slice B1 m1 d1] 26)).alloc (.cells #[.bool g2, .slice A2 n2 c2, .slice B2 m2 d2] 26)) (w.heap.size + 1) #[.bool g2, .slice A2 n2 c2, .slice B2 m2 d2] 26) := hid (Box.at_ (w := (w.alloc (.cells #[.bool g1, .slice A1 n1 c1, .slice B1 m1 d1] 26))) #[.bool g2, .slice A2 n2 c2, .slice B2 m2 d2] 26 (by simp))
  replace R1 := hid (R1.out.up E.out)
  replace R2 := hid (R2.out.up E.out)
  refine wp_region_E [(0, 0), (2, 0), (1, 2), (3, 2), (4, 3), (5, 3), (6, 4), (7, 4)] (fun _ => (26, #[.bool false, .slice none 0 0, .slice none 0 0])) rfl (by kernel_rfl) (by intro j hj; simp [pend] at hj; rcases hj with rfl | rfl <;> exact ⟨_, rfl, rfl, rfl, fun w => by go_simp⟩) (fun _ _ d _ _ => by cases d <;> exact Iff.rfl) fun wd hb => ?_
  replace E := hid (E.out.trans hb)
  replace BX0 := hid (BX0.out.up hb)
  replace BX1 := hid (BX1.out.up hb)
  replace R1 := hid (R1.out.up hb)
  replace R2 := hid (R2.out.up hb)
  clear hb
  have HL1BX0 := hid BX0.out.lt
  have HL1BX1 := hid BX1.out.lt
  have HW1 := hid (show w.heap.size ≤ wd.heap.size from E.out.size)
  have EY := hid (Ext.refl wd)
  refine WE.pure (d := some 7) rfl rfl (by rfl) (v := (.agg #[.bool g1, .slice A1 n1 c1, .slice B1 m1 d1])) (fun w' hk => ?_) ?_
  · obtain ⟨ce0, ce1, ce2⟩ := ((BX0.out.up EY.out).up hk).c3; go_simp
  simp only [Act.put, pA, pB, pC]
  refine WE.pure (d := some 9) rfl rfl (by rfl) (v := (.agg #[.bool g2, .slice A2 n2 c2, .slice B2 m2 d2])) (fun w' hk => ?_) ?_
  · obtain ⟨ce0, ce1, ce2⟩ := ((BX1.out.up EY.out).up hk).c3; go_simp
  simp only [Act.put, pA, pB, pC]
  refine WE.callR (d := some 8) rfl rfl (by rfl) (f := 22) (args := #[(.agg #[.bool g1, .slice A1 n1 c1, .slice B1 m1 d1])]) (fun w => by go_simp) (fun wx hx0 => ?_)
  replace EY := hid (EY.out.trans hx0)
  clear hx0
  refine (rMayR_r (R1.out.up EY.out) (by have := HJ.out; have := HJ1.out; omega) (by have := HJ.out; have := HJ1.out; omega)).mono ?_
  rintro e wn ⟨v1, rfl, x1, hb⟩
  obtain ⟨g11, A11, n11, c11, B11, m11, d11, rfl, p1, q1⟩ := x1
  refine ⟨_, rfl, hb, ?_⟩
  replace EY := hid (EY.out.trans hb)
  have P11 := hid p1
  have D11 := hid q1
  clear hb p1 q1
  simp only [Act.put, pA, pB, pC]
  refine WE.callR (d := some 10) rfl rfl (by rfl) (f := 22) (args := #[(.agg #[.bool g2, .slice A2 n2 c2, .slice B2 m2 d2])]) (fun w => by go_simp) (fun wx hx0 => ?_)
  replace EY := hid (EY.out.trans hx0)
  replace P11 := hid (P11.out.up hx0)
  replace D11 := hid (D11.out.up hx0)
  clear hx0
  refine (rMayR_r (R2.out.up EY.out) (by have := HJ.out; have := HJ1.out; omega) (by have := HJ.out; have := HJ1.out; omega)).mono ?_
  rintro e wn ⟨v1, rfl, x1, hb⟩
  obtain ⟨g12, A12, n12, c12, B12, m12, d12, rfl, p1, q1⟩ := x1
  refine ⟨_, rfl, hb, ?_⟩
  replace EY := hid (EY.out.trans hb)
  replace P11 := hid (P11.out.up hb)
  replace D11 := hid (D11.out.up hb)
  have P12 := hid p1
  have D12 := hid q1
  clear hb p1 q1
  simp only [Act.put, pA, pB, pC]
  refine WE.var (d := some 5) rfl fun gV5 wv hx0 hbox hge hng => ?_
  have HGV5 := hid (show w.heap.size ≤ gV5 by have := HW1.out; omega)
  replace EY := hid (EY.out.trans hx0)
  replace P11 := hid (P11.out.up hx0)
  replace D11 := hid (D11.out.up hx0)
  replace P12 := hid (P12.out.up hx0)
  replace D12 := hid (D12.out.up hx0)
  have V5 : Hid (Box wv gV5 #[.bool false, .slice none 0 0, .slice none 0 0] 26) := hid hbox
  clear hx0 hbox hge hng
  simp only [Act.put, pA, pB, pC]
  refine WE.var (d := some 6) rfl fun gV6 wv hx0 hbox hge hng => ?_
  have HNV6V5 := hid (show gV6 ≠ gV5 by intro e; exact hng (by simp [e]))
  have HGV6 := hid (show w.heap.size ≤ gV6 by have := HW1.out; omega)
  replace EY := hid (EY.out.trans hx0)
  replace V5 := hid (V5.out.up hx0)
  replace P11 := hid (P11.out.up hx0)
  replace D11 := hid (D11.out.up hx0)
  replace P12 := hid (P12.out.up hx0)
  replace D12 := hid (D12.out.up hx0)
  have V6 : Hid (Box wv gV6 #[.bool false, .slice none 0 0, .slice none 0 0] 26) := hid hbox
  clear hx0 hbox hge hng
  simp only [Act.put, pA, pB, pC]
  refine WE.store3 (g := gV5) (x := .bool g11) (y := .slice A11 n11 c11) (z := .slice B11 m11 d11) (t := 26) rfl rfl (by rfl) (fun w hb => ?_) V5.out (by rfl) fun ws hk hs => ?_
  · obtain ⟨ce0, ce1, ce2⟩ := hb.c3; obtain ⟨f0, f1, f2⟩ := hb.f3; go_simp
  intro hbx
  replace E := hid ((E.out.trans EY.out).keptG hk HGV5.out)
  replace V5 := hid hbx
  replace V6 := hid (V6.out.kept hk (by simpa using HNV6V5.out))
  replace P11 := hid (P11.out.kz hs)
  replace D11 := hid (D11.out.kz hs)
  replace P12 := hid (P12.out.kz hs)
  replace D12 := hid (D12.out.kz hs)
  clear hk hs hbx
  replace EY := hid (Ext.refl ws)
  refine WE.store3 (g := gV6) (x := .bool g12) (y := .slice A12 n12 c12) (z := .slice B12 m12 d12) (t := 26) rfl rfl (by rfl) (fun w hb => ?_) (V6.out.up EY.out) (by rfl) fun ws hk hs => ?_
  · obtain ⟨ce0, ce1, ce2⟩ := hb.c3; obtain ⟨f0, f1, f2⟩ := hb.f3; go_simp
  intro hbx
  replace E := hid ((E.out.trans EY.out).keptG hk HGV6.out)
  replace V5 := hid ((V5.out.up EY.out).kept hk (by simpa using HNV6V5.out.symm))
  replace V6 := hid hbx
  replace P11 := hid ((P11.out.up EY.out).kz hs)
  replace D11 := hid ((D11.out.up EY.out).kz hs)
  replace P12 := hid ((P12.out.up EY.out).kz hs)
  replace D12 := hid ((D12.out.up EY.out).kz hs)
  clear hk hs hbx
  replace EY := hid (Ext.refl ws)
  refine WE.done ?_
  go_upto_region 2 with (fail)
  refine wp_region_E [(0, 0), (1, 0), (2, 0), (5, 0), (6, 0), (7, 0), (3, 1), (4, 1), (8, 1), (9, 1), (10, 1), (11, 0)] (fun _ => (0, #[])) rfl (by kernel_rfl) (by intro j hj; cases hj) (fun _ _ d _ _ => by cases d <;> exact Iff.rfl) fun wd hb => ?_
  replace EY := hid (EY.out.trans hb)
  clear hb
  refine WE.pure (d := some 11) rfl rfl (by rfl) (v := (.pointer (some ⟨gV5, 0, none⟩))) (fun w' hk => by go_simp) ?_
  simp only [Act.put, pA, pB, pC]
  refine WE.pure (d := some 12) rfl rfl (by rfl) (v := (.agg #[.bool g11, .slice A11 n11 c11])) (fun w' hk => ?_) ?_
  · obtain ⟨ce0, ce1, ce2⟩ := ((V5.out.up EY.out).up hk).c3; go_simp
  simp only [Act.put, pA, pB, pC]
  refine WE.pure (d := some 13) rfl rfl (by rfl) (v := (.agg #[.bool g12, .slice A12 n12 c12, .slice B12 m12 d12])) (fun w' hk => ?_) ?_
  · obtain ⟨ce0, ce1, ce2⟩ := ((V6.out.up EY.out).up hk).c3; go_simp
  simp only [Act.put, pA, pB, pC]
  refine WE.pure (d := some 16) rfl rfl (by rfl) (v := (.pointer (some ⟨gV6, 0, none⟩))) (fun w' hk => by go_simp) ?_
  simp only [Act.put, pA, pB, pC]
  refine WE.pure (d := some 17) rfl rfl (by rfl) (v := (.agg #[.bool g12, .slice A12 n12 c12])) (fun w' hk => ?_) ?_
  · obtain ⟨ce0, ce1, ce2⟩ := ((V6.out.up EY.out).up hk).c3; go_simp
  simp only [Act.put, pA, pB, pC]
  refine WE.pure (d := some 18) rfl rfl (by rfl) (v := (.agg #[.bool g11, .slice A11 n11 c11, .slice B11 m11 d11])) (fun w' hk => ?_) ?_
  · obtain ⟨ce0, ce1, ce2⟩ := ((V5.out.up EY.out).up hk).c3; go_simp
  simp only [Act.put, pA, pB, pC]
  refine WE.call (d := some 14) rfl rfl (by rfl) (by go_simp) ((rden_r _ g12 A12 n12 c12 B12 m12 d12).mono ?_)
  rintro e wn ⟨rfl, hb⟩
  refine ⟨_, rfl, hb, ?_⟩
  replace EY := hid (EY.out.trans hb)
  clear hb
  simp only [Act.put, pA, pB, pC]
  refine WE.call (d := some 15) rfl rfl (by rfl) (by go_simp) ((rMul_w (P11.out.up EY.out).worth (D12.out.up EY.out).worth (by have := HJ.out; have := HJ1.out; omega) (by have := HJ.out; have := HJ1.out; omega)).mono ?_)
  rintro e wn ⟨v1, rfl, x1, hb⟩
  obtain ⟨g13, A13, n13, c13, rfl⟩ := x1.shape
  refine ⟨_, rfl, hb, ?_⟩
  replace EY := hid (EY.out.trans hb)
  have Q13 := hid x1
  clear hb x1
  simp only [Act.put, pA, pB, pC]
  refine WE.call (d := some 19) rfl rfl (by rfl) (by go_simp) ((rden_r _ g11 A11 n11 c11 B11 m11 d11).mono ?_)
  rintro e wn ⟨rfl, hb⟩
  refine ⟨_, rfl, hb, ?_⟩
  replace EY := hid (EY.out.trans hb)
  replace Q13 := hid (Q13.out.up hb)
  clear hb
  simp only [Act.put, pA, pB, pC]
  refine WE.call (d := some 20) rfl rfl (by rfl) (by go_simp) ((rMul_w (P12.out.up EY.out).worth (D11.out.up EY.out).worth (by have := HJ.out; have := HJ1.out; omega) (by have := HJ.out; have := HJ1.out; omega)).mono ?_)
  rintro e wn ⟨v1, rfl, x1, hb⟩
  obtain ⟨g14, A14, n14, c14, rfl⟩ := x1.shape
  refine ⟨_, rfl, hb, ?_⟩
  replace EY := hid (EY.out.trans hb)
  replace Q13 := hid (Q13.out.up hb)
  have Q14 := hid x1
  clear hb x1
  simp only [Act.put, pA, pB, pC]
  refine WE.call (d := some 21) rfl rfl (by rfl) (by go_simp) ((rCmp_w Q13.out.worth Q14.out.worth (z := z) (HZ.out)).mono ?_)
  rintro e wn ⟨rfl, hb⟩
  refine ⟨_, rfl, hb, ?_⟩
  replace EY := hid (EY.out.trans hb)
  clear hb
  simp only [Act.put, pA, pB, pC]
  clear Q13
  clear Q14
  refine WE.pure (d := some 4) rfl rfl (by rfl) (v := (.int .i64 z)) (fun w' hk => by go_simp) ?_
  simp only [Act.put, pA, pB, pC]
  refine WE.done ?_
  repeat go_step
  go_ret
  exact ⟨rfl, (E.out.trans EY.out)⟩

set_option maxHeartbeats 2000000 in
theorem rNegR_r {w : World} {u : Value} {x : Rat} {j : Nat} (h1 : WorthR w u x j) (hj : j ≤ 60) (hj1 : 1 ≤ j) :
    Calls Tryz.prog 24 #[u] w (GivesR w (-x) j) := by
  obtain ⟨g1, A1, n1, c1, B1, m1, d1, rfl⟩ := h1.shape
  have R1 := hid h1
  have HJ := hid hj
  have HJ1 := hid hj1
  clear h1 hj hj1
  go_enter Tryz.func24, Tryz.ntmps24
  go_upto_region 1 with (fail)
  have E := hid (((Ext.refl w).alloc' (.cells #[.bool g1, .slice A1 n1 c1, .slice B1 m1 d1] 26)).alloc' (.cells #[.bool false, .slice none 0 0, .slice none 0 0] 26))
  have BX0 : Hid (Box ((w.alloc (.cells #[.bool g1, .slice A1 n1 c1, .slice B1 m1 d1] 26)).alloc (.cells #[.bool false, .slice none 0 0, .slice none 0 0] 26)) (w.heap.size) #[.bool g1, .slice A1 n1 c1, .slice B1 m1 d1] 26) := hid ((Box.at_ (w := w) #[.bool g1, .slice A1 n1 c1, .slice B1 m1 d1] 26 (by simp)).alloc (.cells #[.bool false, .slice none 0 0, .slice none 0 0] 26))
  have BX1 : Hid (Box ((w.alloc (.cells #[.bool g1, .slice A1 n1 c1, .slice B1 m1 d1] 26)).alloc (.cells #[.bool false, .slice none 0 0, .slice none 0 0] 26)) (w.heap.size + 1) #[.bool false, .slice none 0 0, .slice none 0 0] 26) := hid (Box.at_ (w := (w.alloc (.cells #[.bool g1, .slice A1 n1 c1, .slice B1 m1 d1] 26))) #[.bool false, .slice none 0 0, .slice none 0 0] 26 (by simp))
  replace R1 := hid (R1.out.up E.out)
  refine wp_region_T [(0, 0), (1, 1), (2, 1), (3, 4)] (by kernel_rfl) fun wd hb => ?_
  replace E := hid (E.out.trans hb)
  replace BX0 := hid (BX0.out.up hb)
  replace BX1 := hid (BX1.out.up hb)
  replace R1 := hid (R1.out.up hb)
  clear hb
  have EY := hid (Ext.refl wd)
  refine WE.pure (d := some 4) rfl rfl (by rfl) (v := (.agg #[.bool g1, .slice A1 n1 c1, .slice B1 m1 d1])) (fun w' hk => ?_) ?_
  · obtain ⟨ce0, ce1, ce2⟩ := ((BX0.out.up EY.out).up hk).c3; go_simp
  simp only [Act.put, pA, pB, pC]
  refine WE.call (d := some 5) rfl rfl (by rfl) (by go_simp) ((rMayR_r (R1.out.up EY.out) (by have := HJ.out; have := HJ1.out; omega) (by have := HJ.out; have := HJ1.out; omega)).mono ?_)
  rintro e wn ⟨v1, rfl, x1, hb⟩
  obtain ⟨g11, A11, n11, c11, B11, m11, d11, rfl, p1, q1⟩ := x1
  refine ⟨_, rfl, hb, ?_⟩
  replace EY := hid (EY.out.trans hb)
  have P11 := hid p1
  have D11 := hid q1
  clear hb p1 q1
  simp only [Act.put, pA, pB, pC]
  refine WE.new (d := some 3) (cs := #[.bool false, .slice none 0 0, .slice none 0 0]) (t := 26) (v := fun g => (.pointer (some ⟨g, 0, none⟩))) rfl rfl (by rfl) (fun w => by go_simp) fun gV3 wv hx0 hbox hge => ?_
  have HNV3BX1 := hid (show gV3 ≠ (w.heap.size + 1) by have := (BX1.out.up EY.out).lt; omega)
  have HGV3 := hid (show w.heap.size ≤ gV3 by have := (E.out.trans EY.out).size; omega)
  replace EY := hid (EY.out.trans hx0)
  replace P11 := hid (P11.out.up hx0)
  replace D11 := hid (D11.out.up hx0)
  have V3 : Hid (Box wv gV3 #[.bool false, .slice none 0 0, .slice none 0 0] 26) := hid hbox
  clear hx0 hbox hge
  simp only [Act.put, pA, pB, pC]
  refine WE.store3 (g := gV3) (x := .bool g11) (y := .slice A11 n11 c11) (z := .slice B11 m11 d11) (t := 26) rfl rfl (by rfl) (fun w hb => ?_) V3.out (by rfl) fun ws hk hs => ?_
  · obtain ⟨ce0, ce1, ce2⟩ := hb.c3; obtain ⟨f0, f1, f2⟩ := hb.f3; go_simp
  intro hbx
  replace E := hid ((E.out.trans EY.out).keptG hk HGV3.out)
  replace BX1 := hid ((BX1.out.up EY.out).kept hk (by simpa using HNV3BX1.out.symm))
  replace V3 := hid hbx
  replace P11 := hid (P11.out.kz hs)
  replace D11 := hid (D11.out.kz hs)
  clear hk hs hbx
  replace EY := hid (Ext.refl ws)
  refine WE.done ?_
  go_upto_region 2 with (fail)
  refine wp_region_E [(0, 0), (1, 0), (3, 0), (4, 0), (2, 1), (5, 0), (6, 4)] (fun _ => (0, #[])) rfl (by kernel_rfl) (by intro j hj; cases hj) (fun _ _ d _ _ => by cases d <;> exact Iff.rfl) fun wd hb => ?_
  replace EY := hid (EY.out.trans hb)
  clear hb
  refine WE.pure (d := some 6) rfl rfl (by rfl) (v := (.pointer (some ⟨gV3, 0, none⟩))) (fun w' hk => by go_simp) ?_
  simp only [Act.put, pA, pB, pC]
  refine WE.pure (d := some 7) rfl rfl (by rfl) (v := (.agg #[.bool g11, .slice A11 n11 c11])) (fun w' hk => ?_) ?_
  · obtain ⟨ce0, ce1, ce2⟩ := ((V3.out.up EY.out).up hk).c3; go_simp
  simp only [Act.put, pA, pB, pC]
  refine WE.pure (d := some 9) rfl rfl (by rfl) (v := (.pointer (some ⟨gV3, 2, none⟩))) (fun w' hk => by go_simp) ?_
  simp only [Act.put, pA, pB, pC]
  refine WE.pure (d := some 10) rfl rfl (by rfl) (v := (.slice B11 m11 d11)) (fun w' hk => ?_) ?_
  · have ce2 := hk.cell ((V3.out.up EY.out).cell (o := 2) (v := .slice B11 m11 d11) rfl); go_simp
  simp only [Act.put, pA, pB, pC]
  refine WE.call (d := some 8) rfl rfl (by rfl) (by go_simp) ((rNeg_w (P11.out.up EY.out).worth).mono ?_)
  rintro e wn ⟨v1, rfl, x1, hb⟩
  obtain ⟨g12, A12, n12, c12, rfl⟩ := x1.shape
  refine ⟨_, rfl, hb, ?_⟩
  replace EY := hid (EY.out.trans hb)
  have Q12 := hid x1
  clear hb x1
  simp only [Act.put, pA, pB, pC]
  refine WE.pure (d := some 11) rfl rfl (by rfl) (v := (.agg #[.bool g12, .slice A12 n12 c12, .slice B11 m11 d11])) (fun w' hk => by go_simp) ?_
  simp only [Act.put, pA, pB, pC]
  refine WE.store3 (g := (w.heap.size + 1)) (x := .bool g12) (y := .slice A12 n12 c12) (z := .slice B11 m11 d11) (t := 26) rfl rfl (by rfl) (fun w hb => ?_) (BX1.out.up EY.out) (by rfl) fun ws hk hs => ?_
  · obtain ⟨ce0, ce1, ce2⟩ := hb.c3; obtain ⟨f0, f1, f2⟩ := hb.f3; go_simp
  intro hbx
  replace E := hid ((E.out.trans EY.out).keptG hk (by simp))
  replace BX1 := hid hbx
  replace D11 := hid ((D11.out.up EY.out).kz hs)
  replace Q12 := hid (Q12.out.kz hs)
  clear hk hs hbx
  replace EY := hid (Ext.refl ws)
  refine WE.done ?_
  have r0 := (BX1.out.up EY.out).cell (o := 0) (v := .bool g12) rfl
  have r1 := (BX1.out.up EY.out).cell (o := 1) (v := .slice A12 n12 c12) rfl
  have r2 := (BX1.out.up EY.out).cell (o := 2) (v := .slice B11 m11 d11) rfl
  repeat go_step
  exact bodyPost_ret (v := .agg #[.bool g12, .slice A12 n12 c12, .slice B11 m11 d11]) (by simp [results, Tryz.results24, go_sem, r0, r1, r2]) rfl ⟨_, rfl, IsR.mk (x := -x) (Q12.out.up EY.out) (D11.out.up EY.out), (E.out.trans EY.out)⟩

set_option maxHeartbeats 2000000 in
theorem rAddR_r {w : World} {u v : Value} {x y : Rat} {j : Nat} (h1 : WorthR w u x j) (h2 : WorthR w v y j) (hj : j ≤ 60) (hj1 : 1 ≤ j) :
    Calls Tryz.prog 26 #[u, v] w (GivesR w (x + y) (2 * j + 5)) := by
  obtain ⟨g1, A1, n1, c1, B1, m1, d1, rfl⟩ := h1.shape
  have R1 := hid h1
  obtain ⟨g2, A2, n2, c2, B2, m2, d2, rfl⟩ := h2.shape
  have R2 := hid h2
  have HJ := hid hj
  have HJ1 := hid hj1
  clear h1 h2 hj hj1
  go_enter Tryz.func26, Tryz.ntmps26
  go_upto_region 1 with (fail)
  have E := hid ((((Ext.refl w).alloc' (.cells #[.bool g1, .slice A1 n1 c1, .slice B1 m1 d1] 26)).alloc' (.cells #[.bool g2, .slice A2 n2 c2, .slice B2 m2 d2] 26)).alloc' (.cells #[.bool false, .slice none 0 0, .slice none 0 0] 26))
  have BX0 : Hid (Box (((w.alloc (.cells #[.bool g1, .slice A1 n1 c1, .slice B1 m1 d1] 26)).alloc (.cells #[.bool g2, .slice A2 n2 c2, .slice B2 m2 d2] 26)).alloc (.cells #[.bool false, .slice none 0 0, .slice none 0 0] 26)) (w.heap.size) #[.bool g1, .slice A1 n1 c1, .slice B1 m1 d1] 26) := hid (((Box.at_ (w := w) #[.bool g1, .slice A1 n1 c1, .slice B1 m1 d1] 26 (by simp)).alloc (.cells #[.bool g2, .slice A2 n2 c2, .slice B2 m2 d2] 26)).alloc (.cells #[.bool false, .slice none 0 0, .slice none 0 0] 26))
  have BX1 : Hid (Box (((w.alloc (.cells #[.bool g1, .slice A1 n1 c1, .slice B1 m1 d1] 26)).alloc (.cells #[.bool g2, .slice A2 n2 c2, .slice B2 m2 d2] 26)).alloc (.cells #[.bool false, .slice none 0 0, .slice none 0 0] 26)) (w.heap.size + 1) #[.bool g2, .slice A2 n2 c2, .slice B2 m2 d2] 26) := hid ((Box.at_ (w := (w.alloc (.cells #[.bool g1, .slice A1 n1 c1, .slice B1 m1 d1] 26))) #[.bool g2, .slice A2 n2 c2, .slice B2 m2 d2] 26 (by simp)).alloc (.cells #[.bool false, .slice none 0 0, .slice none 0 0] 26))
  have BX2 : Hid (Box (((w.alloc (.cells #[.bool g1, .slice A1 n1 c1, .slice B1 m1 d1] 26)).alloc (.cells #[.bool g2, .slice A2 n2 c2, .slice B2 m2 d2] 26)).alloc (.cells #[.bool false, .slice none 0 0, .slice none 0 0] 26)) (w.heap.size + 2) #[.bool false, .slice none 0 0, .slice none 0 0] 26) := hid (Box.at_ (w := ((w.alloc (.cells #[.bool g1, .slice A1 n1 c1, .slice B1 m1 d1] 26)).alloc (.cells #[.bool g2, .slice A2 n2 c2, .slice B2 m2 d2] 26))) #[.bool false, .slice none 0 0, .slice none 0 0] 26 (by simp))
  replace R1 := hid (R1.out.up E.out)
  replace R2 := hid (R2.out.up E.out)
  refine wp_region_E [(0, 0), (2, 0), (1, 2), (3, 2), (4, 3), (5, 3), (6, 4), (7, 4)] (fun _ => (26, #[.bool false, .slice none 0 0, .slice none 0 0])) rfl (by kernel_rfl) (by intro j hj; simp [pend] at hj; rcases hj with rfl | rfl <;> exact ⟨_, rfl, rfl, rfl, fun w => by go_simp⟩) (fun _ _ d _ _ => by cases d <;> exact Iff.rfl) fun wd hb => ?_
  replace E := hid (E.out.trans hb)
  replace BX0 := hid (BX0.out.up hb)
  replace BX1 := hid (BX1.out.up hb)
  replace BX2 := hid (BX2.out.up hb)
  replace R1 := hid (R1.out.up hb)
  replace R2 := hid (R2.out.up hb)
  clear hb
  have HL1BX0 := hid BX0.out.lt
  have HL1BX1 := hid BX1.out.lt
  have HL1BX2 := hid BX2.out.lt
  have HW1 := hid (show w.heap.size ≤ wd.heap.size from E.out.size)
  have EY := hid (Ext.refl wd)
  refine WE.pure (d := some 7) rfl rfl (by rfl) (v := (.agg #[.bool g1, .slice A1 n1 c1, .slice B1 m1 d1])) (fun w' hk => ?_) ?_
  · obtain ⟨ce0, ce1, ce2⟩ := ((BX0.out.up EY.out).up hk).c3; go_simp
  simp only [Act.put, pA, pB, pC]
  refine WE.pure (d := some 9) rfl rfl (by rfl) (v := (.agg #[.bool g2, .slice A2 n2 c2, .slice B2 m2 d2])) (fun w' hk => ?_) ?_
  · obtain ⟨ce0, ce1, ce2⟩ := ((BX1.out.up EY.out).up hk).c3; go_simp
  simp only [Act.put, pA, pB, pC]
  refine WE.callR (d := some 8) rfl rfl (by rfl) (f := 22) (args := #[(.agg #[.bool g1, .slice A1 n1 c1, .slice B1 m1 d1])]) (fun w => by go_simp) (fun wx hx0 => ?_)
  replace EY := hid (EY.out.trans hx0)
  clear hx0
  refine (rMayR_r (R1.out.up EY.out) (by have := HJ.out; have := HJ1.out; omega) (by have := HJ.out; have := HJ1.out; omega)).mono ?_
  rintro e wn ⟨v1, rfl, x1, hb⟩
  obtain ⟨g11, A11, n11, c11, B11, m11, d11, rfl, p1, q1⟩ := x1
  refine ⟨_, rfl, hb, ?_⟩
  replace EY := hid (EY.out.trans hb)
  have P11 := hid p1
  have D11 := hid q1
  clear hb p1 q1
  simp only [Act.put, pA, pB, pC]
  refine WE.callR (d := some 10) rfl rfl (by rfl) (f := 22) (args := #[(.agg #[.bool g2, .slice A2 n2 c2, .slice B2 m2 d2])]) (fun w => by go_simp) (fun wx hx0 => ?_)
  replace EY := hid (EY.out.trans hx0)
  replace P11 := hid (P11.out.up hx0)
  replace D11 := hid (D11.out.up hx0)
  clear hx0
  refine (rMayR_r (R2.out.up EY.out) (by have := HJ.out; have := HJ1.out; omega) (by have := HJ.out; have := HJ1.out; omega)).mono ?_
  rintro e wn ⟨v1, rfl, x1, hb⟩
  obtain ⟨g12, A12, n12, c12, B12, m12, d12, rfl, p1, q1⟩ := x1
  refine ⟨_, rfl, hb, ?_⟩
  replace EY := hid (EY.out.trans hb)
  replace P11 := hid (P11.out.up hb)
  replace D11 := hid (D11.out.up hb)
  have P12 := hid p1
  have D12 := hid q1
  clear hb p1 q1
  simp only [Act.put, pA, pB, pC]
  refine WE.var (d := some 5) rfl fun gV5 wv hx0 hbox hge hng => ?_
  have HNV5BX2 := hid (show gV5 ≠ (w.heap.size + 2) by have := HL1BX2.out; omega)
  have HGV5 := hid (show w.heap.size ≤ gV5 by have := HW1.out; omega)
  replace EY := hid (EY.out.trans hx0)
  replace P11 := hid (P11.out.up hx0)
  replace D11 := hid (D11.out.up hx0)
  replace P12 := hid (P12.out.up hx0)
  replace D12 := hid (D12.out.up hx0)
  have V5 : Hid (Box wv gV5 #[.bool false, .slice none 0 0, .slice none 0 0] 26) := hid hbox
  clear hx0 hbox hge hng
  simp only [Act.put, pA, pB, pC]
  refine WE.var (d := some 6) rfl fun gV6 wv hx0 hbox hge hng => ?_
  have HNV6BX2 := hid (show gV6 ≠ (w.heap.size + 2) by have := HL1BX2.out; omega)
  have HNV6V5 := hid (show gV6 ≠ gV5 by intro e; exact hng (by simp [e]))
  have HGV6 := hid (show w.heap.size ≤ gV6 by have := HW1.out; omega)
  replace EY := hid (EY.out.trans hx0)
  replace V5 := hid (V5.out.up hx0)
  replace P11 := hid (P11.out.up hx0)
  replace D11 := hid (D11.out.up hx0)
  replace P12 := hid (P12.out.up hx0)
  replace D12 := hid (D12.out.up hx0)
  have V6 : Hid (Box wv gV6 #[.bool false, .slice none 0 0, .slice none 0 0] 26) := hid hbox
  clear hx0 hbox hge hng
  simp only [Act.put, pA, pB, pC]
  refine WE.store3 (g := gV5) (x := .bool g11) (y := .slice A11 n11 c11) (z := .slice B11 m11 d11) (t := 26) rfl rfl (by rfl) (fun w hb => ?_) V5.out (by rfl) fun ws hk hs => ?_
  · obtain ⟨ce0, ce1, ce2⟩ := hb.c3; obtain ⟨f0, f1, f2⟩ := hb.f3; go_simp
  intro hbx
  replace E := hid ((E.out.trans EY.out).keptG hk HGV5.out)
  replace BX2 := hid ((BX2.out.up EY.out).kept hk (by simpa using HNV5BX2.out.symm))
  replace V5 := hid hbx
  replace V6 := hid (V6.out.kept hk (by simpa using HNV6V5.out))
  replace P11 := hid (P11.out.kz hs)
  replace D11 := hid (D11.out.kz hs)
  replace P12 := hid (P12.out.kz hs)
  replace D12 := hid (D12.out.kz hs)
  clear hk hs hbx
  replace EY := hid (Ext.refl ws)
  refine WE.store3 (g := gV6) (x := .bool g12) (y := .slice A12 n12 c12) (z := .slice B12 m12 d12) (t := 26) rfl rfl (by rfl) (fun w hb => ?_) (V6.out.up EY.out) (by rfl) fun ws hk hs => ?_
  · obtain ⟨ce0, ce1, ce2⟩ := hb.c3; obtain ⟨f0, f1, f2⟩ := hb.f3; go_simp
  intro hbx
  replace E := hid ((E.out.trans EY.out).keptG hk HGV6.out)
  replace BX2 := hid ((BX2.out.up EY.out).kept hk (by simpa using HNV6BX2.out.symm))
  replace V5 := hid ((V5.out.up EY.out).kept hk (by simpa using HNV6V5.out.symm))
  replace V6 := hid hbx
  replace P11 := hid ((P11.out.up EY.out).kz hs)
  replace D11 := hid ((D11.out.up EY.out).kz hs)
  replace P12 := hid ((P12.out.up EY.out).kz hs)
  replace D12 := hid ((D12.out.up EY.out).kz hs)
  clear hk hs hbx
  replace EY := hid (Ext.refl ws)
  refine WE.done ?_
  go_upto_region 2 with (fail)
  refine wp_region_E [(0, 0), (1, 0), (2, 0), (5, 0), (6, 0), (7, 0), (11, 0), (13, 0), (3, 1), (4, 1), (8, 1), (9, 1), (10, 1), (12, 1), (14, 1), (15, 1), (16, 1), (17, 4)] (fun _ => (0, #[])) rfl (by kernel_rfl) (by intro j hj; cases hj) (fun _ _ d _ _ => by cases d <;> exact Iff.rfl) fun wd hb => ?_
  replace EY := hid (EY.out.trans hb)
  clear hb
  refine WE.pure (d := some 11) rfl rfl (by rfl) (v := (.pointer (some ⟨gV5, 0, none⟩))) (fun w' hk => by go_simp) ?_
  simp only [Act.put, pA, pB, pC]
  refine WE.pure (d := some 12) rfl rfl (by rfl) (v := (.agg #[.bool g11, .slice A11 n11 c11])) (fun w' hk => ?_) ?_
  · obtain ⟨ce0, ce1, ce2⟩ := ((V5.out.up EY.out).up hk).c3; go_simp
  simp only [Act.put, pA, pB, pC]
  refine WE.pure (d := some 13) rfl rfl (by rfl) (v := (.agg #[.bool g12, .slice A12 n12 c12, .slice B12 m12 d12])) (fun w' hk => ?_) ?_
  · obtain ⟨ce0, ce1, ce2⟩ := ((V6.out.up EY.out).up hk).c3; go_simp
  simp only [Act.put, pA, pB, pC]
  refine WE.pure (d := some 16) rfl rfl (by rfl) (v := (.pointer (some ⟨gV6, 0, none⟩))) (fun w' hk => by go_simp) ?_
  simp only [Act.put, pA, pB, pC]
  refine WE.pure (d := some 17) rfl rfl (by rfl) (v := (.agg #[.bool g12, .slice A12 n12 c12])) (fun w' hk => ?_) ?_
  · obtain ⟨ce0, ce1, ce2⟩ := ((V6.out.up EY.out).up hk).c3; go_simp
  simp only [Act.put, pA, pB, pC]
  refine WE.pure (d := some 18) rfl rfl (by rfl) (v := (.agg #[.bool g11, .slice A11 n11 c11, .slice B11 m11 d11])) (fun w' hk => ?_) ?_
  · obtain ⟨ce0, ce1, ce2⟩ := ((V5.out.up EY.out).up hk).c3; go_simp
  simp only [Act.put, pA, pB, pC]
  refine WE.pure (d := some 22) rfl rfl (by rfl) (v := (.agg #[.bool g11, .slice A11 n11 c11, .slice B11 m11 d11])) (fun w' hk => ?_) ?_
  · obtain ⟨ce0, ce1, ce2⟩ := ((V5.out.up EY.out).up hk).c3; go_simp
  simp only [Act.put, pA, pB, pC]
  refine WE.pure (d := some 24) rfl rfl (by rfl) (v := (.agg #[.bool g12, .slice A12 n12 c12, .slice B12 m12 d12])) (fun w' hk => ?_) ?_
  · obtain ⟨ce0, ce1, ce2⟩ := ((V6.out.up EY.out).up hk).c3; go_simp
  simp only [Act.put, pA, pB, pC]
  refine WE.call (d := some 14) rfl rfl (by rfl) (by go_simp) ((rden_r _ g12 A12 n12 c12 B12 m12 d12).mono ?_)
  rintro e wn ⟨rfl, hb⟩
  refine ⟨_, rfl, hb, ?_⟩
  replace EY := hid (EY.out.trans hb)
  clear hb
  simp only [Act.put, pA, pB, pC]
  refine WE.call (d := some 15) rfl rfl (by rfl) (by go_simp) ((rMul_w (P11.out.up EY.out).worth (D12.out.up EY.out).worth (by have := HJ.out; have := HJ1.out; omega) (by have := HJ.out; have := HJ1.out; omega)).mono ?_)
  rintro e wn ⟨v1, rfl, x1, hb⟩
  obtain ⟨g13, A13, n13, c13, rfl⟩ := x1.shape
  refine ⟨_, rfl, hb, ?_⟩
  replace EY := hid (EY.out.trans hb)
  have Q13 := hid x1
  clear hb x1
  simp only [Act.put, pA, pB, pC]
  refine WE.call (d := some 19) rfl rfl (by rfl) (by go_simp) ((rden_r _ g11 A11 n11 c11 B11 m11 d11).mono ?_)
  rintro e wn ⟨rfl, hb⟩
  refine ⟨_, rfl, hb, ?_⟩
  replace EY := hid (EY.out.trans hb)
  replace Q13 := hid (Q13.out.up hb)
  clear hb
  simp only [Act.put, pA, pB, pC]
  refine WE.call (d := some 20) rfl rfl (by rfl) (by go_simp) ((rMul_w (P12.out.up EY.out).worth (D11.out.up EY.out).worth (by have := HJ.out; have := HJ1.out; omega) (by have := HJ.out; have := HJ1.out; omega)).mono ?_)
  rintro e wn ⟨v1, rfl, x1, hb⟩
  obtain ⟨g14, A14, n14, c14, rfl⟩ := x1.shape
  refine ⟨_, rfl, hb, ?_⟩
  replace EY := hid (EY.out.trans hb)
  replace Q13 := hid (Q13.out.up hb)
  have Q14 := hid x1
  clear hb x1
  simp only [Act.put, pA, pB, pC]
  refine WE.call (d := some 21) rfl rfl (by rfl) (by go_simp) ((rAdd_w Q13.out.worth Q14.out.worth (by have := HJ.out; have := HJ1.out; omega) (by have := HJ.out; have := HJ1.out; omega)).mono ?_)
  rintro e wn ⟨v1, rfl, x1, hb⟩
  obtain ⟨g15, A15, n15, c15, rfl⟩ := x1.shape
  refine ⟨_, rfl, hb, ?_⟩
  replace EY := hid (EY.out.trans hb)
  have Q15 := hid x1
  clear hb x1
  simp only [Act.put, pA, pB, pC]
  clear Q13
  clear Q14
  refine WE.call (d := some 23) rfl rfl (by rfl) (by go_simp) ((rden_r _ g11 A11 n11 c11 B11 m11 d11).mono ?_)
  rintro e wn ⟨rfl, hb⟩
  refine ⟨_, rfl, hb, ?_⟩
  replace EY := hid (EY.out.trans hb)
  replace Q15 := hid (Q15.out.up hb)
  clear hb
  simp only [Act.put, pA, pB, pC]
  refine WE.call (d := some 25) rfl rfl (by rfl) (by go_simp) ((rden_r _ g12 A12 n12 c12 B12 m12 d12).mono ?_)
  rintro e wn ⟨rfl, hb⟩
  refine ⟨_, rfl, hb, ?_⟩
  replace EY := hid (EY.out.trans hb)
  replace Q15 := hid (Q15.out.up hb)
  clear hb
  simp only [Act.put, pA, pB, pC]
  refine WE.call (d := some 26) rfl rfl (by rfl) (by go_simp) ((rMul_w (D11.out.up EY.out).worth (D12.out.up EY.out).worth (by have := HJ.out; have := HJ1.out; omega) (by have := HJ.out; have := HJ1.out; omega)).mono ?_)
  rintro e wn ⟨v1, rfl, x1, hb⟩
  obtain ⟨g16, A16, n16, c16, rfl⟩ := x1.shape
  refine ⟨_, rfl, hb, ?_⟩
  replace EY := hid (EY.out.trans hb)
  replace Q15 := hid (Q15.out.up hb)
  have Q16 := hid x1
  clear hb x1
  simp only [Act.put, pA, pB, pC]
  refine WE.call (d := some 27) rfl rfl (by rfl) (by go_simp) ((rOfR_r (Worth.wide Q15.out.worth (k := (2 * j + 2)) (by have := HJ.out; have := HJ1.out; omega)) (Worth.wide Q16.out.worth (k := (2 * j + 2)) (by have := HJ.out; have := HJ1.out; omega)) (by have := HJ.out; have := HJ1.out; omega)).mono ?_)
  rintro e wn ⟨v1, rfl, x1, hb⟩
  replace x1 := x1.to (M.of_add x y)
  obtain ⟨g17, A17, n17, c17, B17, m17, d17, rfl, p1, q1⟩ := x1
  refine ⟨_, rfl, hb, ?_⟩
  replace EY := hid (EY.out.trans hb)
  have P17 := hid p1
  have D17 := hid q1
  clear hb p1 q1
  simp only [Act.put, pA, pB, pC]
  clear Q15
  clear Q16
  refine WE.store3 (g := (w.heap.size + 2)) (x := .bool g17) (y := .slice A17 n17 c17) (z := .slice B17 m17 d17) (t := 26) rfl rfl (by rfl) (fun w hb => ?_) (BX2.out.up EY.out) (by rfl) fun ws hk hs => ?_
  · obtain ⟨ce0, ce1, ce2⟩ := hb.c3; obtain ⟨f0, f1, f2⟩ := hb.f3; go_simp
  intro hbx
  replace E := hid ((E.out.trans EY.out).keptG hk (by simp))
  replace BX2 := hid hbx
  replace P17 := hid (P17.out.kz hs)
  replace D17 := hid (D17.out.kz hs)
  clear hk hs hbx
  replace EY := hid (Ext.refl ws)
  refine WE.done ?_
  have r0 := (BX2.out.up EY.out).cell (o := 0) (v := .bool g17) rfl
  have r1 := (BX2.out.up EY.out).cell (o := 1) (v := .slice A17 n17 c17) rfl
  have r2 := (BX2.out.up EY.out).cell (o := 2) (v := .slice B17 m17 d17) rfl
  repeat go_step
  exact bodyPost_ret (v := .agg #[.bool g17, .slice A17 n17 c17, .slice B17 m17 d17]) (by simp [results, Tryz.results26, go_sem, r0, r1, r2]) rfl ⟨_, rfl, (IsR.mk (P17.out.up EY.out) (D17.out.up EY.out)).wide (by have := HJ.out; have := HJ1.out; omega), (E.out.trans EY.out)⟩

set_option maxHeartbeats 2000000 in
theorem rMulR_r {w : World} {u v : Value} {x y : Rat} {j : Nat} (h1 : WorthR w u x j) (h2 : WorthR w v y j) (hj : j ≤ 60) (hj1 : 1 ≤ j) :
    Calls Tryz.prog 29 #[u, v] w (GivesR w (x * y) (2 * j + 5)) := by
  obtain ⟨g1, A1, n1, c1, B1, m1, d1, rfl⟩ := h1.shape
  have R1 := hid h1
  obtain ⟨g2, A2, n2, c2, B2, m2, d2, rfl⟩ := h2.shape
  have R2 := hid h2
  have HJ := hid hj
  have HJ1 := hid hj1
  clear h1 h2 hj hj1
  go_enter Tryz.func29, Tryz.ntmps29
  go_upto_region 1 with (fail)
  have E := hid ((((Ext.refl w).alloc' (.cells #[.bool g1, .slice A1 n1 c1, .slice B1 m1 d1] 26)).alloc' (.cells #[.bool g2, .slice A2 n2 c2, .slice B2 m2 d2] 26)).alloc' (.cells #[.bool false, .slice none 0 0, .slice none 0 0] 26))
  have BX0 : Hid (Box (((w.alloc (.cells #[.bool g1, .slice A1 n1 c1, .slice B1 m1 d1] 26)).alloc (.cells #[.bool g2, .slice A2 n2 c2, .slice B2 m2 d2] 26)).alloc (.cells #[.bool false, .slice none 0 0, .slice none 0 0] 26)) (w.heap.size) #[.bool g1, .slice A1 n1 c1, .slice B1 m1 d1] 26) := hid (((Box.at_ (w := w) #[.bool g1, .slice A1 n1 c1, .slice B1 m1 d1] 26 (by simp)).alloc (.cells #[.bool g2, .slice A2 n2 c2, .slice B2 m2 d2] 26)).alloc (.cells #[.bool false, .slice none 0 0, .slice none 0 0] 26))
  have BX1 : Hid (Box (((w.alloc (.cells #[.bool g1, .slice A1 n1 c1, .slice B1 m1 d1] 26)).alloc (.cells #[.bool g2, .slice A2 n2 c2, .slice B2 m2 d2] 26)).alloc (.cells #[.bool false, .slice none 0 0, .slice none 0 0] 26)) (w.heap.size + 1) #[.bool g2, .slice A2 n2 c2, .slice B2 m2 d2] 26) := hid ((Box.at_ (w := (w.alloc (.cells #[.bool g1, .slice A1 n1 c1, .slice B1 m1 d1] 26))) #[.bool g2, .slice A2 n2 c2, .slice B2 m2 d2] 26 (by simp)).alloc (.cells #[.bool false, .slice none 0 0, .slice none 0 0] 26))
  have BX2 : Hid (Box (((w.alloc (.cells #[.bool g1, .slice A1 n1 c1, .slice B1 m1 d1] 26)).alloc (.cells #[.bool g2, .slice A2 n2 c2, .slice B2 m2 d2] 26)).alloc (.cells #[.bool false, .slice none 0 0, .slice none 0 0] 26)) (w.heap.size + 2) #[.bool false, .slice none 0 0, .slice none 0 0] 26) := hid (Box.at_ (w := ((w.alloc (.cells #[.bool g1, .slice A1 n1 c1, .slice B1 m1 d1] 26)).alloc (.cells #[.bool g2, .slice A2 n2 c2, .slice B2 m2 d2] 26))) #[.bool false, .slice none 0 0, .slice none 0 0] 26 (by simp))
  replace R1 := hid (R1.out.up E.out)
  replace R2 := hid (R2.out.up E.out)
  refine wp_region_E [(0, 0), (2, 0), (1, 2), (3, 2), (4, 3), (5, 3), (6, 4), (7, 4)] (fun _ => (26, #[.bool false, .slice none 0 0, .slice none 0 0])) rfl (by kernel_rfl) (by intro j hj; simp [pend] at hj; rcases hj with rfl | rfl <;> exact ⟨_, rfl, rfl, rfl, fun w => by go_simp⟩) (fun _ _ d _ _ => by cases d <;> exact Iff.rfl) fun wd hb => ?_
  replace E := hid (E.out.trans hb)
  replace BX0 := hid (BX0.out.up hb)
  replace BX1 := hid (BX1.out.up hb)
  replace BX2 := hid (BX2.out.up hb)
  replace R1 := hid (R1.out.up hb)
  replace R2 := hid (R2.out.up hb)
  clear hb
  have HL1BX0 := hid BX0.out.lt
  have HL1BX1 := hid BX1.out.lt
  have HL1BX2 := hid BX2.out.lt
  have HW1 := hid (show w.heap.size ≤ wd.heap.size from E.out.size)
  have EY := hid (Ext.refl wd)
  refine WE.pure (d := some 7) rfl rfl (by rfl) (v := (.agg #[.bool g1, .slice A1 n1 c1, .slice B1 m1 d1])) (fun w' hk => ?_) ?_
  · obtain ⟨ce0, ce1, ce2⟩ := ((BX0.out.up EY.out).up hk).c3; go_simp
  simp only [Act.put, pA, pB, pC]
  refine WE.pure (d := some 9) rfl rfl (by rfl) (v := (.agg #[.bool g2, .slice A2 n2 c2, .slice B2 m2 d2])) (fun w' hk => ?_) ?_
  · obtain ⟨ce0, ce1, ce2⟩ := ((BX1.out.up EY.out).up hk).c3; go_simp
  simp only [Act.put, pA, pB, pC]
  refine WE.callR (d := some 8) rfl rfl (by rfl) (f := 22) (args := #[(.agg #[.bool g1, .slice A1 n1 c1, .slice B1 m1 d1])]) (fun w => by go_simp) (fun wx hx0 => ?_)
  replace EY := hid (EY.out.trans hx0)
  clear hx0
  refine (rMayR_r (R1.out.up EY.out) (by have := HJ.out; have := HJ1.out; omega) (by have := HJ.out; have := HJ1.out; omega)).mono ?_
  rintro e wn ⟨v1, rfl, x1, hb⟩
  obtain ⟨g11, A11, n11, c11, B11, m11, d11, rfl, p1, q1⟩ := x1
  refine ⟨_, rfl, hb, ?_⟩
  replace EY := hid (EY.out.trans hb)
  have P11 := hid p1
  have D11 := hid q1
  clear hb p1 q1
  simp only [Act.put, pA, pB, pC]
  refine WE.callR (d := some 10) rfl rfl (by rfl) (f := 22) (args := #[(.agg #[.bool g2, .slice A2 n2 c2, .slice B2 m2 d2])]) (fun w => by go_simp) (fun wx hx0 => ?_)
  replace EY := hid (EY.out.trans hx0)
  replace P11 := hid (P11.out.up hx0)
  replace D11 := hid (D11.out.up hx0)
  clear hx0
  refine (rMayR_r (R2.out.up EY.out) (by have := HJ.out; have := HJ1.out; omega) (by have := HJ.out; have := HJ1.out; omega)).mono ?_
  rintro e wn ⟨v1, rfl, x1, hb⟩
  obtain ⟨g12, A12, n12, c12, B12, m12, d12, rfl, p1, q1⟩ := x1
  refine ⟨_, rfl, hb, ?_⟩
  replace EY := hid (EY.out.trans hb)
  replace P11 := hid (P11.out.up hb)
  replace D11 := hid (D11.out.up hb)
  have P12 := hid p1
  have D12 := hid q1
  clear hb p1 q1
  simp only [Act.put, pA, pB, pC]
  refine WE.var (d := some 5) rfl fun gV5 wv hx0 hbox hge hng => ?_
  have HNV5BX2 := hid (show gV5 ≠ (w.heap.size + 2) by have := HL1BX2.out; omega)
  have HGV5 := hid (show w.heap.size ≤ gV5 by have := HW1.out; omega)
  replace EY := hid (EY.out.trans hx0)
  replace P11 := hid (P11.out.up hx0)
  replace D11 := hid (D11.out.up hx0)
  replace P12 := hid (P12.out.up hx0)
  replace D12 := hid (D12.out.up hx0)
  have V5 : Hid (Box wv gV5 #[.bool false, .slice none 0 0, .slice none 0 0] 26) := hid hbox
  clear hx0 hbox hge hng
  simp only [Act.put, pA, pB, pC]
  refine WE.var (d := some 6) rfl fun gV6 wv hx0 hbox hge hng => ?_
  have HNV6BX2 := hid (show gV6 ≠ (w.heap.size + 2) by have := HL1BX2.out; omega)
  have HNV6V5 := hid (show gV6 ≠ gV5 by intro e; exact hng (by simp [e]))
  have HGV6 := hid (show w.heap.size ≤ gV6 by have := HW1.out; omega)
  replace EY := hid (EY.out.trans hx0)
  replace V5 := hid (V5.out.up hx0)
  replace P11 := hid (P11.out.up hx0)
  replace D11 := hid (D11.out.up hx0)
  replace P12 := hid (P12.out.up hx0)
  replace D12 := hid (D12.out.up hx0)
  have V6 : Hid (Box wv gV6 #[.bool false, .slice none 0 0, .slice none 0 0] 26) := hid hbox
  clear hx0 hbox hge hng
  simp only [Act.put, pA, pB, pC]
  refine WE.store3 (g := gV5) (x := .bool g11) (y := .slice A11 n11 c11) (z := .slice B11 m11 d11) (t := 26) rfl rfl (by rfl) (fun w hb => ?_) V5.out (by rfl) fun ws hk hs => ?_
  · obtain ⟨ce0, ce1, ce2⟩ := hb.c3; obtain ⟨f0, f1, f2⟩ := hb.f3; go_simp
  intro hbx
  replace E := hid ((E.out.trans EY.out).keptG hk HGV5.out)
  replace BX2 := hid ((BX2.out.up EY.out).kept hk (by simpa using HNV5BX2.out.symm))
  replace V5 := hid hbx
  replace V6 := hid (V6.out.kept hk (by simpa using HNV6V5.out))
  replace P11 := hid (P11.out.kz hs)
  replace D11 := hid (D11.out.kz hs)
  replace P12 := hid (P12.out.kz hs)
  replace D12 := hid (D12.out.kz hs)
  clear hk hs hbx
  replace EY := hid (Ext.refl ws)
  refine WE.store3 (g := gV6) (x := .bool g12) (y := .slice A12 n12 c12) (z := .slice B12 m12 d12) (t := 26) rfl rfl (by rfl) (fun w hb => ?_) (V6.out.up EY.out) (by rfl) fun ws hk hs => ?_
  · obtain ⟨ce0, ce1, ce2⟩ := hb.c3; obtain ⟨f0, f1, f2⟩ := hb.f3; go_simp
  intro hbx
  replace E := hid ((E.out.trans EY.out).keptG hk HGV6.out)
  replace BX2 := hid ((BX2.out.up EY.out).kept hk (by simpa using HNV6BX2.out.symm))
  replace V5 := hid ((V5.out.up EY.out).kept hk (by simpa using HNV6V5.out.symm))
  replace V6 := hid hbx
  replace P11 := hid ((P11.out.up EY.out).kz hs)
  replace D11 := hid ((D11.out.up EY.out).kz hs)
  replace P12 := hid ((P12.out.up EY.out).kz hs)
  replace D12 := hid ((D12.out.up EY.out).kz hs)
  clear hk hs hbx
  replace EY := hid (Ext.refl ws)
  refine WE.done ?_
  go_upto_region 2 with (fail)
  refine wp_region_E [(0, 0), (1, 0), (2, 0), (3, 0), (5, 0), (7, 0), (4, 1), (6, 1), (8, 1), (9, 1), (10, 1), (11, 4)] (fun _ => (0, #[])) rfl (by kernel_rfl) (by intro j hj; cases hj) (fun _ _ d _ _ => by cases d <;> exact Iff.rfl) fun wd hb => ?_
  replace EY := hid (EY.out.trans hb)
  clear hb
  refine WE.pure (d := some 11) rfl rfl (by rfl) (v := (.pointer (some ⟨gV5, 0, none⟩))) (fun w' hk => by go_simp) ?_
  simp only [Act.put, pA, pB, pC]
  refine WE.pure (d := some 12) rfl rfl (by rfl) (v := (.agg #[.bool g11, .slice A11 n11 c11])) (fun w' hk => ?_) ?_
  · obtain ⟨ce0, ce1, ce2⟩ := ((V5.out.up EY.out).up hk).c3; go_simp
  simp only [Act.put, pA, pB, pC]
  refine WE.pure (d := some 13) rfl rfl (by rfl) (v := (.pointer (some ⟨gV6, 0, none⟩))) (fun w' hk => by go_simp) ?_
  simp only [Act.put, pA, pB, pC]
  refine WE.pure (d := some 14) rfl rfl (by rfl) (v := (.agg #[.bool g12, .slice A12 n12 c12])) (fun w' hk => ?_) ?_
  · obtain ⟨ce0, ce1, ce2⟩ := ((V6.out.up EY.out).up hk).c3; go_simp
  simp only [Act.put, pA, pB, pC]
  refine WE.pure (d := some 16) rfl rfl (by rfl) (v := (.agg #[.bool g11, .slice A11 n11 c11, .slice B11 m11 d11])) (fun w' hk => ?_) ?_
  · obtain ⟨ce0, ce1, ce2⟩ := ((V5.out.up EY.out).up hk).c3; go_simp
  simp only [Act.put, pA, pB, pC]
  refine WE.pure (d := some 18) rfl rfl (by rfl) (v := (.agg #[.bool g12, .slice A12 n12 c12, .slice B12 m12 d12])) (fun w' hk => ?_) ?_
  · obtain ⟨ce0, ce1, ce2⟩ := ((V6.out.up EY.out).up hk).c3; go_simp
  simp only [Act.put, pA, pB, pC]
  refine WE.call (d := some 15) rfl rfl (by rfl) (by go_simp) ((rMul_w (P11.out.up EY.out).worth (P12.out.up EY.out).worth (by have := HJ.out; have := HJ1.out; omega) (by have := HJ.out; have := HJ1.out; omega)).mono ?_)
  rintro e wn ⟨v1, rfl, x1, hb⟩
  obtain ⟨g13, A13, n13, c13, rfl⟩ := x1.shape
  refine ⟨_, rfl, hb, ?_⟩
  replace EY := hid (EY.out.trans hb)
  have Q13 := hid x1
  clear hb x1
  simp only [Act.put, pA, pB, pC]
  refine WE.call (d := some 17) rfl rfl (by rfl) (by go_simp) ((rden_r _ g11 A11 n11 c11 B11 m11 d11).mono ?_)
  rintro e wn ⟨rfl, hb⟩
  refine ⟨_, rfl, hb, ?_⟩
  replace EY := hid (EY.out.trans hb)
  replace Q13 := hid (Q13.out.up hb)
  clear hb
  simp only [Act.put, pA, pB, pC]
  refine WE.call (d := some 19) rfl rfl (by rfl) (by go_simp) ((rden_r _ g12 A12 n12 c12 B12 m12 d12).mono ?_)
  rintro e wn ⟨rfl, hb⟩
  refine ⟨_, rfl, hb, ?_⟩
  replace EY := hid (EY.out.trans hb)
  replace Q13 := hid (Q13.out.up hb)
  clear hb
  simp only [Act.put, pA, pB, pC]
  refine WE.call (d := some 20) rfl rfl (by rfl) (by go_simp) ((rMul_w (D11.out.up EY.out).worth (D12.out.up EY.out).worth (by have := HJ.out; have := HJ1.out; omega) (by have := HJ.out; have := HJ1.out; omega)).mono ?_)
  rintro e wn ⟨v1, rfl, x1, hb⟩
  obtain ⟨g14, A14, n14, c14, rfl⟩ := x1.shape
  refine ⟨_, rfl, hb, ?_⟩
  replace EY := hid (EY.out.trans hb)
  replace Q13 := hid (Q13.out.up hb)
  have Q14 := hid x1
  clear hb x1
  simp only [Act.put, pA, pB, pC]
  refine WE.call (d := some 21) rfl rfl (by rfl) (by go_simp) ((rOfR_r (Worth.wide Q13.out.worth (k := (2 * j + 2)) (by have := HJ.out; have := HJ1.out; omega)) (Worth.wide Q14.out.worth (k := (2 * j + 2)) (by have := HJ.out; have := HJ1.out; omega)) (by have := HJ.out; have := HJ1.out; omega)).mono ?_)
  rintro e wn ⟨v1, rfl, x1, hb⟩
  replace x1 := x1.to (M.of_mul x y)
  obtain ⟨g15, A15, n15, c15, B15, m15, d15, rfl, p1, q1⟩ := x1
  refine ⟨_, rfl, hb, ?_⟩
  replace EY := hid (EY.out.trans hb)
  have P15 := hid p1
  have D15 := hid q1
  clear hb p1 q1
  simp only [Act.put, pA, pB, pC]
  clear Q13
  clear Q14
  refine WE.store3 (g := (w.heap.size + 2)) (x := .bool g15) (y := .slice A15 n15 c15) (z := .slice B15 m15 d15) (t := 26) rfl rfl (by rfl) (fun w hb => ?_) (BX2.out.up EY.out) (by rfl) fun ws hk hs => ?_
  · obtain ⟨ce0, ce1, ce2⟩ := hb.c3; obtain ⟨f0, f1, f2⟩ := hb.f3; go_simp
  intro hbx
  replace E := hid ((E.out.trans EY.out).keptG hk (by simp))
  replace BX2 := hid hbx
  replace P15 := hid (P15.out.kz hs)
  replace D15 := hid (D15.out.kz hs)
  clear hk hs hbx
  replace EY := hid (Ext.refl ws)
  refine WE.done ?_
  have r0 := (BX2.out.up EY.out).cell (o := 0) (v := .bool g15) rfl
  have r1 := (BX2.out.up EY.out).cell (o := 1) (v := .slice A15 n15 c15) rfl
  have r2 := (BX2.out.up EY.out).cell (o := 2) (v := .slice B15 m15 d15) rfl
  repeat go_step
  exact bodyPost_ret (v := .agg #[.bool g15, .slice A15 n15 c15, .slice B15 m15 d15]) (by simp [results, Tryz.results29, go_sem, r0, r1, r2]) rfl ⟨_, rfl, (IsR.mk (P15.out.up EY.out) (D15.out.up EY.out)).wide (by have := HJ.out; have := HJ1.out; omega), (E.out.trans EY.out)⟩

set_option maxHeartbeats 2000000 in
theorem rDivR_r {w : World} {u v : Value} {x y : Rat} {j : Nat} (h1 : WorthR w u x j) (h2 : WorthR w v y j) (hj : j ≤ 60) (hj1 : 1 ≤ j) :
    Calls Tryz.prog 11 #[u, v] w (GivesR w (x / y) (2 * j + 5)) := by
  obtain ⟨g1, A1, n1, c1, B1, m1, d1, rfl⟩ := h1.shape
  have R1 := hid h1
  obtain ⟨g2, A2, n2, c2, B2, m2, d2, rfl⟩ := h2.shape
  have R2 := hid h2
  have HJ := hid hj
  have HJ1 := hid hj1
  clear h1 h2 hj hj1
  go_enter Tryz.func11, Tryz.ntmps11
  go_upto_region 1 with (fail)
  have E := hid ((((Ext.refl w).alloc' (.cells #[.bool g1, .slice A1 n1 c1, .slice B1 m1 d1] 26)).alloc' (.cells #[.bool g2, .slice A2 n2 c2, .slice B2 m2 d2] 26)).alloc' (.cells #[.bool false, .slice none 0 0, .slice none 0 0] 26))
  have BX0 : Hid (Box (((w.alloc (.cells #[.bool g1, .slice A1 n1 c1, .slice B1 m1 d1] 26)).alloc (.cells #[.bool g2, .slice A2 n2 c2, .slice B2 m2 d2] 26)).alloc (.cells #[.bool false, .slice none 0 0, .slice none 0 0] 26)) (w.heap.size) #[.bool g1, .slice A1 n1 c1, .slice B1 m1 d1] 26) := hid (((Box.at_ (w := w) #[.bool g1, .slice A1 n1 c1, .slice B1 m1 d1] 26 (by simp)).alloc (.cells #[.bool g2, .slice A2 n2 c2, .slice B2 m2 d2] 26)).alloc (.cells #[.bool false, .slice none 0 0, .slice none 0 0] 26))
  have BX1 : Hid (Box (((w.alloc (.cells #[.bool g1, .slice A1 n1 c1, .slice B1 m1 d1] 26)).alloc (.cells #[.bool g2, .slice A2 n2 c2, .slice B2 m2 d2] 26)).alloc (.cells #[.bool false, .slice none 0 0, .slice none 0 0] 26)) (w.heap.size + 1) #[.bool g2, .slice A2 n2 c2, .slice B2 m2 d2] 26) := hid ((Box.at_ (w := (w.alloc (.cells #[.bool g1, .slice A1 n1 c1, .slice B1 m1 d1] 26))) #[.bool g2, .slice A2 n2 c2, .slice B2 m2 d2] 26 (by simp)).alloc (.cells #[.bool false, .slice none 0 0, .slice none 0 0] 26))
  have BX2 : Hid (Box (((w.alloc (.cells #[.bool g1, .slice A1 n1 c1, .slice B1 m1 d1] 26)).alloc (.cells #[.bool g2, .slice A2 n2 c2, .slice B2 m2 d2] 26)).alloc (.cells #[.bool false, .slice none 0 0, .slice none 0 0] 26)) (w.heap.size + 2) #[.bool false, .slice none 0 0, .slice none 0 0] 26) := hid (Box.at_ (w := ((w.alloc (.cells #[.bool g1, .slice A1 n1 c1, .slice B1 m1 d1] 26)).alloc (.cells #[.bool g2, .slice A2 n2 c2, .slice B2 m2 d2] 26))) #[.bool false, .slice none 0 0, .slice none 0 0] 26 (by simp))
  replace R1 := hid (R1.out.up E.out)
  replace R2 := hid (R2.out.up E.out)
  refine wp_region_E [(0, 0), (2, 0), (1, 2), (3, 2), (4, 3), (5, 3), (6, 4), (7, 4)] (fun _ => (26, #[.bool false, .slice none 0 0, .slice none 0 0])) rfl (by kernel_rfl) (by intro j hj; simp [pend] at hj; rcases hj with rfl | rfl <;> exact ⟨_, rfl, rfl, rfl, fun w => by go_simp⟩) (fun _ _ d _ _ => by cases d <;> exact Iff.rfl) fun wd hb => ?_
  replace E := hid (E.out.trans hb)
  replace BX0 := hid (BX0.out.up hb)
  replace BX1 := hid (BX1.out.up hb)
  replace BX2 := hid (BX2.out.up hb)
  replace R1 := hid (R1.out.up hb)
  replace R2 := hid (R2.out.up hb)
  clear hb
  have HL1BX0 := hid BX0.out.lt
  have HL1BX1 := hid BX1.out.lt
  have HL1BX2 := hid BX2.out.lt
  have HW1 := hid (show w.heap.size ≤ wd.heap.size from E.out.size)
  have EY := hid (Ext.refl wd)
  refine WE.pure (d := some 7) rfl rfl (by rfl) (v := (.agg #[.bool g1, .slice A1 n1 c1, .slice B1 m1 d1])) (fun w' hk => ?_) ?_
  · obtain ⟨ce0, ce1, ce2⟩ := ((BX0.out.up EY.out).up hk).c3; go_simp
  simp only [Act.put, pA, pB, pC]
  refine WE.pure (d := some 9) rfl rfl (by rfl) (v := (.agg #[.bool g2, .slice A2 n2 c2, .slice B2 m2 d2])) (fun w' hk => ?_) ?_
  · obtain ⟨ce0, ce1, ce2⟩ := ((BX1.out.up EY.out).up hk).c3; go_simp
  simp only [Act.put, pA, pB, pC]
  refine WE.callR (d := some 8) rfl rfl (by rfl) (f := 22) (args := #[(.agg #[.bool g1, .slice A1 n1 c1, .slice B1 m1 d1])]) (fun w => by go_simp) (fun wx hx0 => ?_)
  replace EY := hid (EY.out.trans hx0)
  clear hx0
  refine (rMayR_r (R1.out.up EY.out) (by have := HJ.out; have := HJ1.out; omega) (by have := HJ.out; have := HJ1.out; omega)).mono ?_
  rintro e wn ⟨v1, rfl, x1, hb⟩
  obtain ⟨g11, A11, n11, c11, B11, m11, d11, rfl, p1, q1⟩ := x1
  refine ⟨_, rfl, hb, ?_⟩
  replace EY := hid (EY.out.trans hb)
  have P11 := hid p1
  have D11 := hid q1
  clear hb p1 q1
  simp only [Act.put, pA, pB, pC]
  refine WE.callR (d := some 10) rfl rfl (by rfl) (f := 22) (args := #[(.agg #[.bool g2, .slice A2 n2 c2, .slice B2 m2 d2])]) (fun w => by go_simp) (fun wx hx0 => ?_)
  replace EY := hid (EY.out.trans hx0)
  replace P11 := hid (P11.out.up hx0)
  replace D11 := hid (D11.out.up hx0)
  clear hx0
  refine (rMayR_r (R2.out.up EY.out) (by have := HJ.out; have := HJ1.out; omega) (by have := HJ.out; have := HJ1.out; omega)).mono ?_
  rintro e wn ⟨v1, rfl, x1, hb⟩
  obtain ⟨g12, A12, n12, c12, B12, m12, d12, rfl, p1, q1⟩ := x1
  refine ⟨_, rfl, hb, ?_⟩
  replace EY := hid (EY.out.trans hb)
  replace P11 := hid (P11.out.up hb)
  replace D11 := hid (D11.out.up hb)
  have P12 := hid p1
  have D12 := hid q1
  clear hb p1 q1
  simp only [Act.put, pA, pB, pC]
  refine WE.var (d := some 5) rfl fun gV5 wv hx0 hbox hge hng => ?_
  have HNV5BX2 := hid (show gV5 ≠ (w.heap.size + 2) by have := HL1BX2.out; omega)
  have HGV5 := hid (show w.heap.size ≤ gV5 by have := HW1.out; omega)
  replace EY := hid (EY.out.trans hx0)
  replace P11 := hid (P11.out.up hx0)
  replace D11 := hid (D11.out.up hx0)
  replace P12 := hid (P12.out.up hx0)
  replace D12 := hid (D12.out.up hx0)
  have V5 : Hid (Box wv gV5 #[.bool false, .slice none 0 0, .slice none 0 0] 26) := hid hbox
  clear hx0 hbox hge hng
  simp only [Act.put, pA, pB, pC]
  refine WE.var (d := some 6) rfl fun gV6 wv hx0 hbox hge hng => ?_
  have HNV6BX2 := hid (show gV6 ≠ (w.heap.size + 2) by have := HL1BX2.out; omega)
  have HNV6V5 := hid (show gV6 ≠ gV5 by intro e; exact hng (by simp [e]))
  have HGV6 := hid (show w.heap.size ≤ gV6 by have := HW1.out; omega)
  replace EY := hid (EY.out.trans hx0)
  replace V5 := hid (V5.out.up hx0)
  replace P11 := hid (P11.out.up hx0)
  replace D11 := hid (D11.out.up hx0)
  replace P12 := hid (P12.out.up hx0)
  replace D12 := hid (D12.out.up hx0)
  have V6 : Hid (Box wv gV6 #[.bool false, .slice none 0 0, .slice none 0 0] 26) := hid hbox
  clear hx0 hbox hge hng
  simp only [Act.put, pA, pB, pC]
  refine WE.store3 (g := gV5) (x := .bool g11) (y := .slice A11 n11 c11) (z := .slice B11 m11 d11) (t := 26) rfl rfl (by rfl) (fun w hb => ?_) V5.out (by rfl) fun ws hk hs => ?_
  · obtain ⟨ce0, ce1, ce2⟩ := hb.c3; obtain ⟨f0, f1, f2⟩ := hb.f3; go_simp
  intro hbx
  replace E := hid ((E.out.trans EY.out).keptG hk HGV5.out)
  replace BX2 := hid ((BX2.out.up EY.out).kept hk (by simpa using HNV5BX2.out.symm))
  replace V5 := hid hbx
  replace V6 := hid (V6.out.kept hk (by simpa using HNV6V5.out))
  replace P11 := hid (P11.out.kz hs)
  replace D11 := hid (D11.out.kz hs)
  replace P12 := hid (P12.out.kz hs)
  replace D12 := hid (D12.out.kz hs)
  clear hk hs hbx
  replace EY := hid (Ext.refl ws)
  refine WE.store3 (g := gV6) (x := .bool g12) (y := .slice A12 n12 c12) (z := .slice B12 m12 d12) (t := 26) rfl rfl (by rfl) (fun w hb => ?_) (V6.out.up EY.out) (by rfl) fun ws hk hs => ?_
  · obtain ⟨ce0, ce1, ce2⟩ := hb.c3; obtain ⟨f0, f1, f2⟩ := hb.f3; go_simp
  intro hbx
  replace E := hid ((E.out.trans EY.out).keptG hk HGV6.out)
  replace BX2 := hid ((BX2.out.up EY.out).kept hk (by simpa using HNV6BX2.out.symm))
  replace V5 := hid ((V5.out.up EY.out).kept hk (by simpa using HNV6V5.out.symm))
  replace V6 := hid hbx
  replace P11 := hid ((P11.out.up EY.out).kz hs)
  replace D11 := hid ((D11.out.up EY.out).kz hs)
  replace P12 := hid ((P12.out.up EY.out).kz hs)
  replace D12 := hid ((D12.out.up EY.out).kz hs)
  clear hk hs hbx
  replace EY := hid (Ext.refl ws)
  refine WE.done ?_
  go_upto_region 2 with (fail)
  refine wp_region_E [(0, 0), (1, 0), (2, 0), (5, 0), (7, 0), (8, 0), (3, 1), (4, 1), (6, 1), (9, 1), (10, 1), (11, 4)] (fun _ => (0, #[])) rfl (by kernel_rfl) (by intro j hj; cases hj) (fun _ _ d _ _ => by cases d <;> exact Iff.rfl) fun wd hb => ?_
  replace EY := hid (EY.out.trans hb)
  clear hb
  refine WE.pure (d := some 11) rfl rfl (by rfl) (v := (.pointer (some ⟨gV5, 0, none⟩))) (fun w' hk => by go_simp) ?_
  simp only [Act.put, pA, pB, pC]
  refine WE.pure (d := some 12) rfl rfl (by rfl) (v := (.agg #[.bool g11, .slice A11 n11 c11])) (fun w' hk => ?_) ?_
  · obtain ⟨ce0, ce1, ce2⟩ := ((V5.out.up EY.out).up hk).c3; go_simp
  simp only [Act.put, pA, pB, pC]
  refine WE.pure (d := some 13) rfl rfl (by rfl) (v := (.agg #[.bool g12, .slice A12 n12 c12, .slice B12 m12 d12])) (fun w' hk => ?_) ?_
  · obtain ⟨ce0, ce1, ce2⟩ := ((V6.out.up EY.out).up hk).c3; go_simp
  simp only [Act.put, pA, pB, pC]
  refine WE.pure (d := some 16) rfl rfl (by rfl) (v := (.agg #[.bool g11, .slice A11 n11 c11, .slice B11 m11 d11])) (fun w' hk => ?_) ?_
  · obtain ⟨ce0, ce1, ce2⟩ := ((V5.out.up EY.out).up hk).c3; go_simp
  simp only [Act.put, pA, pB, pC]
  refine WE.pure (d := some 18) rfl rfl (by rfl) (v := (.pointer (some ⟨gV6, 0, none⟩))) (fun w' hk => by go_simp) ?_
  simp only [Act.put, pA, pB, pC]
  refine WE.pure (d := some 19) rfl rfl (by rfl) (v := (.agg #[.bool g12, .slice A12 n12 c12])) (fun w' hk => ?_) ?_
  · obtain ⟨ce0, ce1, ce2⟩ := ((V6.out.up EY.out).up hk).c3; go_simp
  simp only [Act.put, pA, pB, pC]
  refine WE.call (d := some 14) rfl rfl (by rfl) (by go_simp) ((rden_r _ g12 A12 n12 c12 B12 m12 d12).mono ?_)
  rintro e wn ⟨rfl, hb⟩
  refine ⟨_, rfl, hb, ?_⟩
  replace EY := hid (EY.out.trans hb)
  clear hb
  simp only [Act.put, pA, pB, pC]
  refine WE.call (d := some 15) rfl rfl (by rfl) (by go_simp) ((rMul_w (P11.out.up EY.out).worth (D12.out.up EY.out).worth (by have := HJ.out; have := HJ1.out; omega) (by have := HJ.out; have := HJ1.out; omega)).mono ?_)
  rintro e wn ⟨v1, rfl, x1, hb⟩
  obtain ⟨g13, A13, n13, c13, rfl⟩ := x1.shape
  refine ⟨_, rfl, hb, ?_⟩
  replace EY := hid (EY.out.trans hb)
  have Q13 := hid x1
  clear hb x1
  simp only [Act.put, pA, pB, pC]
  refine WE.call (d := some 17) rfl rfl (by rfl) (by go_simp) ((rden_r _ g11 A11 n11 c11 B11 m11 d11).mono ?_)
  rintro e wn ⟨rfl, hb⟩
  refine ⟨_, rfl, hb, ?_⟩
  replace EY := hid (EY.out.trans hb)
  replace Q13 := hid (Q13.out.up hb)
  clear hb
  simp only [Act.put, pA, pB, pC]
  refine WE.call (d := some 20) rfl rfl (by rfl) (by go_simp) ((rMul_w (D11.out.up EY.out).worth (P12.out.up EY.out).worth (by have := HJ.out; have := HJ1.out; omega) (by have := HJ.out; have := HJ1.out; omega)).mono ?_)
  rintro e wn ⟨v1, rfl, x1, hb⟩
  obtain ⟨g14, A14, n14, c14, rfl⟩ := x1.shape
  refine ⟨_, rfl, hb, ?_⟩
  replace EY := hid (EY.out.trans hb)
  replace Q13 := hid (Q13.out.up hb)
  have Q14 := hid x1
  clear hb x1
  simp only [Act.put, pA, pB, pC]
  refine WE.call (d := some 21) rfl rfl (by rfl) (by go_simp) ((rOfR_r (Worth.wide Q13.out.worth (k := (2 * j + 2)) (by have := HJ.out; have := HJ1.out; omega)) (Worth.wide Q14.out.worth (k := (2 * j + 2)) (by have := HJ.out; have := HJ1.out; omega)) (by have := HJ.out; have := HJ1.out; omega)).mono ?_)
  rintro e wn ⟨v1, rfl, x1, hb⟩
  replace x1 := x1.to (M.of_div x y)
  obtain ⟨g15, A15, n15, c15, B15, m15, d15, rfl, p1, q1⟩ := x1
  refine ⟨_, rfl, hb, ?_⟩
  replace EY := hid (EY.out.trans hb)
  have P15 := hid p1
  have D15 := hid q1
  clear hb p1 q1
  simp only [Act.put, pA, pB, pC]
  clear Q13
  clear Q14
  refine WE.store3 (g := (w.heap.size + 2)) (x := .bool g15) (y := .slice A15 n15 c15) (z := .slice B15 m15 d15) (t := 26) rfl rfl (by rfl) (fun w hb => ?_) (BX2.out.up EY.out) (by rfl) fun ws hk hs => ?_
  · obtain ⟨ce0, ce1, ce2⟩ := hb.c3; obtain ⟨f0, f1, f2⟩ := hb.f3; go_simp
  intro hbx
  replace E := hid ((E.out.trans EY.out).keptG hk (by simp))
  replace BX2 := hid hbx
  replace P15 := hid (P15.out.kz hs)
  replace D15 := hid (D15.out.kz hs)
  clear hk hs hbx
  replace EY := hid (Ext.refl ws)
  refine WE.done ?_
  have r0 := (BX2.out.up EY.out).cell (o := 0) (v := .bool g15) rfl
  have r1 := (BX2.out.up EY.out).cell (o := 1) (v := .slice A15 n15 c15) rfl
  have r2 := (BX2.out.up EY.out).cell (o := 2) (v := .slice B15 m15 d15) rfl
  repeat go_step
  exact bodyPost_ret (v := .agg #[.bool g15, .slice A15 n15 c15, .slice B15 m15 d15]) (by simp [results, Tryz.results11, go_sem, r0, r1, r2]) rfl ⟨_, rfl, (IsR.mk (P15.out.up EY.out) (D15.out.up EY.out)).wide (by have := HJ.out; have := HJ1.out; omega), (E.out.trans EY.out)⟩

set_option maxHeartbeats 2000000 in
theorem rFloorR_r {w : World} {u : Value} {x : Rat} {j : Nat} (h1 : WorthR w u x j) (hj : j ≤ 60) (hj1 : 1 ≤ j) :
    Calls Tryz.prog 32 #[u] w (GivesZ w x.floor (max j 1 + 1)) := by
  obtain ⟨g1, A1, n1, c1, B1, m1, d1, rfl⟩ := h1.shape
  have R1 := hid h1
  have HJ := hid hj
  have HJ1 := hid hj1
  clear h1 hj hj1
  go_enter Tryz.func32, Tryz.ntmps32
  go_upto_region 1 with (fail)
  have E := hid (((Ext.refl w).alloc' (.cells #[.bool g1, .slice A1 n1 c1, .slice B1 m1 d1] 26)).alloc' (.cells #[.bool false, .slice none 0 0] 24))
  have BX0 : Hid (Box ((w.alloc (.cells #[.bool g1, .slice A1 n1 c1, .slice B1 m1 d1] 26)).alloc (.cells #[.bool false, .slice none 0 0] 24)) (w.heap.size) #[.bool g1, .slice A1 n1 c1, .slice B1 m1 d1] 26) := hid ((Box.at_ (w := w) #[.bool g1, .slice A1 n1 c1, .slice B1 m1 d1] 26 (by simp)).alloc (.cells #[.bool false, .slice none 0 0] 24))
  have BX1 : Hid (Box ((w.alloc (.cells #[.bool g1, .slice A1 n1 c1, .slice B1 m1 d1] 26)).alloc (.cells #[.bool false, .slice none 0 0] 24)) (w.heap.size + 1) #[.bool false, .slice none 0 0] 24) := hid (Box.at_ (w := (w.alloc (.cells #[.bool g1, .slice A1 n1 c1, .slice B1 m1 d1] 26))) #[.bool false, .slice none 0 0] 24 (by simp))
  replace R1 := hid (R1.out.up E.out)
  refine wp_region_T [(0, 0), (1, 1), (2, 1), (3, 4)] (by kernel_rfl) fun wd hb => ?_
  replace E := hid (E.out.trans hb)
  replace BX0 := hid (BX0.out.up hb)
  replace BX1 := hid (BX1.out.up hb)
  replace R1 := hid (R1.out.up hb)
  clear hb
  have EY := hid (Ext.refl wd)
  refine WE.pure (d := some 6) rfl rfl (by rfl) (v := (.agg #[.bool g1, .slice A1 n1 c1, .slice B1 m1 d1])) (fun w' hk => ?_) ?_
  · obtain ⟨ce0, ce1, ce2⟩ := ((BX0.out.up EY.out).up hk).c3; go_simp
  simp only [Act.put, pA, pB, pC]
  refine WE.call (d := some 7) rfl rfl (by rfl) (by go_simp) ((rMayR_r (R1.out.up EY.out) (by have := HJ.out; have := HJ1.out; omega) (by have := HJ.out; have := HJ1.out; omega)).mono ?_)
  rintro e wn ⟨v1, rfl, x1, hb⟩
  obtain ⟨g11, A11, n11, c11, B11, m11, d11, rfl, p1, q1⟩ := x1
  refine ⟨_, rfl, hb, ?_⟩
  replace EY := hid (EY.out.trans hb)
  have P11 := hid p1
  have D11 := hid q1
  clear hb p1 q1
  simp only [Act.put, pA, pB, pC]
  refine WE.new (d := some 3) (cs := #[.bool false, .slice none 0 0, .slice none 0 0]) (t := 26) (v := fun g => (.pointer (some ⟨g, 0, none⟩))) rfl rfl (by rfl) (fun w => by go_simp) fun gV3 wv hx0 hbox hge => ?_
  have HNV3BX0 := hid (show gV3 ≠ (w.heap.size) by have := (BX0.out.up EY.out).lt; omega)
  have HNV3BX1 := hid (show gV3 ≠ (w.heap.size + 1) by have := (BX1.out.up EY.out).lt; omega)
  have HGV3 := hid (show w.heap.size ≤ gV3 by have := (E.out.trans EY.out).size; omega)
  replace EY := hid (EY.out.trans hx0)
  replace P11 := hid (P11.out.up hx0)
  replace D11 := hid (D11.out.up hx0)
  have V3 : Hid (Box wv gV3 #[.bool false, .slice none 0 0, .slice none 0 0] 26) := hid hbox
  clear hx0 hbox hge
  simp only [Act.put, pA, pB, pC]
  refine WE.store3 (g := gV3) (x := .bool g11) (y := .slice A11 n11 c11) (z := .slice B11 m11 d11) (t := 26) rfl rfl (by rfl) (fun w hb => ?_) V3.out (by rfl) fun ws hk hs => ?_
  · obtain ⟨ce0, ce1, ce2⟩ := hb.c3; obtain ⟨f0, f1, f2⟩ := hb.f3; go_simp
  intro hbx
  replace E := hid ((E.out.trans EY.out).keptG hk HGV3.out)
  replace BX0 := hid ((BX0.out.up EY.out).kept hk (by simpa using HNV3BX0.out.symm))
  replace BX1 := hid ((BX1.out.up EY.out).kept hk (by simpa using HNV3BX1.out.symm))
  replace V3 := hid hbx
  replace P11 := hid (P11.out.kz hs)
  replace D11 := hid (D11.out.kz hs)
  clear hk hs hbx
  replace EY := hid (Ext.refl ws)
  refine WE.done ?_
  go_upto_region 2 with (fail)
  refine wp_region_E [(0, 0), (1, 0), (2, 0), (3, 2), (4, 2), (5, 0), (6, 0), (7, 5), (8, 3), (9, 3), (10, 4), (11, 4)] (fun _ => (24, #[.bool false, .slice none 0 0])) rfl (by kernel_rfl) (by intro j hj; simp [pend] at hj; rcases hj with rfl | rfl <;> exact ⟨_, rfl, rfl, rfl, fun w => by go_simp⟩) (fun _ _ d _ _ => by cases d <;> exact Iff.rfl) fun wd hb => ?_
  replace EY := hid (EY.out.trans hb)
  clear hb
  have HL1BX0 := hid (BX0.out.up EY.out).lt
  have HL1BX1 := hid (BX1.out.up EY.out).lt
  have HL1V3 := hid (V3.out.up EY.out).lt
  have HW1 := hid (show w.heap.size ≤ wd.heap.size from (E.out.trans EY.out).size)
  refine WE.pure (d := some 9) rfl rfl (by rfl) (v := (.pointer (some ⟨gV3, 0, none⟩))) (fun w' hk => by go_simp) ?_
  simp only [Act.put, pA, pB, pC]
  refine WE.pure (d := some 10) rfl rfl (by rfl) (v := (.agg #[.bool g11, .slice A11 n11 c11])) (fun w' hk => ?_) ?_
  · obtain ⟨ce0, ce1, ce2⟩ := ((V3.out.up EY.out).up hk).c3; go_simp
  simp only [Act.put, pA, pB, pC]
  refine WE.pure (d := some 11) rfl rfl (by rfl) (v := (.agg #[.bool g11, .slice A11 n11 c11, .slice B11 m11 d11])) (fun w' hk => ?_) ?_
  · obtain ⟨ce0, ce1, ce2⟩ := ((V3.out.up EY.out).up hk).c3; go_simp
  simp only [Act.put, pA, pB, pC]
  refine WE.callR (d := some 12) rfl rfl (by rfl) (f := 46) (args := #[(.agg #[.bool g11, .slice A11 n11 c11, .slice B11 m11 d11])]) (fun w => by go_simp) (fun wx hx0 => ?_)
  replace EY := hid (EY.out.trans hx0)
  clear hx0
  refine (rden_r _ g11 A11 n11 c11 B11 m11 d11).mono ?_
  rintro e wn ⟨rfl, hb⟩
  refine ⟨_, rfl, hb, ?_⟩
  replace EY := hid (EY.out.trans hb)
  clear hb
  simp only [Act.put, pA, pB, pC]
  refine WE.callR (d := some 13) rfl rfl (by rfl) (f := 56) (args := #[(.agg #[.bool g11, .slice A11 n11 c11]), (.agg #[.bool false, .slice B11 m11 d11])]) (fun w => by go_simp) (fun wx hx0 => ?_)
  replace EY := hid (EY.out.trans hx0)
  clear hx0
  refine (rFloor_w (P11.out.up EY.out).worth (D11.out.up EY.out).worth (by have := HJ.out; have := HJ1.out; omega) (by have := HJ.out; have := HJ1.out; omega)).mono ?_
  rintro e wn ⟨v1, v2, rfl, x1, x2, hb⟩
  obtain ⟨g12, A12, n12, c12, rfl⟩ := x1.shape
  obtain ⟨g13, A13, n13, c13, rfl⟩ := x2.shape
  replace x1 := x1.to (M.floor_of x)
  refine ⟨_, rfl, hb, ?_⟩
  replace EY := hid (EY.out.trans hb)
  have Q12 := hid x1
  clear hb x1 x2
  simp only [Act.put, pA, pB, pC]
  refine WE.pure (d := some 8) rfl rfl (by rfl) (v := (.tuple #[(.agg #[.bool g12, .slice A12 n12 c12]), (.agg #[.bool g13, .slice A13 n13 c13])])) (fun w' hk => by go_simp) ?_
  simp only [Act.put, pA, pB, pC]
  refine WE.pure (d := some 14) rfl rfl (by rfl) (v := (.agg #[.bool g12, .slice A12 n12 c12])) (fun w' hk => by go_simp) ?_
  simp only [Act.put, pA, pB, pC]
  refine WE.any (d := some 15) rfl rfl (by rfl) (v := (.agg #[.bool g13, .slice A13 n13 c13])) (fun w' => by go_simp) ?_
  simp only [Act.put, pA, pB, pC]
  refine WE.var (d := some 4) rfl fun gV4 wv hx0 hbox hge hng => ?_
  have HNV4BX1 := hid (show gV4 ≠ (w.heap.size + 1) by have := HL1BX1.out; omega)
  have HGV4 := hid (show w.heap.size ≤ gV4 by have := HW1.out; omega)
  replace EY := hid (EY.out.trans hx0)
  replace Q12 := hid (Q12.out.up hx0)
  have V4 : Hid (Box wv gV4 #[.bool false, .slice none 0 0] 24) := hid hbox
  clear hx0 hbox hge hng
  simp only [Act.put, pA, pB, pC]
  refine WE.var (d := some 5) rfl fun gV5 wv hx0 hbox hge hng => ?_
  have HNV5BX1 := hid (show gV5 ≠ (w.heap.size + 1) by have := HL1BX1.out; omega)
  have HNV5V4 := hid (show gV5 ≠ gV4 by intro e; exact hng (by simp [e]))
  have HGV5 := hid (show w.heap.size ≤ gV5 by have := HW1.out; omega)
  replace EY := hid (EY.out.trans hx0)
  replace V4 := hid (V4.out.up hx0)
  replace Q12 := hid (Q12.out.up hx0)
  have V5 : Hid (Box wv gV5 #[.bool false, .slice none 0 0] 24) := hid hbox
  clear hx0 hbox hge hng
  simp only [Act.put, pA, pB, pC]
  refine WE.store2 (g := gV4) (x := .bool g12) (y := .slice A12 n12 c12) (t := 24) rfl rfl (by rfl) (fun w hb => ?_) V4.out (by rfl) fun ws hk hs => ?_
  · obtain ⟨ce0, ce1⟩ := hb.c2; obtain ⟨f0, f1⟩ := hb.f2; go_simp
  intro hbx
  replace E := hid ((E.out.trans EY.out).keptG hk HGV4.out)
  replace BX1 := hid ((BX1.out.up EY.out).kept hk (by simpa using HNV4BX1.out.symm))
  replace V4 := hid hbx
  replace V5 := hid (V5.out.kept hk (by simpa using HNV5V4.out))
  replace Q12 := hid (Q12.out.kz hs)
  clear hk hs hbx
  replace EY := hid (Ext.refl ws)
  refine WE.store2 (g := gV5) (x := .bool g13) (y := .slice A13 n13 c13) (t := 24) rfl rfl (by rfl) (fun w hb => ?_) (V5.out.up EY.out) (by rfl) fun ws hk hs => ?_
  · obtain ⟨ce0, ce1⟩ := hb.c2; obtain ⟨f0, f1⟩ := hb.f2; go_simp
  intro hbx
  replace E := hid ((E.out.trans EY.out).keptG hk HGV5.out)
  replace BX1 := hid ((BX1.out.up EY.out).kept hk (by simpa using HNV5BX1.out.symm))
  replace V4 := hid ((V4.out.up EY.out).kept hk (by simpa using HNV5V4.out.symm))
  replace Q12 := hid ((Q12.out.up EY.out).kz hs)
  clear hk hs hbx
  replace EY := hid (Ext.refl ws)
  refine WE.done ?_
  go_upto_region 3 with (fail)
  refine wp_region_T [(0, 0), (1, 4)] (by kernel_rfl) fun wd hb => ?_
  replace EY := hid (EY.out.trans hb)
  clear hb
  refine WE.pure (d := some 16) rfl rfl (by rfl) (v := (.agg #[.bool g12, .slice A12 n12 c12])) (fun w' hk => ?_) ?_
  · obtain ⟨ce0, ce1⟩ := ((V4.out.up EY.out).up hk).c2; go_simp
  simp only [Act.put, pA, pB, pC]
  refine WE.store2 (g := (w.heap.size + 1)) (x := .bool g12) (y := .slice A12 n12 c12) (t := 24) rfl rfl (by rfl) (fun w hb => ?_) (BX1.out.up EY.out) (by rfl) fun ws hk hs => ?_
  · obtain ⟨ce0, ce1⟩ := hb.c2; obtain ⟨f0, f1⟩ := hb.f2; go_simp
  intro hbx
  replace E := hid ((E.out.trans EY.out).keptG hk (by simp))
  replace BX1 := hid hbx
  replace Q12 := hid ((Q12.out.up EY.out).kz hs)
  clear hk hs hbx
  replace EY := hid (Ext.refl ws)
  refine WE.done ?_
  have r0 := (BX1.out.up EY.out).cell (o := 0) (v := .bool g12) rfl
  have r1 := (BX1.out.up EY.out).cell (o := 1) (v := .slice A12 n12 c12) rfl
  repeat go_step
  exact bodyPost_ret (v := .agg #[.bool g12, .slice A12 n12 c12]) (by simp [results, Tryz.results32, go_sem, r0, r1]) rfl ⟨_, rfl, (Q12.out.up EY.out), (E.out.trans EY.out)⟩

set_option maxHeartbeats 2000000 in
theorem rCeilR_r {w : World} {u : Value} {x : Rat} {j : Nat} (h1 : WorthR w u x j) (hj : j ≤ 60) (hj1 : 1 ≤ j) :
    Calls Tryz.prog 34 #[u] w (GivesZ w x.ceil (max j 1 + 1)) := by
  obtain ⟨g1, A1, n1, c1, B1, m1, d1, rfl⟩ := h1.shape
  have R1 := hid h1
  have HJ := hid hj
  have HJ1 := hid hj1
  clear h1 hj hj1
  go_enter Tryz.func34, Tryz.ntmps34
  go_upto_region 1 with (fail)
  have E := hid (((Ext.refl w).alloc' (.cells #[.bool g1, .slice A1 n1 c1, .slice B1 m1 d1] 26)).alloc' (.cells #[.bool false, .slice none 0 0] 24))
  have BX0 : Hid (Box ((w.alloc (.cells #[.bool g1, .slice A1 n1 c1, .slice B1 m1 d1] 26)).alloc (.cells #[.bool false, .slice none 0 0] 24)) (w.heap.size) #[.bool g1, .slice A1 n1 c1, .slice B1 m1 d1] 26) := hid ((Box.at_ (w := w) #[.bool g1, .slice A1 n1 c1, .slice B1 m1 d1] 26 (by simp)).alloc (.cells #[.bool false, .slice none 0 0] 24))
  have BX1 : Hid (Box ((w.alloc (.cells #[.bool g1, .slice A1 n1 c1, .slice B1 m1 d1] 26)).alloc (.cells #[.bool false, .slice none 0 0] 24)) (w.heap.size + 1) #[.bool false, .slice none 0 0] 24) := hid (Box.at_ (w := (w.alloc (.cells #[.bool g1, .slice A1 n1 c1, .slice B1 m1 d1] 26))) #[.bool false, .slice none 0 0] 24 (by simp))
  replace R1 := hid (R1.out.up E.out)
  refine wp_region_T [(0, 0), (1, 1), (2, 1), (3, 1), (4, 4)] (by kernel_rfl) fun wd hb => ?_
  replace E := hid (E.out.trans hb)
  replace BX0 := hid (BX0.out.up hb)
  replace BX1 := hid (BX1.out.up hb)
  replace R1 := hid (R1.out.up hb)
  clear hb
  have EY := hid (Ext.refl wd)
  refine WE.pure (d := some 3) rfl rfl (by rfl) (v := (.agg #[.bool g1, .slice A1 n1 c1, .slice B1 m1 d1])) (fun w' hk => ?_) ?_
  · obtain ⟨ce0, ce1, ce2⟩ := ((BX0.out.up EY.out).up hk).c3; go_simp
  simp only [Act.put, pA, pB, pC]
  refine WE.call (d := some 4) rfl rfl (by rfl) (by go_simp) ((rNegR_r (R1.out.up EY.out) (by have := HJ.out; have := HJ1.out; omega) (by have := HJ.out; have := HJ1.out; omega)).mono ?_)
  rintro e wn ⟨v1, rfl, x1, hb⟩
  obtain ⟨g11, A11, n11, c11, B11, m11, d11, rfl, p1, q1⟩ := x1
  refine ⟨_, rfl, hb, ?_⟩
  replace EY := hid (EY.out.trans hb)
  have P11 := hid p1
  have D11 := hid q1
  clear hb p1 q1
  simp only [Act.put, pA, pB, pC]
  refine WE.call (d := some 5) rfl rfl (by rfl) (by go_simp) ((rFloorR_r (IsR.mk P11.out D11.out).worth (by have := HJ.out; have := HJ1.out; omega) (by have := HJ.out; have := HJ1.out; omega)).mono ?_)
  rintro e wn ⟨v1, rfl, x1, hb⟩
  obtain ⟨g12, A12, n12, c12, rfl⟩ := x1.shape
  refine ⟨_, rfl, hb, ?_⟩
  replace EY := hid (EY.out.trans hb)
  have Q12 := hid x1
  clear hb x1
  simp only [Act.put, pA, pB, pC]
  clear P11
  clear D11
  refine WE.call (d := some 6) rfl rfl (by rfl) (by go_simp) ((rNeg_w Q12.out.worth).mono ?_)
  rintro e wn ⟨v1, rfl, x1, hb⟩
  obtain ⟨g13, A13, n13, c13, rfl⟩ := x1.shape
  replace x1 := x1.to (Rat.ceil_eq_neg_floor_neg x).symm
  refine ⟨_, rfl, hb, ?_⟩
  replace EY := hid (EY.out.trans hb)
  have Q13 := hid x1
  clear hb x1
  simp only [Act.put, pA, pB, pC]
  refine WE.store2 (g := (w.heap.size + 1)) (x := .bool g13) (y := .slice A13 n13 c13) (t := 24) rfl rfl (by rfl) (fun w hb => ?_) (BX1.out.up EY.out) (by rfl) fun ws hk hs => ?_
  · obtain ⟨ce0, ce1⟩ := hb.c2; obtain ⟨f0, f1⟩ := hb.f2; go_simp
  intro hbx
  replace E := hid ((E.out.trans EY.out).keptG hk (by simp))
  replace BX1 := hid hbx
  replace Q13 := hid (Q13.out.kz hs)
  clear hk hs hbx
  replace EY := hid (Ext.refl ws)
  clear Q12
  refine WE.done ?_
  have r0 := (BX1.out.up EY.out).cell (o := 0) (v := .bool g13) rfl
  have r1 := (BX1.out.up EY.out).cell (o := 1) (v := .slice A13 n13 c13) rfl
  repeat go_step
  exact bodyPost_ret (v := .agg #[.bool g13, .slice A13 n13 c13]) (by simp [results, Tryz.results34, go_sem, r0, r1]) rfl ⟨_, rfl, (Q13.out.up EY.out), (E.out.trans EY.out)⟩

set_option maxHeartbeats 2000000 in
theorem rSignR_r {w : World} {u : Value} {x : Rat} {j : Nat} (h1 : WorthR w u x j) (hj : j ≤ 60) (hj1 : 1 ≤ j) {s : Int} (hs : x.num.sign = s) :
    Calls Tryz.prog 10 #[u] w (fun e w' => e = .returned (.int .i64 s) ∧ Ext w w') := by
  obtain ⟨g1, A1, n1, c1, B1, m1, d1, rfl⟩ := h1.shape
  have R1 := hid h1
  have HJ := hid hj
  have HJ1 := hid hj1
  have HS := hid hs
  clear h1 hj hj1 hs
  go_enter Tryz.func10, Tryz.ntmps10
  go_upto_region 1 with (fail)
  have E := hid ((Ext.refl w).alloc' (.cells #[.bool g1, .slice A1 n1 c1, .slice B1 m1 d1] 26))
  have BX0 : Hid (Box (w.alloc (.cells #[.bool g1, .slice A1 n1 c1, .slice B1 m1 d1] 26)) (w.heap.size) #[.bool g1, .slice A1 n1 c1, .slice B1 m1 d1] 26) := hid (Box.at_ (w := w) #[.bool g1, .slice A1 n1 c1, .slice B1 m1 d1] 26 (by simp))
  replace R1 := hid (R1.out.up E.out)
  refine wp_region_T [(0, 0), (1, 1), (2, 0), (3, 1), (4, 0)] (by kernel_rfl) fun wd hb => ?_
  replace E := hid (E.out.trans hb)
  replace BX0 := hid (BX0.out.up hb)
  replace R1 := hid (R1.out.up hb)
  clear hb
  have EY := hid (Ext.refl wd)
  refine WE.pure (d := some 3) rfl rfl (by rfl) (v := (.agg #[.bool g1, .slice A1 n1 c1, .slice B1 m1 d1])) (fun w' hk => ?_) ?_
  · obtain ⟨ce0, ce1, ce2⟩ := ((BX0.out.up EY.out).up hk).c3; go_simp
  simp only [Act.put, pA, pB, pC]
  refine WE.call (d := some 4) rfl rfl (by rfl) (by go_simp) ((rMayR_r (R1.out.up EY.out) (by have := HJ.out; have := HJ1.out; omega) (by have := HJ.out; have := HJ1.out; omega)).mono ?_)
  rintro e wn ⟨v1, rfl, x1, hb⟩
  obtain ⟨g11, A11, n11, c11, B11, m11, d11, rfl, p1, q1⟩ := x1
  refine ⟨_, rfl, hb, ?_⟩
  replace EY := hid (EY.out.trans hb)
  have P11 := hid p1
  clear hb p1 q1
  simp only [Act.put, pA, pB, pC]
  refine WE.pure (d := some 5) rfl rfl (by rfl) (v := (.agg #[.bool g11, .slice A11 n11 c11])) (fun w' hk => ?_) ?_
  · go_simp; unfold Instr.field asAgg; go_simp
  simp only [Act.put, pA, pB, pC]
  refine WE.call (d := some 6) rfl rfl (by rfl) (by go_simp) ((rSign_w P11.out.worth (s := s) (HS.out)).mono ?_)
  rintro e wn ⟨rfl, hb⟩
  refine ⟨_, rfl, hb, ?_⟩
  replace EY := hid (EY.out.trans hb)
  clear hb
  simp only [Act.put, pA, pB, pC]
  clear P11
  refine WE.pure (d := some 2) rfl rfl (by rfl) (v := (.int .i64 s)) (fun w' hk => by go_simp) ?_
  simp only [Act.put, pA, pB, pC]
  refine WE.done ?_
  repeat go_step
  go_ret
  exact ⟨rfl, (E.out.trans EY.out)⟩

theorem equal_z {w : World} {u v : Value} {Z : Int} {j k : Nat} (hu : IsZ w u Z j) (hv : IsZ w v Z k) : Calls Tryz.prog 30 #[u, v] w (GivesB w true) := by
  obtain ⟨A, n, c, rfl, h1, _⟩ := hu
  obtain ⟨A', n', c', rfl, h2, _⟩ := hv
  obtain ⟨g, hg⟩ : ∃ g : Bool, g = decide (Z < 0) := ⟨_, rfl⟩
  rw [← hg]
  have R := hid h1
  have R' := hid h2
  clear h1 h2 hg
  have hgg : (g == g) = true := by simp
  cases g
  all_goals
    go_enter Tryz.func30, Tryz.ntmps30
    go_wp2_with fail
    refine (same_l (R.out.up ((Ext.alloc _ _).alloc' _)) (R'.out.up ((Ext.alloc _ _).alloc' _)) rfl).mono ?_
    rintro e wn ⟨rfl, hb⟩
    have E := hid (((Ext.alloc _ _).alloc' _).trans hb)
    clear hb
    go_wp2
    go_ret
    exact ⟨rfl, E.out⟩

set_option maxHeartbeats 2000000 in
theorem rEqualR_r {w : World} {u v : Value} {x : Rat} {j k : Nat} (h1 : IsR w u x j) (h2 : IsR w v x k) :
    Calls Tryz.prog 14 #[u, v] w (GivesB w true) := by
  obtain ⟨g1, A1, n1, c1, B1, m1, d1, rfl, p1, q1⟩ := h1
  have P1 := hid p1
  have D1 := hid q1
  obtain ⟨g2, A2, n2, c2, B2, m2, d2, rfl, p2, q2⟩ := h2
  have P2 := hid p2
  have D2 := hid q2
  clear p1 q1 p2 q2
  go_enter Tryz.func14, Tryz.ntmps14
  go_upto_region 1 with (fail)
  have E := hid (((Ext.refl w).alloc' (.cells #[.bool g1, .slice A1 n1 c1, .slice B1 m1 d1] 26)).alloc' (.cells #[.bool g2, .slice A2 n2 c2, .slice B2 m2 d2] 26))
  have BX0 : Hid (Box ((w.alloc (.cells #[.bool g1, .slice A1 n1 c1, .slice B1 m1 d1] 26)).alloc (.cells #[.bool g2, .slice A2 n2 c2, .slice B2 m2 d2] 26)) (w.heap.size) #[.bool g1, .slice A1 n1 c1, .slice B1 m1 d1] 26) := hid ((Box.at_ (w := w) #[.bool g1, .slice A1 n1 c1, .slice B1 m1 d1] 26 (by simp)).alloc (.cells #[.bool g2, .slice A2 n2 c2, .slice B2 m2 d2] 26))
  have BX1 : Hid (Box ((w.alloc (.cells #[.bool g1, .slice A1 n1 c1, .slice B1 m1 d1] 26)).alloc (.cells #[.bool g2, .slice A2 n2 c2, .slice B2 m2 d2] 26)) (w.heap.size + 1) #[.bool g2, .slice A2 n2 c2, .slice B2 m2 d2] 26) := hid (Box.at_ (w := (w.alloc (.cells #[.bool g1, .slice A1 n1 c1, .slice B1 m1 d1] 26))) #[.bool g2, .slice A2 n2 c2, .slice B2 m2 d2] 26 (by simp))
  replace P1 := hid (P1.out.up E.out)
  replace D1 := hid (D1.out.up E.out)
  replace P2 := hid (P2.out.up E.out)
  replace D2 := hid (D2.out.up E.out)
  refine wp_region_T [(0, 0), (1, 0), (2, 0), (3, 0), (4, 1), (5, 0), (6, 0), (7, 0), (8, 0), (9, 0), (10, 1), (11, 0), (12, 0)] (by kernel_rfl) fun wd hb => ?_
  replace E := hid (E.out.trans hb)
  replace BX0 := hid (BX0.out.up hb)
  replace BX1 := hid (BX1.out.up hb)
  replace P1 := hid (P1.out.up hb)
  replace D1 := hid (D1.out.up hb)
  replace P2 := hid (P2.out.up hb)
  replace D2 := hid (D2.out.up hb)
  clear hb
  have EY := hid (Ext.refl wd)
  refine WE.pure (d := some 5) rfl rfl (by rfl) (v := (.pointer (some ⟨(w.heap.size), 0, none⟩))) (fun w' hk => by go_simp) ?_
  simp only [Act.put, pA, pB, pC]
  refine WE.pure (d := some 6) rfl rfl (by rfl) (v := (.agg #[.bool g1, .slice A1 n1 c1])) (fun w' hk => ?_) ?_
  · obtain ⟨ce0, ce1, ce2⟩ := ((BX0.out.up EY.out).up hk).c3; go_simp
  simp only [Act.put, pA, pB, pC]
  refine WE.pure (d := some 7) rfl rfl (by rfl) (v := (.pointer (some ⟨(w.heap.size + 1), 0, none⟩))) (fun w' hk => by go_simp) ?_
  simp only [Act.put, pA, pB, pC]
  refine WE.pure (d := some 8) rfl rfl (by rfl) (v := (.agg #[.bool g2, .slice A2 n2 c2])) (fun w' hk => ?_) ?_
  · obtain ⟨ce0, ce1, ce2⟩ := ((BX1.out.up EY.out).up hk).c3; go_simp
  simp only [Act.put, pA, pB, pC]
  refine WE.call (d := some 9) rfl rfl (by rfl) (by go_simp) ((equal_z (P1.out.up EY.out) (P2.out.up EY.out)).mono ?_)
  rintro e wn ⟨rfl, hb⟩
  refine ⟨_, rfl, hb, ?_⟩
  replace EY := hid (EY.out.trans hb)
  clear hb
  simp only [Act.put, pA, pB, pC]
  refine WE.pure (d := some 10) rfl rfl (by rfl) (v := (.bool true)) (fun w' hk => by go_simp) ?_
  simp only [Act.put, pA, pB, pC]
  refine WE.pure (d := some 11) rfl rfl (by rfl) (v := (.pointer (some ⟨(w.heap.size), 2, none⟩))) (fun w' hk => by go_simp) ?_
  simp only [Act.put, pA, pB, pC]
  refine WE.pure (d := some 12) rfl rfl (by rfl) (v := (.slice B1 m1 d1)) (fun w' hk => ?_) ?_
  · have ce2 := hk.cell ((BX0.out.up EY.out).cell (o := 2) (v := .slice B1 m1 d1) rfl); go_simp
  simp only [Act.put, pA, pB, pC]
  refine WE.pure (d := some 13) rfl rfl (by rfl) (v := (.pointer (some ⟨(w.heap.size + 1), 2, none⟩))) (fun w' hk => by go_simp) ?_
  simp only [Act.put, pA, pB, pC]
  refine WE.pure (d := some 14) rfl rfl (by rfl) (v := (.slice B2 m2 d2)) (fun w' hk => ?_) ?_
  · have ce2 := hk.cell ((BX1.out.up EY.out).cell (o := 2) (v := .slice B2 m2 d2) rfl); go_simp
  simp only [Act.put, pA, pB, pC]
  refine WE.call (d := some 15) rfl rfl (by rfl) (by go_simp) ((same_row (D1.out.up EY.out).parts.2.1 (D2.out.up EY.out).parts.2.1 (decide_eq_true rfl)).mono ?_)
  rintro e wn ⟨rfl, hb⟩
  refine ⟨_, rfl, hb, ?_⟩
  replace EY := hid (EY.out.trans hb)
  clear hb
  simp only [Act.put, pA, pB, pC]
  refine WE.pure (d := some 16) rfl rfl (by rfl) (v := (.bool true)) (fun w' hk => by go_simp) ?_
  simp only [Act.put, pA, pB, pC]
  refine WE.pure (d := some 4) rfl rfl (by rfl) (v := (.bool true)) (fun w' hk => by go_simp) ?_
  simp only [Act.put, pA, pB, pC]
  refine WE.done ?_
  repeat go_step
  go_ret
  exact ⟨rfl, (E.out.trans EY.out)⟩

theorem rIsR_of {w : World} {u : Value} {x : Rat} {k : Nat} (h1 : IsR w u x k) (hk : k ≤ 1000) : Calls Tryz.prog 13 #[u] w (GivesB w true) := by
  obtain ⟨g, A, n, c, B, m, d, rfl, p, q⟩ := h1
  obtain ⟨rfl, p1, p2⟩ := p.parts
  obtain ⟨_, q1, q2⟩ := q.parts
  exact rIsR_any p1 q1 p2 q2 hk (M.isR_of x)

end Go.Proofs.YtkjfeedclaedfaaGreat
