/-
  Contracts of package rat's sums, differences, products, quotients.
-/
import Derived.Test.YtkjfeedclaedfaaGreatRRead
namespace Go.Proofs.YtkjfeedclaedfaaGreat
open Go.RowKit
set_option linter.unusedSimpArgs false
set_option linter.unusedVariables false

set_option maxHeartbeats 2000000 in
theorem fAdd_r {w : World} {u v : Value} {x y : Rat} {j : Nat} (h1 : WorthR w u x j) (h2 : WorthR w v y j) (hj : j ≤ 60) (hj1 : 1 ≤ j) :
    Calls Tryz.prog 25 #[u, v] w (GivesR w (x + y) (2 * j + 5)) := by
  obtain ⟨g1, A1, n1, c1, B1, m1, d1, rfl⟩ := h1.shape
  have R1 := hid h1
  obtain ⟨g2, A2, n2, c2, B2, m2, d2, rfl⟩ := h2.shape
  have R2 := hid h2
  have HJ := hid hj
  have HJ1 := hid hj1
  clear h1 h2 hj hj1
  go_enter Tryz.func25, Tryz.ntmps25
  go_upto_region 1 with (fail)
  have E := hid ((((Ext.refl w).alloc' (.cells #[.bool g1, .slice A1 n1 c1, .slice B1 m1 d1] 26)).alloc' (.cells #[.bool g2, .slice A2 n2 c2, .slice B2 m2 d2] 26)).alloc' (.cells #[.bool false, .slice none 0 0, .slice none 0 0] 26))
  have BX0 : Hid (Box (((w.alloc (.cells #[.bool g1, .slice A1 n1 c1, .slice B1 m1 d1] 26)).alloc (.cells #[.bool g2, .slice A2 n2 c2, .slice B2 m2 d2] 26)).alloc (.cells #[.bool false, .slice none 0 0, .slice none 0 0] 26)) (w.heap.size) #[.bool g1, .slice A1 n1 c1, .slice B1 m1 d1] 26) := hid (((Box.at_ (w := w) #[.bool g1, .slice A1 n1 c1, .slice B1 m1 d1] 26 (by simp)).alloc (.cells #[.bool g2, .slice A2 n2 c2, .slice B2 m2 d2] 26)).alloc (.cells #[.bool false, .slice none 0 0, .slice none 0 0] 26))
  have BX1 : Hid (Box (((w.alloc (.cells #[.bool g1, .slice A1 n1 c1, .slice B1 m1 d1] 26)).alloc (.cells #[.bool g2, .slice A2 n2 c2, .slice B2 m2 d2] 26)).alloc (.cells #[.bool false, .slice none 0 0, .slice none 0 0] 26)) (w.heap.size + 1) #[.bool g2, .slice A2 n2 c2, .slice B2 m2 d2] 26) := hid ((Box.at_ (w := (w.alloc (.cells #[.bool g1, .slice A1 n1 c1, .slice B1 m1 d1] 26))) #[.bool g2, .slice A2 n2 c2, .slice B2 m2 d2] 26 (by simp)).alloc (.cells #[.bool false, .slice none 0 0, .slice none 0 0] 26))
  have BX2 : Hid (Box (((w.alloc (.cells #[.bool g1, .slice A1 n1 c1, .slice B1 m1 d1] 26)).alloc (.cells #[.bool g2, .slice A2 n2 c2, .slice B2 m2 d2] 26)).alloc (.cells #[.bool false, .slice none 0 0, .slice none 0 0] 26)) (w.heap.size + 2) #[.bool false, .slice none 0 0, .slice none 0 0] 26) := hid (Box.at_ (w := ((w.alloc (.cells #[.bool g1, .slice A1 n1 c1, .slice B1 m1 d1] 26)).alloc (.cells #[.bool g2, .slice A2 n2 c2, .slice B2 m2 d2] 26))) #[.bool false, .slice none 0 0, .slice none 0 0] 26 (by simp))
  replace R1 := hid (R1.out.up E.out)
  replace R2 := hid (R2.out.up E.out)
  refine wp_region_E [(0, 0), (2, 0), (1, 2), (3, 2), (4, 3), (5, 3), (6, 4), (7, 4)] (fun _ => (51, #[.bool false, .slice none 0 0, .bool false, .slice none 0 0])) rfl (by kernel_rfl) (by intro j hj; simp [pend] at hj; rcases hj with rfl | rfl <;> exact ⟨_, rfl, rfl, rfl, fun w => by go_simp⟩) (fun _ _ d _ _ => by cases d <;> exact Iff.rfl) fun wd hb => ?_
  replace E := hid (E.out.trans hb)
  replace BX0 := hid (BX0.out.up hb)
  replace BX1 := hid (BX1.out.up hb)
  replace BX2 := hid (BX2.out.up hb)
  replace R1 := hid (R1.out.up hb)
  replace R2 := hid (R2.out.up hb)
  clear hb
  have HL1BX0 := hid BX0.out.lt
  have HL1BX1 := hid BX1.out.lt
  have HL1BX2 := hid BX2.out.lt
  have HW1 := hid (show w.heap.size ≤ wd.heap.size from E.out.size)
  have EY := hid (Ext.refl wd)
  refine WE.pure (d := some 7) rfl rfl (by rfl) (v := (.agg #[.bool g1, .slice A1 n1 c1, .slice B1 m1 d1])) (fun w' hk => ?_) ?_
  · obtain ⟨ce0, ce1, ce2⟩ := ((BX0.out.up EY.out).up hk).c3; go_simp
  simp only [Act.put, pA, pB, pC]
  refine WE.pure (d := some 9) rfl rfl (by rfl) (v := (.agg #[.bool g2, .slice A2 n2 c2, .slice B2 m2 d2])) (fun w' hk => ?_) ?_
  · obtain ⟨ce0, ce1, ce2⟩ := ((BX1.out.up EY.out).up hk).c3; go_simp
  simp only [Act.put, pA, pB, pC]
  refine WE.callR (d := some 8) rfl rfl (by rfl) (f := 39) (args := #[(.agg #[.bool g1, .slice A1 n1 c1, .slice B1 m1 d1])]) (fun w => by go_simp) (fun wx hx0 => ?_)
  replace EY := hid (EY.out.trans hx0)
  clear hx0
  refine (read_r (R1.out.up EY.out) (by have := HJ.out; have := HJ1.out; omega) (by have := HJ.out; have := HJ1.out; omega)).mono ?_
  rintro e wn ⟨v1, rfl, x1, hb⟩
  obtain ⟨g11, A11, n11, c11, B11, m11, d11, rfl, p1, q1⟩ := x1
  refine ⟨_, rfl, hb, ?_⟩
  replace EY := hid (EY.out.trans hb)
  have P11 := hid p1
  have D11 := hid q1
  clear hb p1 q1
  simp only [Act.put, pA, pB, pC]
  refine WE.callR (d := some 10) rfl rfl (by rfl) (f := 39) (args := #[(.agg #[.bool g2, .slice A2 n2 c2, .slice B2 m2 d2])]) (fun w => by go_simp) (fun wx hx0 => ?_)
  replace EY := hid (EY.out.trans hx0)
  replace P11 := hid (P11.out.up hx0)
  replace D11 := hid (D11.out.up hx0)
  clear hx0
  refine (read_r (R2.out.up EY.out) (by have := HJ.out; have := HJ1.out; omega) (by have := HJ.out; have := HJ1.out; omega)).mono ?_
  rintro e wn ⟨v1, rfl, x1, hb⟩
  obtain ⟨g12, A12, n12, c12, B12, m12, d12, rfl, p1, q1⟩ := x1
  refine ⟨_, rfl, hb, ?_⟩
  replace EY := hid (EY.out.trans hb)
  replace P11 := hid (P11.out.up hb)
  replace D11 := hid (D11.out.up hb)
  have P12 := hid p1
  have D12 := hid q1
  clear hb p1 q1
  simp only [Act.put, pA, pB, pC]
  refine WE.var (d := some 5) rfl fun gV5 wv hx0 hbox hge hng => ?_
  have HNV5BX2 := hid (show gV5 ≠ (w.heap.size + 2) by have := HL1BX2.out; omega)
  have HGV5 := hid (show w.heap.size ≤ gV5 by have := HW1.out; omega)
  replace EY := hid (EY.out.trans hx0)
  replace P11 := hid (P11.out.up hx0)
  replace D11 := hid (D11.out.up hx0)
  replace P12 := hid (P12.out.up hx0)
  replace D12 := hid (D12.out.up hx0)
  have V5 : Hid (Box wv gV5 #[.bool false, .slice none 0 0, .bool false, .slice none 0 0] 51) := hid hbox
  clear hx0 hbox hge hng
  simp only [Act.put, pA, pB, pC]
  refine WE.var (d := some 6) rfl fun gV6 wv hx0 hbox hge hng => ?_
  have HNV6BX2 := hid (show gV6 ≠ (w.heap.size + 2) by have := HL1BX2.out; omega)
  have HNV6V5 := hid (show gV6 ≠ gV5 by intro e; exact hng (by simp [e]))
  have HGV6 := hid (show w.heap.size ≤ gV6 by have := HW1.out; omega)
  replace EY := hid (EY.out.trans hx0)
  replace V5 := hid (V5.out.up hx0)
  replace P11 := hid (P11.out.up hx0)
  replace D11 := hid (D11.out.up hx0)
  replace P12 := hid (P12.out.up hx0)
  replace D12 := hid (D12.out.up hx0)
  have V6 : Hid (Box wv gV6 #[.bool false, .slice none 0 0, .bool false, .slice none 0 0] 51) := hid hbox
  clear hx0 hbox hge hng
  simp only [Act.put, pA, pB, pC]
  refine WE.store4 (g := gV5) (x := .bool g11) (y := .slice A11 n11 c11) (z := .bool false) (q := .slice B11 m11 d11) (t := 51) rfl rfl (by rfl) (fun w hb => ?_) V5.out (by rfl) fun ws hk hs => ?_
  · obtain ⟨ce0, ce1, ce2, ce3⟩ := hb.c4; obtain ⟨f0, f1, f2, f3⟩ := hb.f4; go_simp
  intro hbx
  replace E := hid ((E.out.trans EY.out).keptG hk HGV5.out)
  replace BX2 := hid ((BX2.out.up EY.out).kept hk (by simpa using HNV5BX2.out.symm))
  replace V5 := hid hbx
  replace V6 := hid (V6.out.kept hk (by simpa using HNV6V5.out))
  replace P11 := hid (P11.out.kz hs)
  replace D11 := hid (D11.out.kz hs)
  replace P12 := hid (P12.out.kz hs)
  replace D12 := hid (D12.out.kz hs)
  clear hk hs hbx
  replace EY := hid (Ext.refl ws)
  refine WE.store4 (g := gV6) (x := .bool g12) (y := .slice A12 n12 c12) (z := .bool false) (q := .slice B12 m12 d12) (t := 51) rfl rfl (by rfl) (fun w hb => ?_) (V6.out.up EY.out) (by rfl) fun ws hk hs => ?_
  · obtain ⟨ce0, ce1, ce2, ce3⟩ := hb.c4; obtain ⟨f0, f1, f2, f3⟩ := hb.f4; go_simp
  intro hbx
  replace E := hid ((E.out.trans EY.out).keptG hk HGV6.out)
  replace BX2 := hid ((BX2.out.up EY.out).kept hk (by simpa using HNV6BX2.out.symm))
  replace V5 := hid ((V5.out.up EY.out).kept hk (by simpa using HNV6V5.out.symm))
  replace V6 := hid hbx
  replace P11 := hid ((P11.out.up EY.out).kz hs)
  replace D11 := hid ((D11.out.up EY.out).kz hs)
  replace P12 := hid ((P12.out.up EY.out).kz hs)
  replace D12 := hid ((D12.out.up EY.out).kz hs)
  clear hk hs hbx
  replace EY := hid (Ext.refl ws)
  refine WE.done ?_
  go_upto_region 2 with (fail)
  refine wp_region_E [(0, 0), (1, 0), (2, 0), (3, 0), (5, 0), (6, 0), (7, 0), (8, 0), (11, 0), (12, 0), (13, 0), (14, 0), (4, 1), (9, 1), (10, 1), (15, 1), (16, 1), (17, 1), (18, 4)] (fun _ => (0, #[])) rfl (by kernel_rfl) (by intro j hj; cases hj) (fun _ _ d _ _ => by cases d <;> exact Iff.rfl) fun wd hb => ?_
  replace EY := hid (EY.out.trans hb)
  clear hb
  refine WE.pure (d := some 11) rfl rfl (by rfl) (v := (.pointer (some ⟨gV5, 0, none⟩))) (fun w' hk => by go_simp) ?_
  simp only [Act.put, pA, pB, pC]
  refine WE.pure (d := some 12) rfl rfl (by rfl) (v := (.agg #[.bool g11, .slice A11 n11 c11])) (fun w' hk => ?_) ?_
  · obtain ⟨ce0, ce1, ce2, ce3⟩ := ((V5.out.up EY.out).up hk).c4; go_simp
  simp only [Act.put, pA, pB, pC]
  refine WE.pure (d := some 13) rfl rfl (by rfl) (v := (.pointer (some ⟨gV6, 2, none⟩))) (fun w' hk => by go_simp) ?_
  simp only [Act.put, pA, pB, pC]
  refine WE.pure (d := some 14) rfl rfl (by rfl) (v := (.agg #[.bool false, .slice B12 m12 d12])) (fun w' hk => ?_) ?_
  · obtain ⟨ce0, ce1, ce2, ce3⟩ := ((V6.out.up EY.out).up hk).c4; go_simp
  simp only [Act.put, pA, pB, pC]
  refine WE.pure (d := some 16) rfl rfl (by rfl) (v := (.pointer (some ⟨gV6, 0, none⟩))) (fun w' hk => by go_simp) ?_
  simp only [Act.put, pA, pB, pC]
  refine WE.pure (d := some 17) rfl rfl (by rfl) (v := (.agg #[.bool g12, .slice A12 n12 c12])) (fun w' hk => ?_) ?_
  · obtain ⟨ce0, ce1, ce2, ce3⟩ := ((V6.out.up EY.out).up hk).c4; go_simp
  simp only [Act.put, pA, pB, pC]
  refine WE.pure (d := some 18) rfl rfl (by rfl) (v := (.pointer (some ⟨gV5, 2, none⟩))) (fun w' hk => by go_simp) ?_
  simp only [Act.put, pA, pB, pC]
  refine WE.pure (d := some 19) rfl rfl (by rfl) (v := (.agg #[.bool false, .slice B11 m11 d11])) (fun w' hk => ?_) ?_
  · obtain ⟨ce0, ce1, ce2, ce3⟩ := ((V5.out.up EY.out).up hk).c4; go_simp
  simp only [Act.put, pA, pB, pC]
  refine WE.pure (d := some 22) rfl rfl (by rfl) (v := (.pointer (some ⟨gV5, 2, none⟩))) (fun w' hk => by go_simp) ?_
  simp only [Act.put, pA, pB, pC]
  refine WE.pure (d := some 23) rfl rfl (by rfl) (v := (.agg #[.bool false, .slice B11 m11 d11])) (fun w' hk => ?_) ?_
  · obtain ⟨ce0, ce1, ce2, ce3⟩ := ((V5.out.up EY.out).up hk).c4; go_simp
  simp only [Act.put, pA, pB, pC]
  refine WE.pure (d := some 24) rfl rfl (by rfl) (v := (.pointer (some ⟨gV6, 2, none⟩))) (fun w' hk => by go_simp) ?_
  simp only [Act.put, pA, pB, pC]
  refine WE.pure (d := some 25) rfl rfl (by rfl) (v := (.agg #[.bool false, .slice B12 m12 d12])) (fun w' hk => ?_) ?_
  · obtain ⟨ce0, ce1, ce2, ce3⟩ := ((V6.out.up EY.out).up hk).c4; go_simp
  simp only [Act.put, pA, pB, pC]
  refine WE.call (d := some 15) rfl rfl (by rfl) (by go_simp) ((times_r (P11.out.up EY.out).worth (D12.out.up EY.out).worth (by have := HJ.out; have := HJ1.out; omega) (by have := HJ.out; have := HJ1.out; omega)).mono ?_)
  rintro e wn ⟨v1, rfl, x1, hb⟩
  obtain ⟨g13, A13, n13, c13, rfl⟩ := x1.shape
  refine ⟨_, rfl, hb, ?_⟩
  replace EY := hid (EY.out.trans hb)
  have Q13 := hid x1
  clear hb x1
  simp only [Act.put, pA, pB, pC]
  refine WE.call (d := some 20) rfl rfl (by rfl) (by go_simp) ((times_r (P12.out.up EY.out).worth (D11.out.up EY.out).worth (by have := HJ.out; have := HJ1.out; omega) (by have := HJ.out; have := HJ1.out; omega)).mono ?_)
  rintro e wn ⟨v1, rfl, x1, hb⟩
  obtain ⟨g14, A14, n14, c14, rfl⟩ := x1.shape
  refine ⟨_, rfl, hb, ?_⟩
  replace EY := hid (EY.out.trans hb)
  replace Q13 := hid (Q13.out.up hb)
  have Q14 := hid x1
  clear hb x1
  simp only [Act.put, pA, pB, pC]
  refine WE.call (d := some 21) rfl rfl (by rfl) (by go_simp) ((plus_r Q13.out.worth Q14.out.worth (by have := HJ.out; have := HJ1.out; omega) (by have := HJ.out; have := HJ1.out; omega)).mono ?_)
  rintro e wn ⟨v1, rfl, x1, hb⟩
  obtain ⟨g15, A15, n15, c15, rfl⟩ := x1.shape
  refine ⟨_, rfl, hb, ?_⟩
  replace EY := hid (EY.out.trans hb)
  have Q15 := hid x1
  clear hb x1
  simp only [Act.put, pA, pB, pC]
  clear Q13
  clear Q14
  refine WE.call (d := some 26) rfl rfl (by rfl) (by go_simp) ((times_r (D11.out.up EY.out).worth (D12.out.up EY.out).worth (by have := HJ.out; have := HJ1.out; omega) (by have := HJ.out; have := HJ1.out; omega)).mono ?_)
  rintro e wn ⟨v1, rfl, x1, hb⟩
  obtain ⟨g16, A16, n16, c16, rfl⟩ := x1.shape
  refine ⟨_, rfl, hb, ?_⟩
  replace EY := hid (EY.out.trans hb)
  replace Q15 := hid (Q15.out.up hb)
  have Q16 := hid x1
  clear hb x1
  simp only [Act.put, pA, pB, pC]
  refine WE.call (d := some 27) rfl rfl (by rfl) (by go_simp) ((shortened_r (Worth.wide Q15.out.worth (k := (2 * j + 2)) (by have := HJ.out; have := HJ1.out; omega)) (Worth.wide Q16.out.worth (k := (2 * j + 2)) (by have := HJ.out; have := HJ1.out; omega)) (by have := HJ.out; have := HJ1.out; omega)).mono ?_)
  rintro e wn ⟨v1, rfl, x1, hb⟩
  replace x1 := x1.to (M.of_add x y)
  obtain ⟨g17, A17, n17, c17, B17, m17, d17, rfl, p1, q1⟩ := x1
  refine ⟨_, rfl, hb, ?_⟩
  replace EY := hid (EY.out.trans hb)
  have P17 := hid p1
  have D17 := hid q1
  clear hb p1 q1
  simp only [Act.put, pA, pB, pC]
  clear Q15
  clear Q16
  refine WE.call (d := some 28) rfl rfl (by rfl) (by go_simp) ((told_r (InR.mk P17.out D17.out)).mono ?_)
  rintro e wn ⟨v1, rfl, x1, hb⟩
  obtain ⟨g18, A18, n18, c18, B18, m18, d18, rfl, p1, q1⟩ := x1
  refine ⟨_, rfl, hb, ?_⟩
  replace EY := hid (EY.out.trans hb)
  have P18 := hid p1
  have D18 := hid q1
  clear hb p1 q1
  simp only [Act.put, pA, pB, pC]
  clear P17
  clear D17
  refine WE.store3 (g := (w.heap.size + 2)) (x := .bool g18) (y := .slice A18 n18 c18) (z := .slice B18 m18 d18) (t := 26) rfl rfl (by rfl) (fun w hb => ?_) (BX2.out.up EY.out) (by rfl) fun ws hk hs => ?_
  · obtain ⟨ce0, ce1, ce2⟩ := hb.c3; obtain ⟨f0, f1, f2⟩ := hb.f3; go_simp
  intro hbx
  replace E := hid ((E.out.trans EY.out).keptG hk (by simp))
  replace BX2 := hid hbx
  replace P18 := hid (P18.out.kz hs)
  replace D18 := hid (D18.out.kz hs)
  clear hk hs hbx
  replace EY := hid (Ext.refl ws)
  refine WE.done ?_
  have r0 := (BX2.out.up EY.out).cell (o := 0) (v := .bool g18) rfl
  have r1 := (BX2.out.up EY.out).cell (o := 1) (v := .slice A18 n18 c18) rfl
  have r2 := (BX2.out.up EY.out).cell (o := 2) (v := .slice B18 m18 d18) rfl
  repeat go_step
  exact bodyPost_ret (v := .agg #[.bool g18, .slice A18 n18 c18, .slice B18 m18 d18]) (by simp [results, Tryz.results25, go_sem, r0, r1, r2]) rfl ⟨_, rfl, (IsR.mk (P18.out.up EY.out) (D18.out.up EY.out)).wide (by have := HJ.out; have := HJ1.out; omega), (E.out.trans EY.out)⟩

set_option maxHeartbeats 2000000 in
theorem fSub_r {w : World} {u v : Value} {x y : Rat} {j : Nat} (h1 : WorthR w u x j) (h2 : WorthR w v y j) (hj : j ≤ 60) (hj1 : 1 ≤ j) :
    Calls Tryz.prog 27 #[u, v] w (GivesR w (x - y) (2 * j + 5)) := by
  obtain ⟨g1, A1, n1, c1, B1, m1, d1, rfl⟩ := h1.shape
  have R1 := hid h1
  obtain ⟨g2, A2, n2, c2, B2, m2, d2, rfl⟩ := h2.shape
  have R2 := hid h2
  have HJ := hid hj
  have HJ1 := hid hj1
  clear h1 h2 hj hj1
  go_enter Tryz.func27, Tryz.ntmps27
  go_upto_region 1 with (fail)
  have E := hid ((((Ext.refl w).alloc' (.cells #[.bool g1, .slice A1 n1 c1, .slice B1 m1 d1] 26)).alloc' (.cells #[.bool g2, .slice A2 n2 c2, .slice B2 m2 d2] 26)).alloc' (.cells #[.bool false, .slice none 0 0, .slice none 0 0] 26))
  have BX0 : Hid (Box (((w.alloc (.cells #[.bool g1, .slice A1 n1 c1, .slice B1 m1 d1] 26)).alloc (.cells #[.bool g2, .slice A2 n2 c2, .slice B2 m2 d2] 26)).alloc (.cells #[.bool false, .slice none 0 0, .slice none 0 0] 26)) (w.heap.size) #[.bool g1, .slice A1 n1 c1, .slice B1 m1 d1] 26) := hid (((Box.at_ (w := w) #[.bool g1, .slice A1 n1 c1, .slice B1 m1 d1] 26 (by simp)).alloc (.cells #[.bool g2, .slice A2 n2 c2, .slice B2 m2 d2] 26)).alloc (.cells #[.bool false, .slice none 0 0, .slice none 0 0] 26))
  have BX1 : Hid (Box (((w.alloc (.cells #[.bool g1, .slice A1 n1 c1, .slice B1 m1 d1] 26)).alloc (.cells #[.bool g2, .slice A2 n2 c2, .slice B2 m2 d2] 26)).alloc (.cells #[.bool false, .slice none 0 0, .slice none 0 0] 26)) (w.heap.size + 1) #[.bool g2, .slice A2 n2 c2, .slice B2 m2 d2] 26) := hid ((Box.at_ (w := (w.alloc (.cells #[.bool g1, .slice A1 n1 c1, .slice B1 m1 d1] 26))) #[.bool g2, .slice A2 n2 c2, .slice B2 m2 d2] 26 (by simp)).alloc (.cells #[.bool false, .slice none 0 0, .slice none 0 0] 26))
  have BX2 : Hid (Box (((w.alloc (.cells #[.bool g1, .slice A1 n1 c1, .slice B1 m1 d1] 26)).alloc (.cells #[.bool g2, .slice A2 n2 c2, .slice B2 m2 d2] 26)).alloc (.cells #[.bool false, .slice none 0 0, .slice none 0 0] 26)) (w.heap.size + 2) #[.bool false, .slice none 0 0, .slice none 0 0] 26) := hid (Box.at_ (w := ((w.alloc (.cells #[.bool g1, .slice A1 n1 c1, .slice B1 m1 d1] 26)).alloc (.cells #[.bool g2, .slice A2 n2 c2, .slice B2 m2 d2] 26))) #[.bool false, .slice none 0 0, .slice none 0 0] 26 (by simp))
  replace R1 := hid (R1.out.up E.out)
  replace R2 := hid (R2.out.up E.out)
  refine wp_region_E [(0, 0), (2, 0), (1, 2), (3, 2), (4, 3), (5, 3), (6, 4), (7, 4)] (fun _ => (51, #[.bool false, .slice none 0 0, .bool false, .slice none 0 0])) rfl (by kernel_rfl) (by intro j hj; simp [pend] at hj; rcases hj with rfl | rfl <;> exact ⟨_, rfl, rfl, rfl, fun w => by go_simp⟩) (fun _ _ d _ _ => by cases d <;> exact Iff.rfl) fun wd hb => ?_
  replace E := hid (E.out.trans hb)
  replace BX0 := hid (BX0.out.up hb)
  replace BX1 := hid (BX1.out.up hb)
  replace BX2 := hid (BX2.out.up hb)
  replace R1 := hid (R1.out.up hb)
  replace R2 := hid (R2.out.up hb)
  clear hb
  have HL1BX0 := hid BX0.out.lt
  have HL1BX1 := hid BX1.out.lt
  have HL1BX2 := hid BX2.out.lt
  have HW1 := hid (show w.heap.size ≤ wd.heap.size from E.out.size)
  have EY := hid (Ext.refl wd)
  refine WE.pure (d := some 7) rfl rfl (by rfl) (v := (.agg #[.bool g1, .slice A1 n1 c1, .slice B1 m1 d1])) (fun w' hk => ?_) ?_
  · obtain ⟨ce0, ce1, ce2⟩ := ((BX0.out.up EY.out).up hk).c3; go_simp
  simp only [Act.put, pA, pB, pC]
  refine WE.pure (d := some 9) rfl rfl (by rfl) (v := (.agg #[.bool g2, .slice A2 n2 c2, .slice B2 m2 d2])) (fun w' hk => ?_) ?_
  · obtain ⟨ce0, ce1, ce2⟩ := ((BX1.out.up EY.out).up hk).c3; go_simp
  simp only [Act.put, pA, pB, pC]
  refine WE.callR (d := some 8) rfl rfl (by rfl) (f := 39) (args := #[(.agg #[.bool g1, .slice A1 n1 c1, .slice B1 m1 d1])]) (fun w => by go_simp) (fun wx hx0 => ?_)
  replace EY := hid (EY.out.trans hx0)
  clear hx0
  refine (read_r (R1.out.up EY.out) (by have := HJ.out; have := HJ1.out; omega) (by have := HJ.out; have := HJ1.out; omega)).mono ?_
  rintro e wn ⟨v1, rfl, x1, hb⟩
  obtain ⟨g11, A11, n11, c11, B11, m11, d11, rfl, p1, q1⟩ := x1
  refine ⟨_, rfl, hb, ?_⟩
  replace EY := hid (EY.out.trans hb)
  have P11 := hid p1
  have D11 := hid q1
  clear hb p1 q1
  simp only [Act.put, pA, pB, pC]
  refine WE.callR (d := some 10) rfl rfl (by rfl) (f := 39) (args := #[(.agg #[.bool g2, .slice A2 n2 c2, .slice B2 m2 d2])]) (fun w => by go_simp) (fun wx hx0 => ?_)
  replace EY := hid (EY.out.trans hx0)
  replace P11 := hid (P11.out.up hx0)
  replace D11 := hid (D11.out.up hx0)
  clear hx0
  refine (read_r (R2.out.up EY.out) (by have := HJ.out; have := HJ1.out; omega) (by have := HJ.out; have := HJ1.out; omega)).mono ?_
  rintro e wn ⟨v1, rfl, x1, hb⟩
  obtain ⟨g12, A12, n12, c12, B12, m12, d12, rfl, p1, q1⟩ := x1
  refine ⟨_, rfl, hb, ?_⟩
  replace EY := hid (EY.out.trans hb)
  replace P11 := hid (P11.out.up hb)
  replace D11 := hid (D11.out.up hb)
  have P12 := hid p1
  have D12 := hid q1
  clear hb p1 q1
  simp only [Act.put, pA, pB, pC]
  refine WE.var (d := some 5) rfl fun gV5 wv hx0 hbox hge hng => ?_
  have HNV5BX2 := hid (show gV5 ≠ (w.heap.size + 2) by have := HL1BX2.out; omega)
  have HGV5 := hid (show w.heap.size ≤ gV5 by have := HW1.out; omega)
  replace EY := hid (EY.out.trans hx0)
  replace P11 := hid (P11.out.up hx0)
  replace D11 := hid (D11.out.up hx0)
  replace P12 := hid (P12.out.up hx0)
  replace D12 := hid (D12.out.up hx0)
  have V5 : Hid (Box wv gV5 #[.bool false, .slice none 0 0, .bool false, .slice none 0 0] 51) := hid hbox
  clear hx0 hbox hge hng
  simp only [Act.put, pA, pB, pC]
  refine WE.var (d := some 6) rfl fun gV6 wv hx0 hbox hge hng => ?_
  have HNV6BX2 := hid (show gV6 ≠ (w.heap.size + 2) by have := HL1BX2.out; omega)
  have HNV6V5 := hid (show gV6 ≠ gV5 by intro e; exact hng (by simp [e]))
  have HGV6 := hid (show w.heap.size ≤ gV6 by have := HW1.out; omega)
  replace EY := hid (EY.out.trans hx0)
  replace V5 := hid (V5.out.up hx0)
  replace P11 := hid (P11.out.up hx0)
  replace D11 := hid (D11.out.up hx0)
  replace P12 := hid (P12.out.up hx0)
  replace D12 := hid (D12.out.up hx0)
  have V6 : Hid (Box wv gV6 #[.bool false, .slice none 0 0, .bool false, .slice none 0 0] 51) := hid hbox
  clear hx0 hbox hge hng
  simp only [Act.put, pA, pB, pC]
  refine WE.store4 (g := gV5) (x := .bool g11) (y := .slice A11 n11 c11) (z := .bool false) (q := .slice B11 m11 d11) (t := 51) rfl rfl (by rfl) (fun w hb => ?_) V5.out (by rfl) fun ws hk hs => ?_
  · obtain ⟨ce0, ce1, ce2, ce3⟩ := hb.c4; obtain ⟨f0, f1, f2, f3⟩ := hb.f4; go_simp
  intro hbx
  replace E := hid ((E.out.trans EY.out).keptG hk HGV5.out)
  replace BX2 := hid ((BX2.out.up EY.out).kept hk (by simpa using HNV5BX2.out.symm))
  replace V5 := hid hbx
  replace V6 := hid (V6.out.kept hk (by simpa using HNV6V5.out))
  replace P11 := hid (P11.out.kz hs)
  replace D11 := hid (D11.out.kz hs)
  replace P12 := hid (P12.out.kz hs)
  replace D12 := hid (D12.out.kz hs)
  clear hk hs hbx
  replace EY := hid (Ext.refl ws)
  refine WE.store4 (g := gV6) (x := .bool g12) (y := .slice A12 n12 c12) (z := .bool false) (q := .slice B12 m12 d12) (t := 51) rfl rfl (by rfl) (fun w hb => ?_) (V6.out.up EY.out) (by rfl) fun ws hk hs => ?_
  · obtain ⟨ce0, ce1, ce2, ce3⟩ := hb.c4; obtain ⟨f0, f1, f2, f3⟩ := hb.f4; go_simp
  intro hbx
  replace E := hid ((E.out.trans EY.out).keptG hk HGV6.out)
  replace BX2 := hid ((BX2.out.up EY.out).kept hk (by simpa using HNV6BX2.out.symm))
  replace V5 := hid ((V5.out.up EY.out).kept hk (by simpa using HNV6V5.out.symm))
  replace V6 := hid hbx
  replace P11 := hid ((P11.out.up EY.out).kz hs)
  replace D11 := hid ((D11.out.up EY.out).kz hs)
  replace P12 := hid ((P12.out.up EY.out).kz hs)
  replace D12 := hid ((D12.out.up EY.out).kz hs)
  clear hk hs hbx
  replace EY := hid (Ext.refl ws)
  refine WE.done ?_
  go_upto_region 2 with (fail)
  refine wp_region_E [(0, 0), (1, 0), (2, 0), (3, 0), (5, 0), (6, 0), (7, 0), (8, 0), (11, 0), (12, 0), (13, 0), (14, 0), (4, 1), (9, 1), (10, 1), (15, 1), (16, 1), (17, 1), (18, 4)] (fun _ => (0, #[])) rfl (by kernel_rfl) (by intro j hj; cases hj) (fun _ _ d _ _ => by cases d <;> exact Iff.rfl) fun wd hb => ?_
  replace EY := hid (EY.out.trans hb)
  clear hb
  refine WE.pure (d := some 11) rfl rfl (by rfl) (v := (.pointer (some ⟨gV5, 0, none⟩))) (fun w' hk => by go_simp) ?_
  simp only [Act.put, pA, pB, pC]
  refine WE.pure (d := some 12) rfl rfl (by rfl) (v := (.agg #[.bool g11, .slice A11 n11 c11])) (fun w' hk => ?_) ?_
  · obtain ⟨ce0, ce1, ce2, ce3⟩ := ((V5.out.up EY.out).up hk).c4; go_simp
  simp only [Act.put, pA, pB, pC]
  refine WE.pure (d := some 13) rfl rfl (by rfl) (v := (.pointer (some ⟨gV6, 2, none⟩))) (fun w' hk => by go_simp) ?_
  simp only [Act.put, pA, pB, pC]
  refine WE.pure (d := some 14) rfl rfl (by rfl) (v := (.agg #[.bool false, .slice B12 m12 d12])) (fun w' hk => ?_) ?_
  · obtain ⟨ce0, ce1, ce2, ce3⟩ := ((V6.out.up EY.out).up hk).c4; go_simp
  simp only [Act.put, pA, pB, pC]
  refine WE.pure (d := some 16) rfl rfl (by rfl) (v := (.pointer (some ⟨gV6, 0, none⟩))) (fun w' hk => by go_simp) ?_
  simp only [Act.put, pA, pB, pC]
  refine WE.pure (d := some 17) rfl rfl (by rfl) (v := (.agg #[.bool g12, .slice A12 n12 c12])) (fun w' hk => ?_) ?_
  · obtain ⟨ce0, ce1, ce2, ce3⟩ := ((V6.out.up EY.out).up hk).c4; go_simp
  simp only [Act.put, pA, pB, pC]
  refine WE.pure (d := some 18) rfl rfl (by rfl) (v := (.pointer (some ⟨gV5, 2, none⟩))) (fun w' hk => by go_simp) ?_
  simp only [Act.put, pA, pB, pC]
  refine WE.pure (d := some 19) rfl rfl (by rfl) (v := (.agg #[.bool false, .slice B11 m11 d11])) (fun w' hk => ?_) ?_
  · obtain ⟨ce0, ce1, ce2, ce3⟩ := ((V5.out.up EY.out).up hk).c4; go_simp
  simp only [Act.put, pA, pB, pC]
  refine WE.pure (d := some 22) rfl rfl (by rfl) (v := (.pointer (some ⟨gV5, 2, none⟩))) (fun w' hk => by go_simp) ?_
  simp only [Act.put, pA, pB, pC]
  refine WE.pure (d := some 23) rfl rfl (by rfl) (v := (.agg #[.bool false, .slice B11 m11 d11])) (fun w' hk => ?_) ?_
  · obtain ⟨ce0, ce1, ce2, ce3⟩ := ((V5.out.up EY.out).up hk).c4; go_simp
  simp only [Act.put, pA, pB, pC]
  refine WE.pure (d := some 24) rfl rfl (by rfl) (v := (.pointer (some ⟨gV6, 2, none⟩))) (fun w' hk => by go_simp) ?_
  simp only [Act.put, pA, pB, pC]
  refine WE.pure (d := some 25) rfl rfl (by rfl) (v := (.agg #[.bool false, .slice B12 m12 d12])) (fun w' hk => ?_) ?_
  · obtain ⟨ce0, ce1, ce2, ce3⟩ := ((V6.out.up EY.out).up hk).c4; go_simp
  simp only [Act.put, pA, pB, pC]
  refine WE.call (d := some 15) rfl rfl (by rfl) (by go_simp) ((times_r (P11.out.up EY.out).worth (D12.out.up EY.out).worth (by have := HJ.out; have := HJ1.out; omega) (by have := HJ.out; have := HJ1.out; omega)).mono ?_)
  rintro e wn ⟨v1, rfl, x1, hb⟩
  obtain ⟨g13, A13, n13, c13, rfl⟩ := x1.shape
  refine ⟨_, rfl, hb, ?_⟩
  replace EY := hid (EY.out.trans hb)
  have Q13 := hid x1
  clear hb x1
  simp only [Act.put, pA, pB, pC]
  refine WE.call (d := some 20) rfl rfl (by rfl) (by go_simp) ((times_r (P12.out.up EY.out).worth (D11.out.up EY.out).worth (by have := HJ.out; have := HJ1.out; omega) (by have := HJ.out; have := HJ1.out; omega)).mono ?_)
  rintro e wn ⟨v1, rfl, x1, hb⟩
  obtain ⟨g14, A14, n14, c14, rfl⟩ := x1.shape
  refine ⟨_, rfl, hb, ?_⟩
  replace EY := hid (EY.out.trans hb)
  replace Q13 := hid (Q13.out.up hb)
  have Q14 := hid x1
  clear hb x1
  simp only [Act.put, pA, pB, pC]
  refine WE.call (d := some 21) rfl rfl (by rfl) (by go_simp) ((less_r Q13.out.worth Q14.out.worth (by have := HJ.out; have := HJ1.out; omega) (by have := HJ.out; have := HJ1.out; omega)).mono ?_)
  rintro e wn ⟨v1, rfl, x1, hb⟩
  obtain ⟨g15, A15, n15, c15, rfl⟩ := x1.shape
  refine ⟨_, rfl, hb, ?_⟩
  replace EY := hid (EY.out.trans hb)
  have Q15 := hid x1
  clear hb x1
  simp only [Act.put, pA, pB, pC]
  clear Q13
  clear Q14
  refine WE.call (d := some 26) rfl rfl (by rfl) (by go_simp) ((times_r (D11.out.up EY.out).worth (D12.out.up EY.out).worth (by have := HJ.out; have := HJ1.out; omega) (by have := HJ.out; have := HJ1.out; omega)).mono ?_)
  rintro e wn ⟨v1, rfl, x1, hb⟩
  obtain ⟨g16, A16, n16, c16, rfl⟩ := x1.shape
  refine ⟨_, rfl, hb, ?_⟩
  replace EY := hid (EY.out.trans hb)
  replace Q15 := hid (Q15.out.up hb)
  have Q16 := hid x1
  clear hb x1
  simp only [Act.put, pA, pB, pC]
  refine WE.call (d := some 27) rfl rfl (by rfl) (by go_simp) ((shortened_r (Worth.wide Q15.out.worth (k := (2 * j + 2)) (by have := HJ.out; have := HJ1.out; omega)) (Worth.wide Q16.out.worth (k := (2 * j + 2)) (by have := HJ.out; have := HJ1.out; omega)) (by have := HJ.out; have := HJ1.out; omega)).mono ?_)
  rintro e wn ⟨v1, rfl, x1, hb⟩
  replace x1 := x1.to (M.of_sub x y)
  obtain ⟨g17, A17, n17, c17, B17, m17, d17, rfl, p1, q1⟩ := x1
  refine ⟨_, rfl, hb, ?_⟩
  replace EY := hid (EY.out.trans hb)
  have P17 := hid p1
  have D17 := hid q1
  clear hb p1 q1
  simp only [Act.put, pA, pB, pC]
  clear Q15
  clear Q16
  refine WE.call (d := some 28) rfl rfl (by rfl) (by go_simp) ((told_r (InR.mk P17.out D17.out)).mono ?_)
  rintro e wn ⟨v1, rfl, x1, hb⟩
  obtain ⟨g18, A18, n18, c18, B18, m18, d18, rfl, p1, q1⟩ := x1
  refine ⟨_, rfl, hb, ?_⟩
  replace EY := hid (EY.out.trans hb)
  have P18 := hid p1
  have D18 := hid q1
  clear hb p1 q1
  simp only [Act.put, pA, pB, pC]
  clear P17
  clear D17
  refine WE.store3 (g := (w.heap.size + 2)) (x := .bool g18) (y := .slice A18 n18 c18) (z := .slice B18 m18 d18) (t := 26) rfl rfl (by rfl) (fun w hb => ?_) (BX2.out.up EY.out) (by rfl) fun ws hk hs => ?_
  · obtain ⟨ce0, ce1, ce2⟩ := hb.c3; obtain ⟨f0, f1, f2⟩ := hb.f3; go_simp
  intro hbx
  replace E := hid ((E.out.trans EY.out).keptG hk (by simp))
  replace BX2 := hid hbx
  replace P18 := hid (P18.out.kz hs)
  replace D18 := hid (D18.out.kz hs)
  clear hk hs hbx
  replace EY := hid (Ext.refl ws)
  refine WE.done ?_
  have r0 := (BX2.out.up EY.out).cell (o := 0) (v := .bool g18) rfl
  have r1 := (BX2.out.up EY.out).cell (o := 1) (v := .slice A18 n18 c18) rfl
  have r2 := (BX2.out.up EY.out).cell (o := 2) (v := .slice B18 m18 d18) rfl
  repeat go_step
  exact bodyPost_ret (v := .agg #[.bool g18, .slice A18 n18 c18, .slice B18 m18 d18]) (by simp [results, Tryz.results27, go_sem, r0, r1, r2]) rfl ⟨_, rfl, (IsR.mk (P18.out.up EY.out) (D18.out.up EY.out)).wide (by have := HJ.out; have := HJ1.out; omega), (E.out.trans EY.out)⟩

set_option maxHeartbeats 2000000 in
theorem fMul_r {w : World} {u v : Value} {x y : Rat} {j : Nat} (h1 : WorthR w u x j) (h2 : WorthR w v y j) (hj : j ≤ 60) (hj1 : 1 ≤ j) :
    Calls Tryz.prog 28 #[u, v] w (GivesR w (x * y) (2 * j + 5)) := by
  obtain ⟨g1, A1, n1, c1, B1, m1, d1, rfl⟩ := h1.shape
  have R1 := hid h1
  obtain ⟨g2, A2, n2, c2, B2, m2, d2, rfl⟩ := h2.shape
  have R2 := hid h2
  have HJ := hid hj
  have HJ1 := hid hj1
  clear h1 h2 hj hj1
  go_enter Tryz.func28, Tryz.ntmps28
  go_upto_region 1 with (fail)
  have E := hid ((((Ext.refl w).alloc' (.cells #[.bool g1, .slice A1 n1 c1, .slice B1 m1 d1] 26)).alloc' (.cells #[.bool g2, .slice A2 n2 c2, .slice B2 m2 d2] 26)).alloc' (.cells #[.bool false, .slice none 0 0, .slice none 0 0] 26))
  have BX0 : Hid (Box (((w.alloc (.cells #[.bool g1, .slice A1 n1 c1, .slice B1 m1 d1] 26)).alloc (.cells #[.bool g2, .slice A2 n2 c2, .slice B2 m2 d2] 26)).alloc (.cells #[.bool false, .slice none 0 0, .slice none 0 0] 26)) (w.heap.size) #[.bool g1, .slice A1 n1 c1, .slice B1 m1 d1] 26) := hid (((Box.at_ (w := w) #[.bool g1, .slice A1 n1 c1, .slice B1 m1 d1] 26 (by simp)).alloc (.cells #[.bool g2, .slice A2 n2 c2, .slice B2 m2 d2] 26)).alloc (.cells #[.bool false, .slice none 0 0, .slice none 0 0] 26))
  have BX1 : Hid (Box (((w.alloc (.cells #[.bool g1, .slice A1 n1 c1, .slice B1 m1 d1] 26)).alloc (.cells #[.bool g2, .slice A2 n2 c2, .slice B2 m2 d2] 26)).alloc (.cells #[.bool false, .slice none 0 0, .slice none 0 0] 26)) (w.heap.size + 1) #[.bool g2, .slice A2 n2 c2, .slice B2 m2 d2] 26) := hid ((Box.at_ (w := (w.alloc (.cells #[.bool g1, .slice A1 n1 c1, .slice B1 m1 d1] 26))) #[.bool g2, .slice A2 n2 c2, .slice B2 m2 d2] 26 (by simp)).alloc (.cells #[.bool false, .slice none 0 0, .slice none 0 0] 26))
  have BX2 : Hid (Box (((w.alloc (.cells #[.bool g1, .slice A1 n1 c1, .slice B1 m1 d1] 26)).alloc (.cells #[.bool g2, .slice A2 n2 c2, .slice B2 m2 d2] 26)).alloc (.cells #[.bool false, .slice none 0 0, .slice none 0 0] 26)) (w.heap.size + 2) #[.bool false, .slice none 0 0, .slice none 0 0] 26) := hid (Box.at_ (w := ((w.alloc (.cells #[.bool g1, .slice A1 n1 c1, .slice B1 m1 d1] 26)).alloc (.cells #[.bool g2, .slice A2 n2 c2, .slice B2 m2 d2] 26))) #[.bool false, .slice none 0 0, .slice none 0 0] 26 (by simp))
  replace R1 := hid (R1.out.up E.out)
  replace R2 := hid (R2.out.up E.out)
  refine wp_region_E [(0, 0), (2, 0), (1, 2), (3, 2), (4, 3), (5, 3), (6, 4), (7, 4)] (fun _ => (51, #[.bool false, .slice none 0 0, .bool false, .slice none 0 0])) rfl (by kernel_rfl) (by intro j hj; simp [pend] at hj; rcases hj with rfl | rfl <;> exact ⟨_, rfl, rfl, rfl, fun w => by go_simp⟩) (fun _ _ d _ _ => by cases d <;> exact Iff.rfl) fun wd hb => ?_
  replace E := hid (E.out.trans hb)
  replace BX0 := hid (BX0.out.up hb)
  replace BX1 := hid (BX1.out.up hb)
  replace BX2 := hid (BX2.out.up hb)
  replace R1 := hid (R1.out.up hb)
  replace R2 := hid (R2.out.up hb)
  clear hb
  have HL1BX0 := hid BX0.out.lt
  have HL1BX1 := hid BX1.out.lt
  have HL1BX2 := hid BX2.out.lt
  have HW1 := hid (show w.heap.size ≤ wd.heap.size from E.out.size)
  have EY := hid (Ext.refl wd)
  refine WE.pure (d := some 7) rfl rfl (by rfl) (v := (.agg #[.bool g1, .slice A1 n1 c1, .slice B1 m1 d1])) (fun w' hk => ?_) ?_
  · obtain ⟨ce0, ce1, ce2⟩ := ((BX0.out.up EY.out).up hk).c3; go_simp
  simp only [Act.put, pA, pB, pC]
  refine WE.pure (d := some 9) rfl rfl (by rfl) (v := (.agg #[.bool g2, .slice A2 n2 c2, .slice B2 m2 d2])) (fun w' hk => ?_) ?_
  · obtain ⟨ce0, ce1, ce2⟩ := ((BX1.out.up EY.out).up hk).c3; go_simp
  simp only [Act.put, pA, pB, pC]
  refine WE.callR (d := some 8) rfl rfl (by rfl) (f := 39) (args := #[(.agg #[.bool g1, .slice A1 n1 c1, .slice B1 m1 d1])]) (fun w => by go_simp) (fun wx hx0 => ?_)
  replace EY := hid (EY.out.trans hx0)
  clear hx0
  refine (read_r (R1.out.up EY.out) (by have := HJ.out; have := HJ1.out; omega) (by have := HJ.out; have := HJ1.out; omega)).mono ?_
  rintro e wn ⟨v1, rfl, x1, hb⟩
  obtain ⟨g11, A11, n11, c11, B11, m11, d11, rfl, p1, q1⟩ := x1
  refine ⟨_, rfl, hb, ?_⟩
  replace EY := hid (EY.out.trans hb)
  have P11 := hid p1
  have D11 := hid q1
  clear hb p1 q1
  simp only [Act.put, pA, pB, pC]
  refine WE.callR (d := some 10) rfl rfl (by rfl) (f := 39) (args := #[(.agg #[.bool g2, .slice A2 n2 c2, .slice B2 m2 d2])]) (fun w => by go_simp) (fun wx hx0 => ?_)
  replace EY := hid (EY.out.trans hx0)
  replace P11 := hid (P11.out.up hx0)
  replace D11 := hid (D11.out.up hx0)
  clear hx0
  refine (read_r (R2.out.up EY.out) (by have := HJ.out; have := HJ1.out; omega) (by have := HJ.out; have := HJ1.out; omega)).mono ?_
  rintro e wn ⟨v1, rfl, x1, hb⟩
  obtain ⟨g12, A12, n12, c12, B12, m12, d12, rfl, p1, q1⟩ := x1
  refine ⟨_, rfl, hb, ?_⟩
  replace EY := hid (EY.out.trans hb)
  replace P11 := hid (P11.out.up hb)
  replace D11 := hid (D11.out.up hb)
  have P12 := hid p1
  have D12 := hid q1
  clear hb p1 q1
  simp only [Act.put, pA, pB, pC]
  refine WE.var (d := some 5) rfl fun gV5 wv hx0 hbox hge hng => ?_
  have HNV5BX2 := hid (show gV5 ≠ (w.heap.size + 2) by have := HL1BX2.out; omega)
  have HGV5 := hid (show w.heap.size ≤ gV5 by have := HW1.out; omega)
  replace EY := hid (EY.out.trans hx0)
  replace P11 := hid (P11.out.up hx0)
  replace D11 := hid (D11.out.up hx0)
  replace P12 := hid (P12.out.up hx0)
  replace D12 := hid (D12.out.up hx0)
  have V5 : Hid (Box wv gV5 #[.bool false, .slice none 0 0, .bool false, .slice none 0 0] 51) := hid hbox
  clear hx0 hbox hge hng
  simp only [Act.put, pA, pB, pC]
  refine WE.var (d := some 6) rfl fun gV6 wv hx0 hbox hge hng => ?_
  have HNV6BX2 := hid (show gV6 ≠ (w.heap.size + 2) by have := HL1BX2.out; omega)
  have HNV6V5 := hid (show gV6 ≠ gV5 by intro e; exact hng (by simp [e]))
  have HGV6 := hid (show w.heap.size ≤ gV6 by have := HW1.out; omega)
  replace EY := hid (EY.out.trans hx0)
  replace V5 := hid (V5.out.up hx0)
  replace P11 := hid (P11.out.up hx0)
  replace D11 := hid (D11.out.up hx0)
  replace P12 := hid (P12.out.up hx0)
  replace D12 := hid (D12.out.up hx0)
  have V6 : Hid (Box wv gV6 #[.bool false, .slice none 0 0, .bool false, .slice none 0 0] 51) := hid hbox
  clear hx0 hbox hge hng
  simp only [Act.put, pA, pB, pC]
  refine WE.store4 (g := gV5) (x := .bool g11) (y := .slice A11 n11 c11) (z := .bool false) (q := .slice B11 m11 d11) (t := 51) rfl rfl (by rfl) (fun w hb => ?_) V5.out (by rfl) fun ws hk hs => ?_
  · obtain ⟨ce0, ce1, ce2, ce3⟩ := hb.c4; obtain ⟨f0, f1, f2, f3⟩ := hb.f4; go_simp
  intro hbx
  replace E := hid ((E.out.trans EY.out).keptG hk HGV5.out)
  replace BX2 := hid ((BX2.out.up EY.out).kept hk (by simpa using HNV5BX2.out.symm))
  replace V5 := hid hbx
  replace V6 := hid (V6.out.kept hk (by simpa using HNV6V5.out))
  replace P11 := hid (P11.out.kz hs)
  replace D11 := hid (D11.out.kz hs)
  replace P12 := hid (P12.out.kz hs)
  replace D12 := hid (D12.out.kz hs)
  clear hk hs hbx
  replace EY := hid (Ext.refl ws)
  refine WE.store4 (g := gV6) (x := .bool g12) (y := .slice A12 n12 c12) (z := .bool false) (q := .slice B12 m12 d12) (t := 51) rfl rfl (by rfl) (fun w hb => ?_) (V6.out.up EY.out) (by rfl) fun ws hk hs => ?_
  · obtain ⟨ce0, ce1, ce2, ce3⟩ := hb.c4; obtain ⟨f0, f1, f2, f3⟩ := hb.f4; go_simp
  intro hbx
  replace E := hid ((E.out.trans EY.out).keptG hk HGV6.out)
  replace BX2 := hid ((BX2.out.up EY.out).kept hk (by simpa using HNV6BX2.out.symm))
  replace V5 := hid ((V5.out.up EY.out).kept hk (by simpa using HNV6V5.out.symm))
  replace V6 := hid hbx
  replace P11 := hid ((P11.out.up EY.out).kz hs)
  replace D11 := hid ((D11.out.up EY.out).kz hs)
  replace P12 := hid ((P12.out.up EY.out).kz hs)
  replace D12 := hid ((D12.out.up EY.out).kz hs)
  clear hk hs hbx
  replace EY := hid (Ext.refl ws)
  refine WE.done ?_
  go_upto_region 2 with (fail)
  refine wp_region_E [(0, 0), (1, 0), (2, 0), (3, 0), (5, 0), (6, 0), (7, 0), (8, 0), (4, 1), (9, 1), (10, 1), (11, 1), (12, 4)] (fun _ => (0, #[])) rfl (by kernel_rfl) (by intro j hj; cases hj) (fun _ _ d _ _ => by cases d <;> exact Iff.rfl) fun wd hb => ?_
  replace EY := hid (EY.out.trans hb)
  clear hb
  refine WE.pure (d := some 11) rfl rfl (by rfl) (v := (.pointer (some ⟨gV5, 0, none⟩))) (fun w' hk => by go_simp) ?_
  simp only [Act.put, pA, pB, pC]
  refine WE.pure (d := some 12) rfl rfl (by rfl) (v := (.agg #[.bool g11, .slice A11 n11 c11])) (fun w' hk => ?_) ?_
  · obtain ⟨ce0, ce1, ce2, ce3⟩ := ((V5.out.up EY.out).up hk).c4; go_simp
  simp only [Act.put, pA, pB, pC]
  refine WE.pure (d := some 13) rfl rfl (by rfl) (v := (.pointer (some ⟨gV6, 0, none⟩))) (fun w' hk => by go_simp) ?_
  simp only [Act.put, pA, pB, pC]
  refine WE.pure (d := some 14) rfl rfl (by rfl) (v := (.agg #[.bool g12, .slice A12 n12 c12])) (fun w' hk => ?_) ?_
  · obtain ⟨ce0, ce1, ce2, ce3⟩ := ((V6.out.up EY.out).up hk).c4; go_simp
  simp only [Act.put, pA, pB, pC]
  refine WE.pure (d := some 16) rfl rfl (by rfl) (v := (.pointer (some ⟨gV5, 2, none⟩))) (fun w' hk => by go_simp) ?_
  simp only [Act.put, pA, pB, pC]
  refine WE.pure (d := some 17) rfl rfl (by rfl) (v := (.agg #[.bool false, .slice B11 m11 d11])) (fun w' hk => ?_) ?_
  · obtain ⟨ce0, ce1, ce2, ce3⟩ := ((V5.out.up EY.out).up hk).c4; go_simp
  simp only [Act.put, pA, pB, pC]
  refine WE.pure (d := some 18) rfl rfl (by rfl) (v := (.pointer (some ⟨gV6, 2, none⟩))) (fun w' hk => by go_simp) ?_
  simp only [Act.put, pA, pB, pC]
  refine WE.pure (d := some 19) rfl rfl (by rfl) (v := (.agg #[.bool false, .slice B12 m12 d12])) (fun w' hk => ?_) ?_
  · obtain ⟨ce0, ce1, ce2, ce3⟩ := ((V6.out.up EY.out).up hk).c4; go_simp
  simp only [Act.put, pA, pB, pC]
  refine WE.call (d := some 15) rfl rfl (by rfl) (by go_simp) ((times_r (P11.out.up EY.out).worth (P12.out.up EY.out).worth (by have := HJ.out; have := HJ1.out; omega) (by have := HJ.out; have := HJ1.out; omega)).mono ?_)
  rintro e wn ⟨v1, rfl, x1, hb⟩
  obtain ⟨g13, A13, n13, c13, rfl⟩ := x1.shape
  refine ⟨_, rfl, hb, ?_⟩
  replace EY := hid (EY.out.trans hb)
  have Q13 := hid x1
  clear hb x1
  simp only [Act.put, pA, pB, pC]
  refine WE.call (d := some 20) rfl rfl (by rfl) (by go_simp) ((times_r (D11.out.up EY.out).worth (D12.out.up EY.out).worth (by have := HJ.out; have := HJ1.out; omega) (by have := HJ.out; have := HJ1.out; omega)).mono ?_)
  rintro e wn ⟨v1, rfl, x1, hb⟩
  obtain ⟨g14, A14, n14, c14, rfl⟩ := x1.shape
  refine ⟨_, rfl, hb, ?_⟩
  replace EY := hid (EY.out.trans hb)
  replace Q13 := hid (Q13.out.up hb)
  have Q14 := hid x1
  clear hb x1
  simp only [Act.put, pA, pB, pC]
  refine WE.call (d := some 21) rfl rfl (by rfl) (by go_simp) ((shortened_r (Worth.wide Q13.out.worth (k := (2 * j + 2)) (by have := HJ.out; have := HJ1.out; omega)) (Worth.wide Q14.out.worth (k := (2 * j + 2)) (by have := HJ.out; have := HJ1.out; omega)) (by have := HJ.out; have := HJ1.out; omega)).mono ?_)
  rintro e wn ⟨v1, rfl, x1, hb⟩
  replace x1 := x1.to (M.of_mul x y)
  obtain ⟨g15, A15, n15, c15, B15, m15, d15, rfl, p1, q1⟩ := x1
  refine ⟨_, rfl, hb, ?_⟩
  replace EY := hid (EY.out.trans hb)
  have P15 := hid p1
  have D15 := hid q1
  clear hb p1 q1
  simp only [Act.put, pA, pB, pC]
  clear Q13
  clear Q14
  refine WE.call (d := some 22) rfl rfl (by rfl) (by go_simp) ((told_r (InR.mk P15.out D15.out)).mono ?_)
  rintro e wn ⟨v1, rfl, x1, hb⟩
  obtain ⟨g16, A16, n16, c16, B16, m16, d16, rfl, p1, q1⟩ := x1
  refine ⟨_, rfl, hb, ?_⟩
  replace EY := hid (EY.out.trans hb)
  have P16 := hid p1
  have D16 := hid q1
  clear hb p1 q1
  simp only [Act.put, pA, pB, pC]
  clear P15
  clear D15
  refine WE.store3 (g := (w.heap.size + 2)) (x := .bool g16) (y := .slice A16 n16 c16) (z := .slice B16 m16 d16) (t := 26) rfl rfl (by rfl) (fun w hb => ?_) (BX2.out.up EY.out) (by rfl) fun ws hk hs => ?_
  · obtain ⟨ce0, ce1, ce2⟩ := hb.c3; obtain ⟨f0, f1, f2⟩ := hb.f3; go_simp
  intro hbx
  replace E := hid ((E.out.trans EY.out).keptG hk (by simp))
  replace BX2 := hid hbx
  replace P16 := hid (P16.out.kz hs)
  replace D16 := hid (D16.out.kz hs)
  clear hk hs hbx
  replace EY := hid (Ext.refl ws)
  refine WE.done ?_
  have r0 := (BX2.out.up EY.out).cell (o := 0) (v := .bool g16) rfl
  have r1 := (BX2.out.up EY.out).cell (o := 1) (v := .slice A16 n16 c16) rfl
  have r2 := (BX2.out.up EY.out).cell (o := 2) (v := .slice B16 m16 d16) rfl
  repeat go_step
  exact bodyPost_ret (v := .agg #[.bool g16, .slice A16 n16 c16, .slice B16 m16 d16]) (by simp [results, Tryz.results28, go_sem, r0, r1, r2]) rfl ⟨_, rfl, (IsR.mk (P16.out.up EY.out) (D16.out.up EY.out)).wide (by have := HJ.out; have := HJ1.out; omega), (E.out.trans EY.out)⟩

set_option maxHeartbeats 2000000 in
theorem fDiv_zero {w : World} {u v : Value} {x y : Rat} {j : Nat} (h1 : WorthR w u x j) (h2 : WorthR w v y j) (hj : j ≤ 60) (hj1 : 1 ≤ j) (hy : y.num.sign = 0) :
    Calls Tryz.prog 9 #[u, v] w (fun e w' => ∃ v, e = .returned (.tuple #[v, .int .i64 12]) ∧ IsR w' v (x / y) (2 * j + 5) ∧ Ext w w') := by
  obtain ⟨g1, A1, n1, c1, B1, m1, d1, rfl⟩ := h1.shape
  have R1 := hid h1
  obtain ⟨g2, A2, n2, c2, B2, m2, d2, rfl⟩ := h2.shape
  have R2 := hid h2
  have HJ := hid hj
  have HJ1 := hid hj1
  obtain ⟨s, hs⟩ : ∃ s : Int, y.num.sign = s := ⟨_, rfl⟩
  have HS := hid hs
  have hs0 : (s == 0) = true := by rw [← hs]; rw [hy]; rfl
  clear hs hy
  clear h1 h2 hj hj1
  go_enter Tryz.func9, Tryz.ntmps9
  go_upto_region 1 with (fail)
  have E := hid ((((Ext.refl w).alloc' (.cells #[.bool g1, .slice A1 n1 c1, .slice B1 m1 d1] 26)).alloc' (.cells #[.bool g2, .slice A2 n2 c2, .slice B2 m2 d2] 26)).alloc' (.cells #[.bool false, .slice none 0 0, .slice none 0 0] 26))
  have BX0 : Hid (Box (((w.alloc (.cells #[.bool g1, .slice A1 n1 c1, .slice B1 m1 d1] 26)).alloc (.cells #[.bool g2, .slice A2 n2 c2, .slice B2 m2 d2] 26)).alloc (.cells #[.bool false, .slice none 0 0, .slice none 0 0] 26)) (w.heap.size) #[.bool g1, .slice A1 n1 c1, .slice B1 m1 d1] 26) := hid (((Box.at_ (w := w) #[.bool g1, .slice A1 n1 c1, .slice B1 m1 d1] 26 (by simp)).alloc (.cells #[.bool g2, .slice A2 n2 c2, .slice B2 m2 d2] 26)).alloc (.cells #[.bool false, .slice none 0 0, .slice none 0 0] 26))
  have BX1 : Hid (Box (((w.alloc (.cells #[.bool g1, .slice A1 n1 c1, .slice B1 m1 d1] 26)).alloc (.cells #[.bool g2, .slice A2 n2 c2, .slice B2 m2 d2] 26)).alloc (.cells #[.bool false, .slice none 0 0, .slice none 0 0] 26)) (w.heap.size + 1) #[.bool g2, .slice A2 n2 c2, .slice B2 m2 d2] 26) := hid ((Box.at_ (w := (w.alloc (.cells #[.bool g1, .slice A1 n1 c1, .slice B1 m1 d1] 26))) #[.bool g2, .slice A2 n2 c2, .slice B2 m2 d2] 26 (by simp)).alloc (.cells #[.bool false, .slice none 0 0, .slice none 0 0] 26))
  have BX2 : Hid (Box (((w.alloc (.cells #[.bool g1, .slice A1 n1 c1, .slice B1 m1 d1] 26)).alloc (.cells #[.bool g2, .slice A2 n2 c2, .slice B2 m2 d2] 26)).alloc (.cells #[.bool false, .slice none 0 0, .slice none 0 0] 26)) (w.heap.size + 2) #[.bool false, .slice none 0 0, .slice none 0 0] 26) := hid (Box.at_ (w := ((w.alloc (.cells #[.bool g1, .slice A1 n1 c1, .slice B1 m1 d1] 26)).alloc (.cells #[.bool g2, .slice A2 n2 c2, .slice B2 m2 d2] 26))) #[.bool false, .slice none 0 0, .slice none 0 0] 26 (by simp))
  replace R1 := hid (R1.out.up E.out)
  replace R2 := hid (R2.out.up E.out)
  refine wp_region_E [(0, 0), (2, 0), (1, 2), (3, 2), (4, 3), (5, 3), (6, 4), (7, 4)] (fun _ => (51, #[.bool false, .slice none 0 0, .bool false, .slice none 0 0])) rfl (by kernel_rfl) (by intro j hj; simp [pend] at hj; rcases hj with rfl | rfl <;> exact ⟨_, rfl, rfl, rfl, fun w => by go_simp⟩) (fun _ _ d _ _ => by cases d <;> exact Iff.rfl) fun wd hb => ?_
  replace E := hid (E.out.trans hb)
  replace BX0 := hid (BX0.out.up hb)
  replace BX1 := hid (BX1.out.up hb)
  replace BX2 := hid (BX2.out.up hb)
  replace R1 := hid (R1.out.up hb)
  replace R2 := hid (R2.out.up hb)
  clear hb
  have HL1BX0 := hid BX0.out.lt
  have HL1BX1 := hid BX1.out.lt
  have HL1BX2 := hid BX2.out.lt
  have HW1 := hid (show w.heap.size ≤ wd.heap.size from E.out.size)
  have EY := hid (Ext.refl wd)
  refine WE.pure (d := some 9) rfl rfl (by rfl) (v := (.agg #[.bool g1, .slice A1 n1 c1, .slice B1 m1 d1])) (fun w' hk => ?_) ?_
  · obtain ⟨ce0, ce1, ce2⟩ := ((BX0.out.up EY.out).up hk).c3; go_simp
  simp only [Act.put, pA, pB, pC]
  refine WE.pure (d := some 11) rfl rfl (by rfl) (v := (.agg #[.bool g2, .slice A2 n2 c2, .slice B2 m2 d2])) (fun w' hk => ?_) ?_
  · obtain ⟨ce0, ce1, ce2⟩ := ((BX1.out.up EY.out).up hk).c3; go_simp
  simp only [Act.put, pA, pB, pC]
  refine WE.callR (d := some 10) rfl rfl (by rfl) (f := 39) (args := #[(.agg #[.bool g1, .slice A1 n1 c1, .slice B1 m1 d1])]) (fun w => by go_simp) (fun wx hx0 => ?_)
  replace EY := hid (EY.out.trans hx0)
  clear hx0
  refine (read_r (R1.out.up EY.out) (by have := HJ.out; have := HJ1.out; omega) (by have := HJ.out; have := HJ1.out; omega)).mono ?_
  rintro e wn ⟨v1, rfl, x1, hb⟩
  obtain ⟨g11, A11, n11, c11, B11, m11, d11, rfl, p1, q1⟩ := x1
  refine ⟨_, rfl, hb, ?_⟩
  replace EY := hid (EY.out.trans hb)
  have P11 := hid p1
  have D11 := hid q1
  clear hb p1 q1
  simp only [Act.put, pA, pB, pC]
  refine WE.callR (d := some 12) rfl rfl (by rfl) (f := 39) (args := #[(.agg #[.bool g2, .slice A2 n2 c2, .slice B2 m2 d2])]) (fun w => by go_simp) (fun wx hx0 => ?_)
  replace EY := hid (EY.out.trans hx0)
  replace P11 := hid (P11.out.up hx0)
  replace D11 := hid (D11.out.up hx0)
  clear hx0
  refine (read_r (R2.out.up EY.out) (by have := HJ.out; have := HJ1.out; omega) (by have := HJ.out; have := HJ1.out; omega)).mono ?_
  rintro e wn ⟨v1, rfl, x1, hb⟩
  obtain ⟨g12, A12, n12, c12, B12, m12, d12, rfl, p1, q1⟩ := x1
  refine ⟨_, rfl, hb, ?_⟩
  replace EY := hid (EY.out.trans hb)
  replace P11 := hid (P11.out.up hb)
  replace D11 := hid (D11.out.up hb)
  have P12 := hid p1
  have D12 := hid q1
  clear hb p1 q1
  simp only [Act.put, pA, pB, pC]
  refine WE.var (d := some 6) rfl fun gV6 wv hx0 hbox hge hng => ?_
  have HNV6BX0 := hid (show gV6 ≠ (w.heap.size) by have := HL1BX0.out; omega)
  have HNV6BX1 := hid (show gV6 ≠ (w.heap.size + 1) by have := HL1BX1.out; omega)
  have HNV6BX2 := hid (show gV6 ≠ (w.heap.size + 2) by have := HL1BX2.out; omega)
  have HGV6 := hid (show w.heap.size ≤ gV6 by have := HW1.out; omega)
  replace EY := hid (EY.out.trans hx0)
  replace P11 := hid (P11.out.up hx0)
  replace D11 := hid (D11.out.up hx0)
  replace P12 := hid (P12.out.up hx0)
  replace D12 := hid (D12.out.up hx0)
  have V6 : Hid (Box wv gV6 #[.bool false, .slice none 0 0, .bool false, .slice none 0 0] 51) := hid hbox
  clear hx0 hbox hge hng
  simp only [Act.put, pA, pB, pC]
  refine WE.var (d := some 7) rfl fun gV7 wv hx0 hbox hge hng => ?_
  have HNV7BX0 := hid (show gV7 ≠ (w.heap.size) by have := HL1BX0.out; omega)
  have HNV7BX1 := hid (show gV7 ≠ (w.heap.size + 1) by have := HL1BX1.out; omega)
  have HNV7BX2 := hid (show gV7 ≠ (w.heap.size + 2) by have := HL1BX2.out; omega)
  have HNV7V6 := hid (show gV7 ≠ gV6 by intro e; exact hng (by simp [e]))
  have HGV7 := hid (show w.heap.size ≤ gV7 by have := HW1.out; omega)
  replace EY := hid (EY.out.trans hx0)
  replace V6 := hid (V6.out.up hx0)
  replace P11 := hid (P11.out.up hx0)
  replace D11 := hid (D11.out.up hx0)
  replace P12 := hid (P12.out.up hx0)
  replace D12 := hid (D12.out.up hx0)
  have V7 : Hid (Box wv gV7 #[.bool false, .slice none 0 0, .bool false, .slice none 0 0] 51) := hid hbox
  clear hx0 hbox hge hng
  simp only [Act.put, pA, pB, pC]
  refine WE.store4 (g := gV6) (x := .bool g11) (y := .slice A11 n11 c11) (z := .bool false) (q := .slice B11 m11 d11) (t := 51) rfl rfl (by rfl) (fun w hb => ?_) V6.out (by rfl) fun ws hk hs => ?_
  · obtain ⟨ce0, ce1, ce2, ce3⟩ := hb.c4; obtain ⟨f0, f1, f2, f3⟩ := hb.f4; go_simp
  intro hbx
  replace E := hid ((E.out.trans EY.out).keptG hk HGV6.out)
  replace BX0 := hid ((BX0.out.up EY.out).kept hk (by simpa using HNV6BX0.out.symm))
  replace BX1 := hid ((BX1.out.up EY.out).kept hk (by simpa using HNV6BX1.out.symm))
  replace BX2 := hid ((BX2.out.up EY.out).kept hk (by simpa using HNV6BX2.out.symm))
  replace V6 := hid hbx
  replace V7 := hid (V7.out.kept hk (by simpa using HNV7V6.out))
  replace P11 := hid (P11.out.kz hs)
  replace D11 := hid (D11.out.kz hs)
  replace P12 := hid (P12.out.kz hs)
  replace D12 := hid (D12.out.kz hs)
  clear hk hs hbx
  replace EY := hid (Ext.refl ws)
  refine WE.store4 (g := gV7) (x := .bool g12) (y := .slice A12 n12 c12) (z := .bool false) (q := .slice B12 m12 d12) (t := 51) rfl rfl (by rfl) (fun w hb => ?_) (V7.out.up EY.out) (by rfl) fun ws hk hs => ?_
  · obtain ⟨ce0, ce1, ce2, ce3⟩ := hb.c4; obtain ⟨f0, f1, f2, f3⟩ := hb.f4; go_simp
  intro hbx
  replace E := hid ((E.out.trans EY.out).keptG hk HGV7.out)
  replace BX0 := hid ((BX0.out.up EY.out).kept hk (by simpa using HNV7BX0.out.symm))
  replace BX1 := hid ((BX1.out.up EY.out).kept hk (by simpa using HNV7BX1.out.symm))
  replace BX2 := hid ((BX2.out.up EY.out).kept hk (by simpa using HNV7BX2.out.symm))
  replace V6 := hid ((V6.out.up EY.out).kept hk (by simpa using HNV7V6.out.symm))
  replace V7 := hid hbx
  replace P11 := hid ((P11.out.up EY.out).kz hs)
  replace D11 := hid ((D11.out.up EY.out).kz hs)
  replace P12 := hid ((P12.out.up EY.out).kz hs)
  replace D12 := hid ((D12.out.up EY.out).kz hs)
  clear hk hs hbx
  replace EY := hid (Ext.refl ws)
  refine WE.done ?_
  go_upto_region 2 with (fail)
  refine wp_region_E [(0, 0), (1, 0), (2, 0), (3, 0), (5, 0), (6, 0), (7, 0), (8, 0), (4, 2), (9, 2), (10, 2), (11, 2), (12, 3), (13, 4)] (fun _ => (26, #[.bool false, .slice none 0 0, .slice none 0 0])) rfl (by kernel_rfl) (by intro j hj; simp [pend] at hj; obtain rfl := hj; exact ⟨_, rfl, rfl, rfl, fun w => by go_simp⟩) (fun _ _ d _ _ => by cases d <;> exact Iff.rfl) fun wd hb => ?_
  replace EY := hid (EY.out.trans hb)
  clear hb
  have HL2BX0 := hid (BX0.out.up EY.out).lt
  have HL2BX1 := hid (BX1.out.up EY.out).lt
  have HL2BX2 := hid (BX2.out.up EY.out).lt
  have HL2V6 := hid (V6.out.up EY.out).lt
  have HL2V7 := hid (V7.out.up EY.out).lt
  have HW2 := hid (show w.heap.size ≤ wd.heap.size from (E.out.trans EY.out).size)
  refine WE.pure (d := some 13) rfl rfl (by rfl) (v := (.pointer (some ⟨gV6, 0, none⟩))) (fun w' hk => by go_simp) ?_
  simp only [Act.put, pA, pB, pC]
  refine WE.pure (d := some 14) rfl rfl (by rfl) (v := (.agg #[.bool g11, .slice A11 n11 c11])) (fun w' hk => ?_) ?_
  · obtain ⟨ce0, ce1, ce2, ce3⟩ := ((V6.out.up EY.out).up hk).c4; go_simp
  simp only [Act.put, pA, pB, pC]
  refine WE.pure (d := some 15) rfl rfl (by rfl) (v := (.pointer (some ⟨gV7, 2, none⟩))) (fun w' hk => by go_simp) ?_
  simp only [Act.put, pA, pB, pC]
  refine WE.pure (d := some 16) rfl rfl (by rfl) (v := (.agg #[.bool false, .slice B12 m12 d12])) (fun w' hk => ?_) ?_
  · obtain ⟨ce0, ce1, ce2, ce3⟩ := ((V7.out.up EY.out).up hk).c4; go_simp
  simp only [Act.put, pA, pB, pC]
  refine WE.pure (d := some 18) rfl rfl (by rfl) (v := (.pointer (some ⟨gV6, 2, none⟩))) (fun w' hk => by go_simp) ?_
  simp only [Act.put, pA, pB, pC]
  refine WE.pure (d := some 19) rfl rfl (by rfl) (v := (.agg #[.bool false, .slice B11 m11 d11])) (fun w' hk => ?_) ?_
  · obtain ⟨ce0, ce1, ce2, ce3⟩ := ((V6.out.up EY.out).up hk).c4; go_simp
  simp only [Act.put, pA, pB, pC]
  refine WE.pure (d := some 20) rfl rfl (by rfl) (v := (.pointer (some ⟨gV7, 0, none⟩))) (fun w' hk => by go_simp) ?_
  simp only [Act.put, pA, pB, pC]
  refine WE.pure (d := some 21) rfl rfl (by rfl) (v := (.agg #[.bool g12, .slice A12 n12 c12])) (fun w' hk => ?_) ?_
  · obtain ⟨ce0, ce1, ce2, ce3⟩ := ((V7.out.up EY.out).up hk).c4; go_simp
  simp only [Act.put, pA, pB, pC]
  refine WE.callR (d := some 17) rfl rfl (by rfl) (f := 41) (args := #[(.agg #[.bool g11, .slice A11 n11 c11]), (.agg #[.bool false, .slice B12 m12 d12])]) (fun w => by go_simp) (fun wx hx0 => ?_)
  replace EY := hid (EY.out.trans hx0)
  clear hx0
  refine (times_r (P11.out.up EY.out).worth (D12.out.up EY.out).worth (by have := HJ.out; have := HJ1.out; omega) (by have := HJ.out; have := HJ1.out; omega)).mono ?_
  rintro e wn ⟨v1, rfl, x1, hb⟩
  obtain ⟨g13, A13, n13, c13, rfl⟩ := x1.shape
  refine ⟨_, rfl, hb, ?_⟩
  replace EY := hid (EY.out.trans hb)
  have Q13 := hid x1
  clear hb x1
  simp only [Act.put, pA, pB, pC]
  refine WE.callR (d := some 22) rfl rfl (by rfl) (f := 41) (args := #[(.agg #[.bool false, .slice B11 m11 d11]), (.agg #[.bool g12, .slice A12 n12 c12])]) (fun w => by go_simp) (fun wx hx0 => ?_)
  replace EY := hid (EY.out.trans hx0)
  replace Q13 := hid (Q13.out.up hx0)
  clear hx0
  refine (times_r (D11.out.up EY.out).worth (P12.out.up EY.out).worth (by have := HJ.out; have := HJ1.out; omega) (by have := HJ.out; have := HJ1.out; omega)).mono ?_
  rintro e wn ⟨v1, rfl, x1, hb⟩
  obtain ⟨g14, A14, n14, c14, rfl⟩ := x1.shape
  refine ⟨_, rfl, hb, ?_⟩
  replace EY := hid (EY.out.trans hb)
  replace Q13 := hid (Q13.out.up hb)
  have Q14 := hid x1
  clear hb x1
  simp only [Act.put, pA, pB, pC]
  refine WE.callR (d := some 23) rfl rfl (by rfl) (f := 40) (args := #[(.agg #[.bool g13, .slice A13 n13 c13]), (.agg #[.bool g14, .slice A14 n14 c14])]) (fun w => by go_simp) (fun wx hx0 => ?_)
  replace EY := hid (EY.out.trans hx0)
  replace Q13 := hid (Q13.out.up hx0)
  replace Q14 := hid (Q14.out.up hx0)
  clear hx0
  refine (shortened_r (Worth.wide Q13.out.worth (k := (2 * j + 2)) (by have := HJ.out; have := HJ1.out; omega)) (Worth.wide Q14.out.worth (k := (2 * j + 2)) (by have := HJ.out; have := HJ1.out; omega)) (by have := HJ.out; have := HJ1.out; omega)).mono ?_
  rintro e wn ⟨v1, rfl, x1, hb⟩
  replace x1 := x1.to (M.of_div x y)
  obtain ⟨g15, A15, n15, c15, B15, m15, d15, rfl, p1, q1⟩ := x1
  refine ⟨_, rfl, hb, ?_⟩
  replace EY := hid (EY.out.trans hb)
  have P15 := hid p1
  have D15 := hid q1
  clear hb p1 q1
  simp only [Act.put, pA, pB, pC]
  clear Q13
  clear Q14
  refine WE.callR (d := some 24) rfl rfl (by rfl) (f := 42) (args := #[(.agg #[.bool g15, .slice A15 n15 c15, .bool false, .slice B15 m15 d15])]) (fun w => by go_simp) (fun wx hx0 => ?_)
  replace EY := hid (EY.out.trans hx0)
  replace P15 := hid (P15.out.up hx0)
  replace D15 := hid (D15.out.up hx0)
  clear hx0
  refine (told_r (InR.mk P15.out D15.out)).mono ?_
  rintro e wn ⟨v1, rfl, x1, hb⟩
  obtain ⟨g16, A16, n16, c16, B16, m16, d16, rfl, p1, q1⟩ := x1
  refine ⟨_, rfl, hb, ?_⟩
  replace EY := hid (EY.out.trans hb)
  have P16 := hid p1
  have D16 := hid q1
  clear hb p1 q1
  simp only [Act.put, pA, pB, pC]
  clear P15
  clear D15
  refine WE.var (d := some 8) rfl fun gV8 wv hx0 hbox hge hng => ?_
  have HNV8BX2 := hid (show gV8 ≠ (w.heap.size + 2) by have := HL2BX2.out; omega)
  have HNV8V7 := hid (show gV8 ≠ gV7 by have := HL2V7.out; omega)
  have HGV8 := hid (show w.heap.size ≤ gV8 by have := HW2.out; omega)
  replace EY := hid (EY.out.trans hx0)
  replace P16 := hid (P16.out.up hx0)
  replace D16 := hid (D16.out.up hx0)
  have V8 : Hid (Box wv gV8 #[.bool false, .slice none 0 0, .slice none 0 0] 26) := hid hbox
  clear hx0 hbox hge hng
  simp only [Act.put, pA, pB, pC]
  refine WE.store3 (g := gV8) (x := .bool g16) (y := .slice A16 n16 c16) (z := .slice B16 m16 d16) (t := 26) rfl rfl (by rfl) (fun w hb => ?_) V8.out (by rfl) fun ws hk hs => ?_
  · obtain ⟨ce0, ce1, ce2⟩ := hb.c3; obtain ⟨f0, f1, f2⟩ := hb.f3; go_simp
  intro hbx
  replace E := hid ((E.out.trans EY.out).keptG hk HGV8.out)
  replace BX2 := hid ((BX2.out.up EY.out).kept hk (by simpa using HNV8BX2.out.symm))
  replace V7 := hid ((V7.out.up EY.out).kept hk (by simpa using HNV8V7.out.symm))
  replace V8 := hid hbx
  replace P12 := hid ((P12.out.up EY.out).kz hs)
  replace P16 := hid (P16.out.kz hs)
  replace D16 := hid (D16.out.kz hs)
  clear hk hs hbx
  replace EY := hid (Ext.refl ws)
  refine WE.done ?_
  go_upto_region 3 with (fail)
  refine wp_region_T [(0, 0), (1, 0), (2, 1), (3, 0)] (by kernel_rfl) fun wd hb => ?_
  replace EY := hid (EY.out.trans hb)
  clear hb
  refine WE.pure (d := some 25) rfl rfl (by rfl) (v := (.pointer (some ⟨gV7, 0, none⟩))) (fun w' hk => by go_simp) ?_
  simp only [Act.put, pA, pB, pC]
  refine WE.pure (d := some 26) rfl rfl (by rfl) (v := (.agg #[.bool g12, .slice A12 n12 c12])) (fun w' hk => ?_) ?_
  · obtain ⟨ce0, ce1, ce2, ce3⟩ := ((V7.out.up EY.out).up hk).c4; go_simp
  simp only [Act.put, pA, pB, pC]
  refine WE.call (d := some 27) rfl rfl (by rfl) (by go_simp) ((rsgn_r (P12.out.up EY.out).worth (s := s) (HS.out)).mono ?_)
  rintro e wn ⟨rfl, hb⟩
  refine ⟨_, rfl, hb, ?_⟩
  replace EY := hid (EY.out.trans hb)
  clear hb
  simp only [Act.put, pA, pB, pC]
  refine WE.pure (d := some 28) rfl rfl (by rfl) (v := (.bool true)) (fun w' hk => by go_simp) ?_
  simp only [Act.put, pA, pB, pC]
  refine WE.done ?_
  go_upto_region 4 with (fail)
  refine wp_region_T [(0, 0), (1, 4), (2, 0)] (by kernel_rfl) fun wd hb => ?_
  replace EY := hid (EY.out.trans hb)
  clear hb
  refine WE.pure (d := some 29) rfl rfl (by rfl) (v := (.agg #[.bool g16, .slice A16 n16 c16, .slice B16 m16 d16])) (fun w' hk => ?_) ?_
  · obtain ⟨ce0, ce1, ce2⟩ := ((V8.out.up EY.out).up hk).c3; go_simp
  simp only [Act.put, pA, pB, pC]
  refine WE.store3 (g := (w.heap.size + 2)) (x := .bool g16) (y := .slice A16 n16 c16) (z := .slice B16 m16 d16) (t := 26) rfl rfl (by rfl) (fun w hb => ?_) (BX2.out.up EY.out) (by rfl) fun ws hk hs => ?_
  · obtain ⟨ce0, ce1, ce2⟩ := hb.c3; obtain ⟨f0, f1, f2⟩ := hb.f3; go_simp
  intro hbx
  replace E := hid ((E.out.trans EY.out).keptG hk (by simp))
  replace BX2 := hid hbx
  replace P16 := hid ((P16.out.up EY.out).kz hs)
  replace D16 := hid ((D16.out.up EY.out).kz hs)
  clear hk hs hbx
  replace EY := hid (Ext.refl ws)
  refine WE.pure (d := some 5) rfl rfl (by rfl) (v := (.int .i64 (12))) (fun w' hk => by go_simp) ?_
  simp only [Act.put, pA, pB, pC]
  refine WE.done ?_
  have r0 := (BX2.out.up EY.out).cell (o := 0) (v := .bool g16) rfl
  have r1 := (BX2.out.up EY.out).cell (o := 1) (v := .slice A16 n16 c16) rfl
  have r2 := (BX2.out.up EY.out).cell (o := 2) (v := .slice B16 m16 d16) rfl
  repeat go_step
  exact bodyPost_ret (v := .tuple #[.agg #[.bool g16, .slice A16 n16 c16, .slice B16 m16 d16], .int .i64 12]) (by simp [results, Tryz.results9, go_sem, r0, r1, r2]) rfl ⟨_, rfl, (IsR.mk (P16.out.up EY.out) (D16.out.up EY.out)).wide (by have := HJ.out; have := HJ1.out; omega), (E.out.trans EY.out)⟩

set_option maxHeartbeats 2000000 in
theorem fDiv_some {w : World} {u v : Value} {x y : Rat} {j : Nat} (h1 : WorthR w u x j) (h2 : WorthR w v y j) (hj : j ≤ 60) (hj1 : 1 ≤ j) (hy : y.num.sign ≠ 0) :
    Calls Tryz.prog 9 #[u, v] w (fun e w' => ∃ v, e = .returned (.tuple #[v, .int .i64 0]) ∧ IsR w' v (x / y) (2 * j + 5) ∧ Ext w w') := by
  obtain ⟨g1, A1, n1, c1, B1, m1, d1, rfl⟩ := h1.shape
  have R1 := hid h1
  obtain ⟨g2, A2, n2, c2, B2, m2, d2, rfl⟩ := h2.shape
  have R2 := hid h2
  have HJ := hid hj
  have HJ1 := hid hj1
  obtain ⟨s, hs⟩ : ∃ s : Int, y.num.sign = s := ⟨_, rfl⟩
  have HS := hid hs
  have hs0 : (s == 0) = false := by rw [← hs]; simpa using hy
  clear hs hy
  clear h1 h2 hj hj1
  go_enter Tryz.func9, Tryz.ntmps9
  go_upto_region 1 with (fail)
  have E := hid ((((Ext.refl w).alloc' (.cells #[.bool g1, .slice A1 n1 c1, .slice B1 m1 d1] 26)).alloc' (.cells #[.bool g2, .slice A2 n2 c2, .slice B2 m2 d2] 26)).alloc' (.cells #[.bool false, .slice none 0 0, .slice none 0 0] 26))
  have BX0 : Hid (Box (((w.alloc (.cells #[.bool g1, .slice A1 n1 c1, .slice B1 m1 d1] 26)).alloc (.cells #[.bool g2, .slice A2 n2 c2, .slice B2 m2 d2] 26)).alloc (.cells #[.bool false, .slice none 0 0, .slice none 0 0] 26)) (w.heap.size) #[.bool g1, .slice A1 n1 c1, .slice B1 m1 d1] 26) := hid (((Box.at_ (w := w) #[.bool g1, .slice A1 n1 c1, .slice B1 m1 d1] 26 (by simp)).alloc (.cells #[.bool g2, .slice A2 n2 c2, .slice B2 m2 d2] 26)).alloc (.cells #[.bool false, .slice none 0 0, .slice none 0 0] 26))
  have BX1 : Hid (Box (((w.alloc (.cells #[.bool g1, .slice A1 n1 c1, .slice B1 m1 d1] 26)).alloc (.cells #[.bool g2, .slice A2 n2 c2, .slice B2 m2 d2] 26)).alloc (.cells #[.bool false, .slice none 0 0, .slice none 0 0] 26)) (w.heap.size + 1) #[.bool g2, .slice A2 n2 c2, .slice B2 m2 d2] 26) := hid ((Box.at_ (w := (w.alloc (.cells #[.bool g1, .slice A1 n1 c1, .slice B1 m1 d1] 26))) #[.bool g2, .slice A2 n2 c2, .slice B2 m2 d2] 26 (by simp)).alloc (.cells #[.bool false, .slice none 0 0, .slice none 0 0] 26))
  have BX2 : Hid (Box (((w.alloc (.cells #[.bool g1, .slice A1 n1 c1, .slice B1 m1 d1] 26)).alloc (.cells #[.bool g2, .slice A2 n2 c2, .slice B2 m2 d2] 26)).alloc (.cells #[.bool false, .slice none 0 0, .slice none 0 0] 26)) (w.heap.size + 2) #[.bool false, .slice none 0 0, .slice none 0 0] 26) := hid (Box.at_ (w := ((w.alloc (.cells #[.bool g1, .slice A1 n1 c1, .slice B1 m1 d1] 26)).alloc (.cells #[.bool g2, .slice A2 n2 c2, .slice B2 m2 d2] 26))) #[.bool false, .slice none 0 0, .slice none 0 0] 26 (by simp))
  replace R1 := hid (R1.out.up E.out)
  replace R2 := hid (R2.out.up E.out)
  refine wp_region_E [(0, 0), (2, 0), (1, 2), (3, 2), (4, 3), (5, 3), (6, 4), (7, 4)] (fun _ => (51, #[.bool false, .slice none 0 0, .bool false, .slice none 0 0])) rfl (by kernel_rfl) (by intro j hj; simp [pend] at hj; rcases hj with rfl | rfl <;> exact ⟨_, rfl, rfl, rfl, fun w => by go_simp⟩) (fun _ _ d _ _ => by cases d <;> exact Iff.rfl) fun wd hb => ?_
  replace E := hid (E.out.trans hb)
  replace BX0 := hid (BX0.out.up hb)
  replace BX1 := hid (BX1.out.up hb)
  replace BX2 := hid (BX2.out.up hb)
  replace R1 := hid (R1.out.up hb)
  replace R2 := hid (R2.out.up hb)
  clear hb
  have HL1BX0 := hid BX0.out.lt
  have HL1BX1 := hid BX1.out.lt
  have HL1BX2 := hid BX2.out.lt
  have HW1 := hid (show w.heap.size ≤ wd.heap.size from E.out.size)
  have EY := hid (Ext.refl wd)
  refine WE.pure (d := some 9) rfl rfl (by rfl) (v := (.agg #[.bool g1, .slice A1 n1 c1, .slice B1 m1 d1])) (fun w' hk => ?_) ?_
  · obtain ⟨ce0, ce1, ce2⟩ := ((BX0.out.up EY.out).up hk).c3; go_simp
  simp only [Act.put, pA, pB, pC]
  refine WE.pure (d := some 11) rfl rfl (by rfl) (v := (.agg #[.bool g2, .slice A2 n2 c2, .slice B2 m2 d2])) (fun w' hk => ?_) ?_
  · obtain ⟨ce0, ce1, ce2⟩ := ((BX1.out.up EY.out).up hk).c3; go_simp
  simp only [Act.put, pA, pB, pC]
  refine WE.callR (d := some 10) rfl rfl (by rfl) (f := 39) (args := #[(.agg #[.bool g1, .slice A1 n1 c1, .slice B1 m1 d1])]) (fun w => by go_simp) (fun wx hx0 => ?_)
  replace EY := hid (EY.out.trans hx0)
  clear hx0
  refine (read_r (R1.out.up EY.out) (by have := HJ.out; have := HJ1.out; omega) (by have := HJ.out; have := HJ1.out; omega)).mono ?_
  rintro e wn ⟨v1, rfl, x1, hb⟩
  obtain ⟨g11, A11, n11, c11, B11, m11, d11, rfl, p1, q1⟩ := x1
  refine ⟨_, rfl, hb, ?_⟩
  replace EY := hid (EY.out.trans hb)
  have P11 := hid p1
  have D11 := hid q1
  clear hb p1 q1
  simp only [Act.put, pA, pB, pC]
  refine WE.callR (d := some 12) rfl rfl (by rfl) (f := 39) (args := #[(.agg #[.bool g2, .slice A2 n2 c2, .slice B2 m2 d2])]) (fun w => by go_simp) (fun wx hx0 => ?_)
  replace EY := hid (EY.out.trans hx0)
  replace P11 := hid (P11.out.up hx0)
  replace D11 := hid (D11.out.up hx0)
  clear hx0
  refine (read_r (R2.out.up EY.out) (by have := HJ.out; have := HJ1.out; omega) (by have := HJ.out; have := HJ1.out; omega)).mono ?_
  rintro e wn ⟨v1, rfl, x1, hb⟩
  obtain ⟨g12, A12, n12, c12, B12, m12, d12, rfl, p1, q1⟩ := x1
  refine ⟨_, rfl, hb, ?_⟩
  replace EY := hid (EY.out.trans hb)
  replace P11 := hid (P11.out.up hb)
  replace D11 := hid (D11.out.up hb)
  have P12 := hid p1
  have D12 := hid q1
  clear hb p1 q1
  simp only [Act.put, pA, pB, pC]
  refine WE.var (d := some 6) rfl fun gV6 wv hx0 hbox hge hng => ?_
  have HNV6BX0 := hid (show gV6 ≠ (w.heap.size) by have := HL1BX0.out; omega)
  have HNV6BX1 := hid (show gV6 ≠ (w.heap.size + 1) by have := HL1BX1.out; omega)
  have HNV6BX2 := hid (show gV6 ≠ (w.heap.size + 2) by have := HL1BX2.out; omega)
  have HGV6 := hid (show w.heap.size ≤ gV6 by have := HW1.out; omega)
  replace EY := hid (EY.out.trans hx0)
  replace P11 := hid (P11.out.up hx0)
  replace D11 := hid (D11.out.up hx0)
  replace P12 := hid (P12.out.up hx0)
  replace D12 := hid (D12.out.up hx0)
  have V6 : Hid (Box wv gV6 #[.bool false, .slice none 0 0, .bool false, .slice none 0 0] 51) := hid hbox
  clear hx0 hbox hge hng
  simp only [Act.put, pA, pB, pC]
  refine WE.var (d := some 7) rfl fun gV7 wv hx0 hbox hge hng => ?_
  have HNV7BX0 := hid (show gV7 ≠ (w.heap.size) by have := HL1BX0.out; omega)
  have HNV7BX1 := hid (show gV7 ≠ (w.heap.size + 1) by have := HL1BX1.out; omega)
  have HNV7BX2 := hid (show gV7 ≠ (w.heap.size + 2) by have := HL1BX2.out; omega)
  have HNV7V6 := hid (show gV7 ≠ gV6 by intro e; exact hng (by simp [e]))
  have HGV7 := hid (show w.heap.size ≤ gV7 by have := HW1.out; omega)
  replace EY := hid (EY.out.trans hx0)
  replace V6 := hid (V6.out.up hx0)
  replace P11 := hid (P11.out.up hx0)
  replace D11 := hid (D11.out.up hx0)
  replace P12 := hid (P12.out.up hx0)
  replace D12 := hid (D12.out.up hx0)
  have V7 : Hid (Box wv gV7 #[.bool false, .slice none 0 0, .bool false, .slice none 0 0] 51) := hid hbox
  clear hx0 hbox hge hng
  simp only [Act.put, pA, pB, pC]
  refine WE.store4 (g := gV6) (x := .bool g11) (y := .slice A11 n11 c11) (z := .bool false) (q := .slice B11 m11 d11) (t := 51) rfl rfl (by rfl) (fun w hb => ?_) V6.out (by rfl) fun ws hk hs => ?_
  · obtain ⟨ce0, ce1, ce2, ce3⟩ := hb.c4; obtain ⟨f0, f1, f2, f3⟩ := hb.f4; go_simp
  intro hbx
  replace E := hid ((E.out.trans EY.out).keptG hk HGV6.out)
  replace BX0 := hid ((BX0.out.up EY.out).kept hk (by simpa using HNV6BX0.out.symm))
  replace BX1 := hid ((BX1.out.up EY.out).kept hk (by simpa using HNV6BX1.out.symm))
  replace BX2 := hid ((BX2.out.up EY.out).kept hk (by simpa using HNV6BX2.out.symm))
  replace V6 := hid hbx
  replace V7 := hid (V7.out.kept hk (by simpa using HNV7V6.out))
  replace P11 := hid (P11.out.kz hs)
  replace D11 := hid (D11.out.kz hs)
  replace P12 := hid (P12.out.kz hs)
  replace D12 := hid (D12.out.kz hs)
  clear hk hs hbx
  replace EY := hid (Ext.refl ws)
  refine WE.store4 (g := gV7) (x := .bool g12) (y := .slice A12 n12 c12) (z := .bool false) (q := .slice B12 m12 d12) (t := 51) rfl rfl (by rfl) (fun w hb => ?_) (V7.out.up EY.out) (by rfl) fun ws hk hs => ?_
  · obtain ⟨ce0, ce1, ce2, ce3⟩ := hb.c4; obtain ⟨f0, f1, f2, f3⟩ := hb.f4; go_simp
  intro hbx
  replace E := hid ((E.out.trans EY.out).keptG hk HGV7.out)
  replace BX0 := hid ((BX0.out.up EY.out).kept hk (by simpa using HNV7BX0.out.symm))
  replace BX1 := hid ((BX1.out.up EY.out).kept hk (by simpa using HNV7BX1.out.symm))
  replace BX2 := hid ((BX2.out.up EY.out).kept hk (by simpa using HNV7BX2.out.symm))
  replace V6 := hid ((V6.out.up EY.out).kept hk (by simpa using HNV7V6.out.symm))
  replace V7 := hid hbx
  replace P11 := hid ((P11.out.up EY.out).kz hs)
  replace D11 := hid ((D11.out.up EY.out).kz hs)
  replace P12 := hid ((P12.out.up EY.out).kz hs)
  replace D12 := hid ((D12.out.up EY.out).kz hs)
  clear hk hs hbx
  replace EY := hid (Ext.refl ws)
  refine WE.done ?_
  go_upto_region 2 with (fail)
  refine wp_region_E [(0, 0), (1, 0), (2, 0), (3, 0), (5, 0), (6, 0), (7, 0), (8, 0), (4, 2), (9, 2), (10, 2), (11, 2), (12, 3), (13, 4)] (fun _ => (26, #[.bool false, .slice none 0 0, .slice none 0 0])) rfl (by kernel_rfl) (by intro j hj; simp [pend] at hj; obtain rfl := hj; exact ⟨_, rfl, rfl, rfl, fun w => by go_simp⟩) (fun _ _ d _ _ => by cases d <;> exact Iff.rfl) fun wd hb => ?_
  replace EY := hid (EY.out.trans hb)
  clear hb
  have HL2BX0 := hid (BX0.out.up EY.out).lt
  have HL2BX1 := hid (BX1.out.up EY.out).lt
  have HL2BX2 := hid (BX2.out.up EY.out).lt
  have HL2V6 := hid (V6.out.up EY.out).lt
  have HL2V7 := hid (V7.out.up EY.out).lt
  have HW2 := hid (show w.heap.size ≤ wd.heap.size from (E.out.trans EY.out).size)
  refine WE.pure (d := some 13) rfl rfl (by rfl) (v := (.pointer (some ⟨gV6, 0, none⟩))) (fun w' hk => by go_simp) ?_
  simp only [Act.put, pA, pB, pC]
  refine WE.pure (d := some 14) rfl rfl (by rfl) (v := (.agg #[.bool g11, .slice A11 n11 c11])) (fun w' hk => ?_) ?_
  · obtain ⟨ce0, ce1, ce2, ce3⟩ := ((V6.out.up EY.out).up hk).c4; go_simp
  simp only [Act.put, pA, pB, pC]
  refine WE.pure (d := some 15) rfl rfl (by rfl) (v := (.pointer (some ⟨gV7, 2, none⟩))) (fun w' hk => by go_simp) ?_
  simp only [Act.put, pA, pB, pC]
  refine WE.pure (d := some 16) rfl rfl (by rfl) (v := (.agg #[.bool false, .slice B12 m12 d12])) (fun w' hk => ?_) ?_
  · obtain ⟨ce0, ce1, ce2, ce3⟩ := ((V7.out.up EY.out).up hk).c4; go_simp
  simp only [Act.put, pA, pB, pC]
  refine WE.pure (d := some 18) rfl rfl (by rfl) (v := (.pointer (some ⟨gV6, 2, none⟩))) (fun w' hk => by go_simp) ?_
  simp only [Act.put, pA, pB, pC]
  refine WE.pure (d := some 19) rfl rfl (by rfl) (v := (.agg #[.bool false, .slice B11 m11 d11])) (fun w' hk => ?_) ?_
  · obtain ⟨ce0, ce1, ce2, ce3⟩ := ((V6.out.up EY.out).up hk).c4; go_simp
  simp only [Act.put, pA, pB, pC]
  refine WE.pure (d := some 20) rfl rfl (by rfl) (v := (.pointer (some ⟨gV7, 0, none⟩))) (fun w' hk => by go_simp) ?_
  simp only [Act.put, pA, pB, pC]
  refine WE.pure (d := some 21) rfl rfl (by rfl) (v := (.agg #[.bool g12, .slice A12 n12 c12])) (fun w' hk => ?_) ?_
  · obtain ⟨ce0, ce1, ce2, ce3⟩ := ((V7.out.up EY.out).up hk).c4; go_simp
  simp only [Act.put, pA, pB, pC]
  refine WE.callR (d := some 17) rfl rfl (by rfl) (f := 41) (args := #[(.agg #[.bool g11, .slice A11 n11 c11]), (.agg #[.bool false, .slice B12 m12 d12])]) (fun w => by go_simp) (fun wx hx0 => ?_)
  replace EY := hid (EY.out.trans hx0)
  clear hx0
  refine (times_r (P11.out.up EY.out).worth (D12.out.up EY.out).worth (by have := HJ.out; have := HJ1.out; omega) (by have := HJ.out; have := HJ1.out; omega)).mono ?_
  rintro e wn ⟨v1, rfl, x1, hb⟩
  obtain ⟨g13, A13, n13, c13, rfl⟩ := x1.shape
  refine ⟨_, rfl, hb, ?_⟩
  replace EY := hid (EY.out.trans hb)
  have Q13 := hid x1
  clear hb x1
  simp only [Act.put, pA, pB, pC]
  refine WE.callR (d := some 22) rfl rfl (by rfl) (f := 41) (args := #[(.agg #[.bool false, .slice B11 m11 d11]), (.agg #[.bool g12, .slice A12 n12 c12])]) (fun w => by go_simp) (fun wx hx0 => ?_)
  replace EY := hid (EY.out.trans hx0)
  replace Q13 := hid (Q13.out.up hx0)
  clear hx0
  refine (times_r (D11.out.up EY.out).worth (P12.out.up EY.out).worth (by have := HJ.out; have := HJ1.out; omega) (by have := HJ.out; have := HJ1.out; omega)).mono ?_
  rintro e wn ⟨v1, rfl, x1, hb⟩
  obtain ⟨g14, A14, n14, c14, rfl⟩ := x1.shape
  refine ⟨_, rfl, hb, ?_⟩
  replace EY := hid (EY.out.trans hb)
  replace Q13 := hid (Q13.out.up hb)
  have Q14 := hid x1
  clear hb x1
  simp only [Act.put, pA, pB, pC]
  refine WE.callR (d := some 23) rfl rfl (by rfl) (f := 40) (args := #[(.agg #[.bool g13, .slice A13 n13 c13]), (.agg #[.bool g14, .slice A14 n14 c14])]) (fun w => by go_simp) (fun wx hx0 => ?_)
  replace EY := hid (EY.out.trans hx0)
  replace Q13 := hid (Q13.out.up hx0)
  replace Q14 := hid (Q14.out.up hx0)
  clear hx0
  refine (shortened_r (Worth.wide Q13.out.worth (k := (2 * j + 2)) (by have := HJ.out; have := HJ1.out; omega)) (Worth.wide Q14.out.worth (k := (2 * j + 2)) (by have := HJ.out; have := HJ1.out; omega)) (by have := HJ.out; have := HJ1.out; omega)).mono ?_
  rintro e wn ⟨v1, rfl, x1, hb⟩
  replace x1 := x1.to (M.of_div x y)
  obtain ⟨g15, A15, n15, c15, B15, m15, d15, rfl, p1, q1⟩ := x1
  refine ⟨_, rfl, hb, ?_⟩
  replace EY := hid (EY.out.trans hb)
  have P15 := hid p1
  have D15 := hid q1
  clear hb p1 q1
  simp only [Act.put, pA, pB, pC]
  clear Q13
  clear Q14
  refine WE.callR (d := some 24) rfl rfl (by rfl) (f := 42) (args := #[(.agg #[.bool g15, .slice A15 n15 c15, .bool false, .slice B15 m15 d15])]) (fun w => by go_simp) (fun wx hx0 => ?_)
  replace EY := hid (EY.out.trans hx0)
  replace P15 := hid (P15.out.up hx0)
  replace D15 := hid (D15.out.up hx0)
  clear hx0
  refine (told_r (InR.mk P15.out D15.out)).mono ?_
  rintro e wn ⟨v1, rfl, x1, hb⟩
  obtain ⟨g16, A16, n16, c16, B16, m16, d16, rfl, p1, q1⟩ := x1
  refine ⟨_, rfl, hb, ?_⟩
  replace EY := hid (EY.out.trans hb)
  have P16 := hid p1
  have D16 := hid q1
  clear hb p1 q1
  simp only [Act.put, pA, pB, pC]
  clear P15
  clear D15
  refine WE.var (d := some 8) rfl fun gV8 wv hx0 hbox hge hng => ?_
  have HNV8BX2 := hid (show gV8 ≠ (w.heap.size + 2) by have := HL2BX2.out; omega)
  have HNV8V7 := hid (show gV8 ≠ gV7 by have := HL2V7.out; omega)
  have HGV8 := hid (show w.heap.size ≤ gV8 by have := HW2.out; omega)
  replace EY := hid (EY.out.trans hx0)
  replace P16 := hid (P16.out.up hx0)
  replace D16 := hid (D16.out.up hx0)
  have V8 : Hid (Box wv gV8 #[.bool false, .slice none 0 0, .slice none 0 0] 26) := hid hbox
  clear hx0 hbox hge hng
  simp only [Act.put, pA, pB, pC]
  refine WE.store3 (g := gV8) (x := .bool g16) (y := .slice A16 n16 c16) (z := .slice B16 m16 d16) (t := 26) rfl rfl (by rfl) (fun w hb => ?_) V8.out (by rfl) fun ws hk hs => ?_
  · obtain ⟨ce0, ce1, ce2⟩ := hb.c3; obtain ⟨f0, f1, f2⟩ := hb.f3; go_simp
  intro hbx
  replace E := hid ((E.out.trans EY.out).keptG hk HGV8.out)
  replace BX2 := hid ((BX2.out.up EY.out).kept hk (by simpa using HNV8BX2.out.symm))
  replace V7 := hid ((V7.out.up EY.out).kept hk (by simpa using HNV8V7.out.symm))
  replace V8 := hid hbx
  replace P12 := hid ((P12.out.up EY.out).kz hs)
  replace P16 := hid (P16.out.kz hs)
  replace D16 := hid (D16.out.kz hs)
  clear hk hs hbx
  replace EY := hid (Ext.refl ws)
  refine WE.done ?_
  go_upto_region 3 with (fail)
  refine wp_region_T [(0, 0), (1, 0), (2, 1), (3, 0)] (by kernel_rfl) fun wd hb => ?_
  replace EY := hid (EY.out.trans hb)
  clear hb
  refine WE.pure (d := some 25) rfl rfl (by rfl) (v := (.pointer (some ⟨gV7, 0, none⟩))) (fun w' hk => by go_simp) ?_
  simp only [Act.put, pA, pB, pC]
  refine WE.pure (d := some 26) rfl rfl (by rfl) (v := (.agg #[.bool g12, .slice A12 n12 c12])) (fun w' hk => ?_) ?_
  · obtain ⟨ce0, ce1, ce2, ce3⟩ := ((V7.out.up EY.out).up hk).c4; go_simp
  simp only [Act.put, pA, pB, pC]
  refine WE.call (d := some 27) rfl rfl (by rfl) (by go_simp) ((rsgn_r (P12.out.up EY.out).worth (s := s) (HS.out)).mono ?_)
  rintro e wn ⟨rfl, hb⟩
  refine ⟨_, rfl, hb, ?_⟩
  replace EY := hid (EY.out.trans hb)
  clear hb
  simp only [Act.put, pA, pB, pC]
  refine WE.pure (d := some 28) rfl rfl (by rfl) (v := (.bool false)) (fun w' hk => by go_simp) ?_
  simp only [Act.put, pA, pB, pC]
  refine WE.done ?_
  go_upto_region 5 with (fail)
  refine wp_region_T [(0, 0), (1, 4), (2, 0)] (by kernel_rfl) fun wd hb => ?_
  replace EY := hid (EY.out.trans hb)
  clear hb
  refine WE.pure (d := some 30) rfl rfl (by rfl) (v := (.agg #[.bool g16, .slice A16 n16 c16, .slice B16 m16 d16])) (fun w' hk => ?_) ?_
  · obtain ⟨ce0, ce1, ce2⟩ := ((V8.out.up EY.out).up hk).c3; go_simp
  simp only [Act.put, pA, pB, pC]
  refine WE.store3 (g := (w.heap.size + 2)) (x := .bool g16) (y := .slice A16 n16 c16) (z := .slice B16 m16 d16) (t := 26) rfl rfl (by rfl) (fun w hb => ?_) (BX2.out.up EY.out) (by rfl) fun ws hk hs => ?_
  · obtain ⟨ce0, ce1, ce2⟩ := hb.c3; obtain ⟨f0, f1, f2⟩ := hb.f3; go_simp
  intro hbx
  replace E := hid ((E.out.trans EY.out).keptG hk (by simp))
  replace BX2 := hid hbx
  replace P16 := hid ((P16.out.up EY.out).kz hs)
  replace D16 := hid ((D16.out.up EY.out).kz hs)
  clear hk hs hbx
  replace EY := hid (Ext.refl ws)
  refine WE.pure (d := some 5) rfl rfl (by rfl) (v := (.int .i64 (0))) (fun w' hk => by go_simp) ?_
  simp only [Act.put, pA, pB, pC]
  refine WE.done ?_
  have r0 := (BX2.out.up EY.out).cell (o := 0) (v := .bool g16) rfl
  have r1 := (BX2.out.up EY.out).cell (o := 1) (v := .slice A16 n16 c16) rfl
  have r2 := (BX2.out.up EY.out).cell (o := 2) (v := .slice B16 m16 d16) rfl
  repeat go_step
  exact bodyPost_ret (v := .tuple #[.agg #[.bool g16, .slice A16 n16 c16, .slice B16 m16 d16], .int .i64 0]) (by simp [results, Tryz.results9, go_sem, r0, r1, r2]) rfl ⟨_, rfl, (IsR.mk (P16.out.up EY.out) (D16.out.up EY.out)).wide (by have := HJ.out; have := HJ1.out; omega), (E.out.trans EY.out)⟩

end Go.Proofs.YtkjfeedclaedfaaGreat
