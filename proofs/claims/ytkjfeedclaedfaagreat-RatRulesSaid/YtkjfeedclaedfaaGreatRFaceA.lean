/-
  Contracts of package rat's face.
-/
import Derived.Test.YtkjfeedclaedfaaGreatRRead
namespace Go.Proofs.YtkjfeedclaedfaaGreat
open Go.RowKit
set_option linter.unusedSimpArgs false
set_option linter.unusedVariables false

set_option maxHeartbeats 2000000 in
theorem fOf_r {w : World} {u v : Value} {Z Y : Int} {j : Nat} (h1 : Worth w u Z j) (h2 : Worth w v Y j) (hj : j ≤ 900) :
    Calls Tryz.prog 15 #[u, v] w (GivesR w (Rat.divInt Z Y) (max j 3 + 1)) := by
  obtain ⟨g1, A1, n1, c1, rfl⟩ := h1.shape
  have R1 := hid h1
  obtain ⟨g2, A2, n2, c2, rfl⟩ := h2.shape
  have R2 := hid h2
  have HJ := hid hj
  clear h1 h2 hj
  go_enter Tryz.func15, Tryz.ntmps15
  go_upto_region 1 with (fail)
  have E := hid ((((Ext.refl w).alloc' (.cells #[.bool g1, .slice A1 n1 c1] 24)).alloc' (.cells #[.bool g2, .slice A2 n2 c2] 24)).alloc' (.cells #[.bool false, .slice none 0 0, .slice none 0 0] 26))
  have BX0 : Hid (Box (((w.alloc (.cells #[.bool g1, .slice A1 n1 c1] 24)).alloc (.cells #[.bool g2, .slice A2 n2 c2] 24)).alloc (.cells #[.bool false, .slice none 0 0, .slice none 0 0] 26)) (w.heap.size) #[.bool g1, .slice A1 n1 c1] 24) := hid (((Box.at_ (w := w) #[.bool g1, .slice A1 n1 c1] 24 (by simp)).alloc (.cells #[.bool g2, .slice A2 n2 c2] 24)).alloc (.cells #[.bool false, .slice none 0 0, .slice none 0 0] 26))
  have BX1 : Hid (Box (((w.alloc (.cells #[.bool g1, .slice A1 n1 c1] 24)).alloc (.cells #[.bool g2, .slice A2 n2 c2] 24)).alloc (.cells #[.bool false, .slice none 0 0, .slice none 0 0] 26)) (w.heap.size + 1) #[.bool g2, .slice A2 n2 c2] 24) := hid ((Box.at_ (w := (w.alloc (.cells #[.bool g1, .slice A1 n1 c1] 24))) #[.bool g2, .slice A2 n2 c2] 24 (by simp)).alloc (.cells #[.bool false, .slice none 0 0, .slice none 0 0] 26))
  have BX2 : Hid (Box (((w.alloc (.cells #[.bool g1, .slice A1 n1 c1] 24)).alloc (.cells #[.bool g2, .slice A2 n2 c2] 24)).alloc (.cells #[.bool false, .slice none 0 0, .slice none 0 0] 26)) (w.heap.size + 2) #[.bool false, .slice none 0 0, .slice none 0 0] 26) := hid (Box.at_ (w := ((w.alloc (.cells #[.bool g1, .slice A1 n1 c1] 24)).alloc (.cells #[.bool g2, .slice A2 n2 c2] 24))) #[.bool false, .slice none 0 0, .slice none 0 0] 26 (by simp))
  replace R1 := hid (R1.out.up E.out)
  replace R2 := hid (R2.out.up E.out)
  refine wp_region_T [(0, 0), (1, 0), (2, 1), (3, 1), (4, 4)] (by kernel_rfl) fun wd hb => ?_
  replace E := hid (E.out.trans hb)
  replace BX0 := hid (BX0.out.up hb)
  replace BX1 := hid (BX1.out.up hb)
  replace BX2 := hid (BX2.out.up hb)
  replace R1 := hid (R1.out.up hb)
  replace R2 := hid (R2.out.up hb)
  clear hb
  have EY := hid (Ext.refl wd)
  refine WE.pure (d := some 5) rfl rfl (by rfl) (v := (.agg #[.bool g1, .slice A1 n1 c1])) (fun w' hk => ?_) ?_
  · obtain ⟨ce0, ce1⟩ := ((BX0.out.up EY.out).up hk).c2; go_simp
  simp only [Act.put, pA, pB, pC]
  refine WE.pure (d := some 6) rfl rfl (by rfl) (v := (.agg #[.bool g2, .slice A2 n2 c2])) (fun w' hk => ?_) ?_
  · obtain ⟨ce0, ce1⟩ := ((BX1.out.up EY.out).up hk).c2; go_simp
  simp only [Act.put, pA, pB, pC]
  refine WE.call (d := some 7) rfl rfl (by rfl) (by go_simp) ((shortened_r (Worth.wide (R1.out.up EY.out) (k := j) (by have := HJ.out; omega)) (Worth.wide (R2.out.up EY.out) (k := j) (by have := HJ.out; omega)) (by have := HJ.out; omega)).mono ?_)
  rintro e wn ⟨v1, rfl, x1, hb⟩
  replace x1 := x1.to (rfl)
  obtain ⟨g11, A11, n11, c11, B11, m11, d11, rfl, p1, q1⟩ := x1
  refine ⟨_, rfl, hb, ?_⟩
  replace EY := hid (EY.out.trans hb)
  have P11 := hid p1
  have D11 := hid q1
  clear hb p1 q1
  simp only [Act.put, pA, pB, pC]
  refine WE.call (d := some 8) rfl rfl (by rfl) (by go_simp) ((told_r (InR.mk P11.out D11.out)).mono ?_)
  rintro e wn ⟨v1, rfl, x1, hb⟩
  obtain ⟨g12, A12, n12, c12, B12, m12, d12, rfl, p1, q1⟩ := x1
  refine ⟨_, rfl, hb, ?_⟩
  replace EY := hid (EY.out.trans hb)
  have P12 := hid p1
  have D12 := hid q1
  clear hb p1 q1
  simp only [Act.put, pA, pB, pC]
  clear P11
  clear D11
  refine WE.store3 (g := (w.heap.size + 2)) (x := .bool g12) (y := .slice A12 n12 c12) (z := .slice B12 m12 d12) (t := 26) rfl rfl (by rfl) (fun w hb => ?_) (BX2.out.up EY.out) (by rfl) fun ws hk hs => ?_
  · obtain ⟨ce0, ce1, ce2⟩ := hb.c3; obtain ⟨f0, f1, f2⟩ := hb.f3; go_simp
  intro hbx
  replace E := hid ((E.out.trans EY.out).keptG hk (by simp))
  replace BX2 := hid hbx
  replace P12 := hid (P12.out.kz hs)
  replace D12 := hid (D12.out.kz hs)
  clear hk hs hbx
  replace EY := hid (Ext.refl ws)
  refine WE.done ?_
  have r0 := (BX2.out.up EY.out).cell (o := 0) (v := .bool g12) rfl
  have r1 := (BX2.out.up EY.out).cell (o := 1) (v := .slice A12 n12 c12) rfl
  have r2 := (BX2.out.up EY.out).cell (o := 2) (v := .slice B12 m12 d12) rfl
  repeat go_step
  exact bodyPost_ret (v := .agg #[.bool g12, .slice A12 n12 c12, .slice B12 m12 d12]) (by simp [results, Tryz.results15, go_sem, r0, r1, r2]) rfl ⟨_, rfl, (IsR.mk (P12.out.up EY.out) (D12.out.up EY.out)), (E.out.trans EY.out)⟩

set_option maxHeartbeats 2000000 in
theorem fInt_r {w : World} {u : Value} {Z : Int} {j : Nat} (h1 : Worth w u Z j) (hj : j ≤ 900) (hj3 : 3 ≤ j) :
    Calls Tryz.prog 17 #[u] w (GivesR w (Z : Rat) (max j 3 + 1)) := by
  obtain ⟨g1, A1, n1, c1, rfl⟩ := h1.shape
  have R1 := hid h1
  have HJ := hid hj
  have HJ3 := hid hj3
  clear h1 hj hj3
  go_enter Tryz.func17, Tryz.ntmps17
  go_upto_region 1 with (fail)
  have E := hid (((Ext.refl w).alloc' (.cells #[.bool g1, .slice A1 n1 c1] 24)).alloc' (.cells #[.bool false, .slice none 0 0, .slice none 0 0] 26))
  have BX0 : Hid (Box ((w.alloc (.cells #[.bool g1, .slice A1 n1 c1] 24)).alloc (.cells #[.bool false, .slice none 0 0, .slice none 0 0] 26)) (w.heap.size) #[.bool g1, .slice A1 n1 c1] 24) := hid ((Box.at_ (w := w) #[.bool g1, .slice A1 n1 c1] 24 (by simp)).alloc (.cells #[.bool false, .slice none 0 0, .slice none 0 0] 26))
  have BX1 : Hid (Box ((w.alloc (.cells #[.bool g1, .slice A1 n1 c1] 24)).alloc (.cells #[.bool false, .slice none 0 0, .slice none 0 0] 26)) (w.heap.size + 1) #[.bool false, .slice none 0 0, .slice none 0 0] 26) := hid (Box.at_ (w := (w.alloc (.cells #[.bool g1, .slice A1 n1 c1] 24))) #[.bool false, .slice none 0 0, .slice none 0 0] 26 (by simp))
  replace R1 := hid (R1.out.up E.out)
  refine wp_region_E [(0, 0), (1, 1), (2, 1), (3, 4)] (fun _ => (0, #[])) rfl (by kernel_rfl) (by intro j hj; cases hj) (fun _ _ d _ _ => by cases d <;> exact Iff.rfl) fun wd hb => ?_
  replace E := hid (E.out.trans hb)
  replace BX0 := hid (BX0.out.up hb)
  replace BX1 := hid (BX1.out.up hb)
  replace R1 := hid (R1.out.up hb)
  clear hb
  have EY := hid (Ext.refl wd)
  refine WE.pure (d := some 3) rfl rfl (by rfl) (v := (.agg #[.bool g1, .slice A1 n1 c1])) (fun w' hk => ?_) ?_
  · obtain ⟨ce0, ce1⟩ := ((BX0.out.up EY.out).up hk).c2; go_simp
  simp only [Act.put, pA, pB, pC]
  refine WE.call (d := some 4) rfl rfl (by rfl) (by go_simp) ((of_z (n := (1)) (by decide) (by decide) _).mono ?_)
  rintro e wn ⟨v1, rfl, x1, hb⟩
  obtain ⟨g11, A11, n11, c11, rfl⟩ := x1.shape
  refine ⟨_, rfl, hb, ?_⟩
  replace EY := hid (EY.out.trans hb)
  have Q11 := hid x1
  clear hb x1
  simp only [Act.put, pA, pB, pC]
  refine WE.call (d := some 5) rfl rfl (by rfl) (by go_simp) ((fOf_r (Worth.wide (R1.out.up EY.out) (k := j) (by have := HJ.out; have := HJ3.out; omega)) (Worth.wide Q11.out.worth (k := j) (by have := HJ.out; have := HJ3.out; omega)) (by have := HJ.out; have := HJ3.out; omega)).mono ?_)
  rintro e wn ⟨v1, rfl, x1, hb⟩
  replace x1 := x1.to (M.of_int Z)
  obtain ⟨g12, A12, n12, c12, B12, m12, d12, rfl, p1, q1⟩ := x1
  refine ⟨_, rfl, hb, ?_⟩
  replace EY := hid (EY.out.trans hb)
  have P12 := hid p1
  have D12 := hid q1
  clear hb p1 q1
  simp only [Act.put, pA, pB, pC]
  clear Q11
  refine WE.store3 (g := (w.heap.size + 1)) (x := .bool g12) (y := .slice A12 n12 c12) (z := .slice B12 m12 d12) (t := 26) rfl rfl (by rfl) (fun w hb => ?_) (BX1.out.up EY.out) (by rfl) fun ws hk hs => ?_
  · obtain ⟨ce0, ce1, ce2⟩ := hb.c3; obtain ⟨f0, f1, f2⟩ := hb.f3; go_simp
  intro hbx
  replace E := hid ((E.out.trans EY.out).keptG hk (by simp))
  replace BX1 := hid hbx
  replace P12 := hid (P12.out.kz hs)
  replace D12 := hid (D12.out.kz hs)
  clear hk hs hbx
  replace EY := hid (Ext.refl ws)
  refine WE.done ?_
  have r0 := (BX1.out.up EY.out).cell (o := 0) (v := .bool g12) rfl
  have r1 := (BX1.out.up EY.out).cell (o := 1) (v := .slice A12 n12 c12) rfl
  have r2 := (BX1.out.up EY.out).cell (o := 2) (v := .slice B12 m12 d12) rfl
  repeat go_step
  exact bodyPost_ret (v := .agg #[.bool g12, .slice A12 n12 c12, .slice B12 m12 d12]) (by simp [results, Tryz.results17, go_sem, r0, r1, r2]) rfl ⟨_, rfl, (IsR.mk (P12.out.up EY.out) (D12.out.up EY.out)), (E.out.trans EY.out)⟩

set_option maxHeartbeats 2000000 in
theorem fCmp_r {w : World} {u v : Value} {x y : Rat} {j : Nat} (h1 : WorthR w u x j) (h2 : WorthR w v y j) (hj : j ≤ 60) (hj1 : 1 ≤ j) {z : Int} (hz : M.rcmp x y = z) :
    Calls Tryz.prog 19 #[u, v] w (fun e w' => e = .returned (.int .i64 z) ∧ Ext w w') := by
  obtain ⟨g1, A1, n1, c1, B1, m1, d1, rfl⟩ := h1.shape
  have R1 := hid h1
  obtain ⟨g2, A2, n2, c2, B2, m2, d2, rfl⟩ := h2.shape
  have R2 := hid h2
  have HJ := hid hj
  have HJ1 := hid hj1
  have HZ := hid hz
  clear h1 h2 hj hj1 hz
  go_enter Tryz.func19, Tryz.ntmps19
  go_upto_region 1 with (fail)
  have E := hid (((Ext.refl w).alloc' (.cells #[.bool g1, .slice A1 n1 c1, .slice B1 m1 d1] 26)).alloc' (.cells #[.bool g2, .slice A2 n2 c2, .slice B2 m2 d2] 26))
  have BX0 : Hid (Box ((w.alloc (.cells #[.bool g1, .slice A1 n1 c1, .slice B1 m1 d1] 26)).alloc (.cells #[.bool g2, .slice A2 n2 c2, .slice B2 m2 d2] 26)) (w.heap.size) #[.bool g1, .slice A1 n1 c1, .slice B1 m1 d1] 26) := hid ((Box.at_ (w := w) #[.bool g1, .slice A1 n1 c1, .slice B1 m1 d1] 26 (by simp)).alloc (.cells #[.bool g2, .slice A2 n2 c2, .slice B2 m2 d2] 26))
  have BX1 : Hid (Box ((w.alloc (.cells #[.bool g1, .slice A1 n1 c1, .slice B1 m1 d1] 26)).alloc (.cells #[.bool g2, .slice A2 n2 c2, .slice B2 m2 d2] 26)) (w.heap.size + 1) #[.bool g2, .slice A2 n2 c2, .slice B2 m2 d2] 26) := hid (Box.at_ (w := (w.alloc (.cells #[.bool g1, .slice A1 n1 c1, .slice B1 m1 d1] 26))) #[.bool g2, .slice A2 n2 c2, .slice B2 m2 d2] 26 (by simp))
  replace R1 := hid (R1.out.up E.out)
  replace R2 := hid (R2.out.up E.out)
  refine wp_region_E [(0, 0), (2, 0), (1, 1), (3, 1), (4, 1), (5, 0)] (fun _ => (0, #[])) rfl (by kernel_rfl) (by intro j hj; cases hj) (fun _ _ d _ _ => by cases d <;> exact Iff.rfl) fun wd hb => ?_
  replace E := hid (E.out.trans hb)
  replace BX0 := hid (BX0.out.up hb)
  replace BX1 := hid (BX1.out.up hb)
  replace R1 := hid (R1.out.up hb)
  replace R2 := hid (R2.out.up hb)
  clear hb
  have EY := hid (Ext.refl wd)
  refine WE.pure (d := some 5) rfl rfl (by rfl) (v := (.agg #[.bool g1, .slice A1 n1 c1, .slice B1 m1 d1])) (fun w' hk => ?_) ?_
  · obtain ⟨ce0, ce1, ce2⟩ := ((BX0.out.up EY.out).up hk).c3; go_simp
  simp only [Act.put, pA, pB, pC]
  refine WE.pure (d := some 7) rfl rfl (by rfl) (v := (.agg #[.bool g2, .slice A2 n2 c2, .slice B2 m2 d2])) (fun w' hk => ?_) ?_
  · obtain ⟨ce0, ce1, ce2⟩ := ((BX1.out.up EY.out).up hk).c3; go_simp
  simp only [Act.put, pA, pB, pC]
  refine WE.call (d := some 6) rfl rfl (by rfl) (by go_simp) ((read_r (R1.out.up EY.out) (by have := HJ.out; have := HJ1.out; omega) (by have := HJ.out; have := HJ1.out; omega)).mono ?_)
  rintro e wn ⟨v1, rfl, x1, hb⟩
  obtain ⟨g11, A11, n11, c11, B11, m11, d11, rfl, p1, q1⟩ := x1
  refine ⟨_, rfl, hb, ?_⟩
  replace EY := hid (EY.out.trans hb)
  have P11 := hid p1
  have D11 := hid q1
  clear hb p1 q1
  simp only [Act.put, pA, pB, pC]
  refine WE.call (d := some 8) rfl rfl (by rfl) (by go_simp) ((read_r (R2.out.up EY.out) (by have := HJ.out; have := HJ1.out; omega) (by have := HJ.out; have := HJ1.out; omega)).mono ?_)
  rintro e wn ⟨v1, rfl, x1, hb⟩
  obtain ⟨g12, A12, n12, c12, B12, m12, d12, rfl, p1, q1⟩ := x1
  refine ⟨_, rfl, hb, ?_⟩
  replace EY := hid (EY.out.trans hb)
  replace P11 := hid (P11.out.up hb)
  replace D11 := hid (D11.out.up hb)
  have P12 := hid p1
  have D12 := hid q1
  clear hb p1 q1
  simp only [Act.put, pA, pB, pC]
  refine WE.call (d := some 9) rfl rfl (by rfl) (by go_simp) ((fcompare_r (InR.mk P11.out D11.out) (InR.mk P12.out D12.out) (by have := HJ.out; have := HJ1.out; omega) (z := z) (HZ.out)).mono ?_)
  rintro e wn ⟨rfl, hb⟩
  refine ⟨_, rfl, hb, ?_⟩
  replace EY := hid (EY.out.trans hb)
  clear hb
  simp only [Act.put, pA, pB, pC]
  clear P11
  clear D11
  clear P12
  clear D12
  refine WE.pure (d := some 4) rfl rfl (by rfl) (v := (.int .i64 z)) (fun w' hk => by go_simp) ?_
  simp only [Act.put, pA, pB, pC]
  refine WE.done ?_
  repeat go_step
  go_ret
  exact ⟨rfl, (E.out.trans EY.out)⟩

theorem zero_of {z : Int} {b : Bool} (h : decide (z = 0) = b) : (z == 0) = b := by rw [← h]; rfl

set_option maxHeartbeats 2000000 in
theorem fSame_r {w : World} {u v : Value} {x y : Rat} {j : Nat} (h1 : WorthR w u x j) (h2 : WorthR w v y j) (hj : j ≤ 60) (hj1 : 1 ≤ j) {b : Bool} (hb : decide (x = y) = b) :
    Calls Tryz.prog 21 #[u, v] w (GivesB w b) := by
  obtain ⟨g1, A1, n1, c1, B1, m1, d1, rfl⟩ := h1.shape
  have R1 := hid h1
  obtain ⟨g2, A2, n2, c2, B2, m2, d2, rfl⟩ := h2.shape
  have R2 := hid h2
  have HJ := hid hj
  have HJ1 := hid hj1
  obtain ⟨z, hz⟩ : ∃ z : Int, M.rcmp x y = z := ⟨_, rfl⟩
  have HZ := hid hz
  have hzb : (z == 0) = b := by rw [← hb, ← hz, Bool.eq_iff_iff, beq_iff_eq, decide_eq_true_iff]; exact M.rcmp_eq
  clear hz hb
  clear h1 h2 hj hj1
  go_enter Tryz.func21, Tryz.ntmps21
  go_upto_region 1 with (fail)
  have E := hid (((Ext.refl w).alloc' (.cells #[.bool g1, .slice A1 n1 c1, .slice B1 m1 d1] 26)).alloc' (.cells #[.bool g2, .slice A2 n2 c2, .slice B2 m2 d2] 26))
  have BX0 : Hid (Box ((w.alloc (.cells #[.bool g1, .slice A1 n1 c1, .slice B1 m1 d1] 26)).alloc (.cells #[.bool g2, .slice A2 n2 c2, .slice B2 m2 d2] 26)) (w.heap.size) #[.bool g1, .slice A1 n1 c1, .slice B1 m1 d1] 26) := hid ((Box.at_ (w := w) #[.bool g1, .slice A1 n1 c1, .slice B1 m1 d1] 26 (by simp)).alloc (.cells #[.bool g2, .slice A2 n2 c2, .slice B2 m2 d2] 26))
  have BX1 : Hid (Box ((w.alloc (.cells #[.bool g1, .slice A1 n1 c1, .slice B1 m1 d1] 26)).alloc (.cells #[.bool g2, .slice A2 n2 c2, .slice B2 m2 d2] 26)) (w.heap.size + 1) #[.bool g2, .slice A2 n2 c2, .slice B2 m2 d2] 26) := hid (Box.at_ (w := (w.alloc (.cells #[.bool g1, .slice A1 n1 c1, .slice B1 m1 d1] 26))) #[.bool g2, .slice A2 n2 c2, .slice B2 m2 d2] 26 (by simp))
  replace R1 := hid (R1.out.up E.out)
  replace R2 := hid (R2.out.up E.out)
  refine wp_region_T [(0, 0), (1, 0), (2, 1), (3, 0), (4, 0)] (by kernel_rfl) fun wd hb => ?_
  replace E := hid (E.out.trans hb)
  replace BX0 := hid (BX0.out.up hb)
  replace BX1 := hid (BX1.out.up hb)
  replace R1 := hid (R1.out.up hb)
  replace R2 := hid (R2.out.up hb)
  clear hb
  have EY := hid (Ext.refl wd)
  refine WE.pure (d := some 5) rfl rfl (by rfl) (v := (.agg #[.bool g1, .slice A1 n1 c1, .slice B1 m1 d1])) (fun w' hk => ?_) ?_
  · obtain ⟨ce0, ce1, ce2⟩ := ((BX0.out.up EY.out).up hk).c3; go_simp
  simp only [Act.put, pA, pB, pC]
  refine WE.pure (d := some 6) rfl rfl (by rfl) (v := (.agg #[.bool g2, .slice A2 n2 c2, .slice B2 m2 d2])) (fun w' hk => ?_) ?_
  · obtain ⟨ce0, ce1, ce2⟩ := ((BX1.out.up EY.out).up hk).c3; go_simp
  simp only [Act.put, pA, pB, pC]
  refine WE.call (d := some 7) rfl rfl (by rfl) (by go_simp) ((fCmp_r (R1.out.up EY.out) (R2.out.up EY.out) (by have := HJ.out; have := HJ1.out; omega) (by have := HJ.out; have := HJ1.out; omega) (z := z) (HZ.out)).mono ?_)
  rintro e wn ⟨rfl, hb⟩
  refine ⟨_, rfl, hb, ?_⟩
  replace EY := hid (EY.out.trans hb)
  clear hb
  simp only [Act.put, pA, pB, pC]
  refine WE.pure (d := some 8) rfl rfl (by rfl) (v := (.bool b)) (fun w' hk => by go_simp) ?_
  simp only [Act.put, pA, pB, pC]
  refine WE.pure (d := some 4) rfl rfl (by rfl) (v := (.bool b)) (fun w' hk => by go_simp) ?_
  simp only [Act.put, pA, pB, pC]
  refine WE.done ?_
  repeat go_step
  go_ret
  exact ⟨rfl, (E.out.trans EY.out)⟩

set_option maxHeartbeats 2000000 in
theorem fNeg_r {w : World} {u : Value} {x : Rat} {j : Nat} (h1 : WorthR w u x j) (hj : j ≤ 60) (hj1 : 1 ≤ j) :
    Calls Tryz.prog 23 #[u] w (GivesR w (-x) j) := by
  obtain ⟨g1, A1, n1, c1, B1, m1, d1, rfl⟩ := h1.shape
  have R1 := hid h1
  have HJ := hid hj
  have HJ1 := hid hj1
  clear h1 hj hj1
  go_enter Tryz.func23, Tryz.ntmps23
  go_upto_region 1 with (fail)
  have E := hid (((Ext.refl w).alloc' (.cells #[.bool g1, .slice A1 n1 c1, .slice B1 m1 d1] 26)).alloc' (.cells #[.bool false, .slice none 0 0, .slice none 0 0] 26))
  have BX0 : Hid (Box ((w.alloc (.cells #[.bool g1, .slice A1 n1 c1, .slice B1 m1 d1] 26)).alloc (.cells #[.bool false, .slice none 0 0, .slice none 0 0] 26)) (w.heap.size) #[.bool g1, .slice A1 n1 c1, .slice B1 m1 d1] 26) := hid ((Box.at_ (w := w) #[.bool g1, .slice A1 n1 c1, .slice B1 m1 d1] 26 (by simp)).alloc (.cells #[.bool false, .slice none 0 0, .slice none 0 0] 26))
  have BX1 : Hid (Box ((w.alloc (.cells #[.bool g1, .slice A1 n1 c1, .slice B1 m1 d1] 26)).alloc (.cells #[.bool false, .slice none 0 0, .slice none 0 0] 26)) (w.heap.size + 1) #[.bool false, .slice none 0 0, .slice none 0 0] 26) := hid (Box.at_ (w := (w.alloc (.cells #[.bool g1, .slice A1 n1 c1, .slice B1 m1 d1] 26))) #[.bool false, .slice none 0 0, .slice none 0 0] 26 (by simp))
  replace R1 := hid (R1.out.up E.out)
  refine wp_region_T [(0, 0), (1, 1), (2, 1), (3, 4)] (by kernel_rfl) fun wd hb => ?_
  replace E := hid (E.out.trans hb)
  replace BX0 := hid (BX0.out.up hb)
  replace BX1 := hid (BX1.out.up hb)
  replace R1 := hid (R1.out.up hb)
  clear hb
  have EY := hid (Ext.refl wd)
  refine WE.pure (d := some 4) rfl rfl (by rfl) (v := (.agg #[.bool g1, .slice A1 n1 c1, .slice B1 m1 d1])) (fun w' hk => ?_) ?_
  · obtain ⟨ce0, ce1, ce2⟩ := ((BX0.out.up EY.out).up hk).c3; go_simp
  simp only [Act.put, pA, pB, pC]
  refine WE.call (d := some 5) rfl rfl (by rfl) (by go_simp) ((read_r (R1.out.up EY.out) (by have := HJ.out; have := HJ1.out; omega) (by have := HJ.out; have := HJ1.out; omega)).mono ?_)
  rintro e wn ⟨v1, rfl, x1, hb⟩
  obtain ⟨g11, A11, n11, c11, B11, m11, d11, rfl, p1, q1⟩ := x1
  refine ⟨_, rfl, hb, ?_⟩
  replace EY := hid (EY.out.trans hb)
  have P11 := hid p1
  have D11 := hid q1
  clear hb p1 q1
  simp only [Act.put, pA, pB, pC]
  refine WE.new (d := some 3) (cs := #[.bool false, .slice none 0 0, .bool false, .slice none 0 0]) (t := 51) (v := fun g => (.pointer (some ⟨g, 0, none⟩))) rfl rfl (by rfl) (fun w => by go_simp) fun gV3 wv hx0 hbox hge => ?_
  have HNV3BX1 := hid (show gV3 ≠ (w.heap.size + 1) by have := (BX1.out.up EY.out).lt; omega)
  have HGV3 := hid (show w.heap.size ≤ gV3 by have := (E.out.trans EY.out).size; omega)
  replace EY := hid (EY.out.trans hx0)
  replace P11 := hid (P11.out.up hx0)
  replace D11 := hid (D11.out.up hx0)
  have V3 : Hid (Box wv gV3 #[.bool false, .slice none 0 0, .bool false, .slice none 0 0] 51) := hid hbox
  clear hx0 hbox hge
  simp only [Act.put, pA, pB, pC]
  refine WE.store4 (g := gV3) (x := .bool g11) (y := .slice A11 n11 c11) (z := .bool false) (q := .slice B11 m11 d11) (t := 51) rfl rfl (by rfl) (fun w hb => ?_) V3.out (by rfl) fun ws hk hs => ?_
  · obtain ⟨ce0, ce1, ce2, ce3⟩ := hb.c4; obtain ⟨f0, f1, f2, f3⟩ := hb.f4; go_simp
  intro hbx
  replace E := hid ((E.out.trans EY.out).keptG hk HGV3.out)
  replace BX1 := hid ((BX1.out.up EY.out).kept hk (by simpa using HNV3BX1.out.symm))
  replace V3 := hid hbx
  replace P11 := hid (P11.out.kz hs)
  replace D11 := hid (D11.out.kz hs)
  clear hk hs hbx
  replace EY := hid (Ext.refl ws)
  refine WE.done ?_
  go_upto_region 2 with (fail)
  refine wp_region_E [(0, 0), (1, 0), (3, 0), (4, 0), (2, 1), (5, 1), (6, 0), (7, 1), (8, 4)] (fun _ => (0, #[])) rfl (by kernel_rfl) (by intro j hj; cases hj) (fun _ _ d _ _ => by cases d <;> exact Iff.rfl) fun wd hb => ?_
  replace EY := hid (EY.out.trans hb)
  clear hb
  refine WE.pure (d := some 6) rfl rfl (by rfl) (v := (.pointer (some ⟨gV3, 0, none⟩))) (fun w' hk => by go_simp) ?_
  simp only [Act.put, pA, pB, pC]
  refine WE.pure (d := some 7) rfl rfl (by rfl) (v := (.agg #[.bool g11, .slice A11 n11 c11])) (fun w' hk => ?_) ?_
  · obtain ⟨ce0, ce1, ce2, ce3⟩ := ((V3.out.up EY.out).up hk).c4; go_simp
  simp only [Act.put, pA, pB, pC]
  refine WE.pure (d := some 9) rfl rfl (by rfl) (v := (.pointer (some ⟨gV3, 2, none⟩))) (fun w' hk => by go_simp) ?_
  simp only [Act.put, pA, pB, pC]
  refine WE.pure (d := some 10) rfl rfl (by rfl) (v := (.agg #[.bool false, .slice B11 m11 d11])) (fun w' hk => ?_) ?_
  · obtain ⟨ce0, ce1, ce2, ce3⟩ := ((V3.out.up EY.out).up hk).c4; go_simp
  simp only [Act.put, pA, pB, pC]
  refine WE.call (d := some 8) rfl rfl (by rfl) (by go_simp) ((negated_r (P11.out.up EY.out).worth (by have := HJ.out; have := HJ1.out; omega)).mono ?_)
  rintro e wn ⟨v1, rfl, x1, hb⟩
  obtain ⟨g12, A12, n12, c12, rfl⟩ := x1.shape
  refine ⟨_, rfl, hb, ?_⟩
  replace EY := hid (EY.out.trans hb)
  have Q12 := hid x1
  clear hb x1
  simp only [Act.put, pA, pB, pC]
  refine WE.call (d := some 11) rfl rfl (by rfl) (by go_simp) ((copied_r (D11.out.up EY.out) (by have := HJ.out; have := HJ1.out; omega)).mono ?_)
  rintro e wn ⟨v1, rfl, x1, hb⟩
  obtain ⟨g13, A13, n13, c13, rfl⟩ := x1.shape
  obtain rfl := (x1.to rfl).nat_side
  refine ⟨_, rfl, hb, ?_⟩
  replace EY := hid (EY.out.trans hb)
  replace Q12 := hid (Q12.out.up hb)
  have Q13 := hid (x1.to rfl)
  clear hb x1
  simp only [Act.put, pA, pB, pC]
  refine WE.pure (d := some 12) rfl rfl (by rfl) (v := (.agg #[.bool g12, .slice A12 n12 c12, .bool false, .slice A13 n13 c13])) (fun w' hk => by go_simp) ?_
  simp only [Act.put, pA, pB, pC]
  refine WE.call (d := some 13) rfl rfl (by rfl) (by go_simp) ((told_r (InR.mk (x := -x) Q12.out Q13.out)).mono ?_)
  rintro e wn ⟨v1, rfl, x1, hb⟩
  obtain ⟨g14, A14, n14, c14, B14, m14, d14, rfl, p1, q1⟩ := x1
  refine ⟨_, rfl, hb, ?_⟩
  replace EY := hid (EY.out.trans hb)
  have P14 := hid p1
  have D14 := hid q1
  clear hb p1 q1
  simp only [Act.put, pA, pB, pC]
  refine WE.store3 (g := (w.heap.size + 1)) (x := .bool g14) (y := .slice A14 n14 c14) (z := .slice B14 m14 d14) (t := 26) rfl rfl (by rfl) (fun w hb => ?_) (BX1.out.up EY.out) (by rfl) fun ws hk hs => ?_
  · obtain ⟨ce0, ce1, ce2⟩ := hb.c3; obtain ⟨f0, f1, f2⟩ := hb.f3; go_simp
  intro hbx
  replace E := hid ((E.out.trans EY.out).keptG hk (by simp))
  replace BX1 := hid hbx
  replace P14 := hid (P14.out.kz hs)
  replace D14 := hid (D14.out.kz hs)
  clear hk hs hbx
  replace EY := hid (Ext.refl ws)
  clear Q12
  clear Q13
  refine WE.done ?_
  have r0 := (BX1.out.up EY.out).cell (o := 0) (v := .bool g14) rfl
  have r1 := (BX1.out.up EY.out).cell (o := 1) (v := .slice A14 n14 c14) rfl
  have r2 := (BX1.out.up EY.out).cell (o := 2) (v := .slice B14 m14 d14) rfl
  repeat go_step
  exact bodyPost_ret (v := .agg #[.bool g14, .slice A14 n14 c14, .slice B14 m14 d14]) (by simp [results, Tryz.results23, go_sem, r0, r1, r2]) rfl ⟨_, rfl, (IsR.mk (P14.out.up EY.out) (D14.out.up EY.out)), (E.out.trans EY.out)⟩

set_option maxHeartbeats 2000000 in
theorem fFloor_r {w : World} {u : Value} {x : Rat} {j : Nat} (h1 : WorthR w u x j) (hj : j ≤ 60) (hj1 : 1 ≤ j) :
    Calls Tryz.prog 31 #[u] w (GivesZ w x.floor (max j 3 + 1)) := by
  obtain ⟨g1, A1, n1, c1, B1, m1, d1, rfl⟩ := h1.shape
  have R1 := hid h1
  have HJ := hid hj
  have HJ1 := hid hj1
  clear h1 hj hj1
  go_enter Tryz.func31, Tryz.ntmps31
  go_upto_region 1 with (fail)
  have E := hid (((Ext.refl w).alloc' (.cells #[.bool g1, .slice A1 n1 c1, .slice B1 m1 d1] 26)).alloc' (.cells #[.bool false, .slice none 0 0] 24))
  have BX0 : Hid (Box ((w.alloc (.cells #[.bool g1, .slice A1 n1 c1, .slice B1 m1 d1] 26)).alloc (.cells #[.bool false, .slice none 0 0] 24)) (w.heap.size) #[.bool g1, .slice A1 n1 c1, .slice B1 m1 d1] 26) := hid ((Box.at_ (w := w) #[.bool g1, .slice A1 n1 c1, .slice B1 m1 d1] 26 (by simp)).alloc (.cells #[.bool false, .slice none 0 0] 24))
  have BX1 : Hid (Box ((w.alloc (.cells #[.bool g1, .slice A1 n1 c1, .slice B1 m1 d1] 26)).alloc (.cells #[.bool false, .slice none 0 0] 24)) (w.heap.size + 1) #[.bool false, .slice none 0 0] 24) := hid (Box.at_ (w := (w.alloc (.cells #[.bool g1, .slice A1 n1 c1, .slice B1 m1 d1] 26))) #[.bool false, .slice none 0 0] 24 (by simp))
  replace R1 := hid (R1.out.up E.out)
  refine wp_region_T [(0, 0), (1, 1), (2, 1), (3, 4)] (by kernel_rfl) fun wd hb => ?_
  replace E := hid (E.out.trans hb)
  replace BX0 := hid (BX0.out.up hb)
  replace BX1 := hid (BX1.out.up hb)
  replace R1 := hid (R1.out.up hb)
  clear hb
  have EY := hid (Ext.refl wd)
  refine WE.pure (d := some 4) rfl rfl (by rfl) (v := (.agg #[.bool g1, .slice A1 n1 c1, .slice B1 m1 d1])) (fun w' hk => ?_) ?_
  · obtain ⟨ce0, ce1, ce2⟩ := ((BX0.out.up EY.out).up hk).c3; go_simp
  simp only [Act.put, pA, pB, pC]
  refine WE.call (d := some 5) rfl rfl (by rfl) (by go_simp) ((read_r (R1.out.up EY.out) (by have := HJ.out; have := HJ1.out; omega) (by have := HJ.out; have := HJ1.out; omega)).mono ?_)
  rintro e wn ⟨v1, rfl, x1, hb⟩
  obtain ⟨g11, A11, n11, c11, B11, m11, d11, rfl, p1, q1⟩ := x1
  refine ⟨_, rfl, hb, ?_⟩
  replace EY := hid (EY.out.trans hb)
  have P11 := hid p1
  have D11 := hid q1
  clear hb p1 q1
  simp only [Act.put, pA, pB, pC]
  refine WE.new (d := some 3) (cs := #[.bool false, .slice none 0 0, .bool false, .slice none 0 0]) (t := 51) (v := fun g => (.pointer (some ⟨g, 0, none⟩))) rfl rfl (by rfl) (fun w => by go_simp) fun gV3 wv hx0 hbox hge => ?_
  have HNV3BX1 := hid (show gV3 ≠ (w.heap.size + 1) by have := (BX1.out.up EY.out).lt; omega)
  have HGV3 := hid (show w.heap.size ≤ gV3 by have := (E.out.trans EY.out).size; omega)
  replace EY := hid (EY.out.trans hx0)
  replace P11 := hid (P11.out.up hx0)
  replace D11 := hid (D11.out.up hx0)
  have V3 : Hid (Box wv gV3 #[.bool false, .slice none 0 0, .bool false, .slice none 0 0] 51) := hid hbox
  clear hx0 hbox hge
  simp only [Act.put, pA, pB, pC]
  refine WE.store4 (g := gV3) (x := .bool g11) (y := .slice A11 n11 c11) (z := .bool false) (q := .slice B11 m11 d11) (t := 51) rfl rfl (by rfl) (fun w hb => ?_) V3.out (by rfl) fun ws hk hs => ?_
  · obtain ⟨ce0, ce1, ce2, ce3⟩ := hb.c4; obtain ⟨f0, f1, f2, f3⟩ := hb.f4; go_simp
  intro hbx
  replace E := hid ((E.out.trans EY.out).keptG hk HGV3.out)
  replace BX1 := hid ((BX1.out.up EY.out).kept hk (by simpa using HNV3BX1.out.symm))
  replace V3 := hid hbx
  replace P11 := hid (P11.out.kz hs)
  replace D11 := hid (D11.out.kz hs)
  clear hk hs hbx
  replace EY := hid (Ext.refl ws)
  refine WE.done ?_
  go_upto_region 2 with (fail)
  refine wp_region_T [(0, 0), (1, 0), (2, 0), (3, 0), (4, 1), (5, 4)] (by kernel_rfl) fun wd hb => ?_
  replace EY := hid (EY.out.trans hb)
  clear hb
  refine WE.pure (d := some 6) rfl rfl (by rfl) (v := (.pointer (some ⟨gV3, 0, none⟩))) (fun w' hk => by go_simp) ?_
  simp only [Act.put, pA, pB, pC]
  refine WE.pure (d := some 7) rfl rfl (by rfl) (v := (.agg #[.bool g11, .slice A11 n11 c11])) (fun w' hk => ?_) ?_
  · obtain ⟨ce0, ce1, ce2, ce3⟩ := ((V3.out.up EY.out).up hk).c4; go_simp
  simp only [Act.put, pA, pB, pC]
  refine WE.pure (d := some 8) rfl rfl (by rfl) (v := (.pointer (some ⟨gV3, 2, none⟩))) (fun w' hk => by go_simp) ?_
  simp only [Act.put, pA, pB, pC]
  refine WE.pure (d := some 9) rfl rfl (by rfl) (v := (.agg #[.bool false, .slice B11 m11 d11])) (fun w' hk => ?_) ?_
  · obtain ⟨ce0, ce1, ce2, ce3⟩ := ((V3.out.up EY.out).up hk).c4; go_simp
  simp only [Act.put, pA, pB, pC]
  refine WE.call (d := some 10) rfl rfl (by rfl) (by go_simp) ((by_r (P11.out.up EY.out).worth (D11.out.up EY.out).worth (by have := HJ.out; have := HJ1.out; omega) (by have := HJ.out; have := HJ1.out; omega)).mono ?_)
  rintro e wn ⟨v1, rfl, x1, hb⟩
  obtain ⟨g12, A12, n12, c12, rfl⟩ := x1.shape
  replace x1 := x1.to (M.floor_of x)
  refine ⟨_, rfl, hb, ?_⟩
  replace EY := hid (EY.out.trans hb)
  have Q12 := hid x1
  clear hb x1
  simp only [Act.put, pA, pB, pC]
  refine WE.store2 (g := (w.heap.size + 1)) (x := .bool g12) (y := .slice A12 n12 c12) (t := 24) rfl rfl (by rfl) (fun w hb => ?_) (BX1.out.up EY.out) (by rfl) fun ws hk hs => ?_
  · obtain ⟨ce0, ce1⟩ := hb.c2; obtain ⟨f0, f1⟩ := hb.f2; go_simp
  intro hbx
  replace E := hid ((E.out.trans EY.out).keptG hk (by simp))
  replace BX1 := hid hbx
  replace Q12 := hid (Q12.out.kz hs)
  clear hk hs hbx
  replace EY := hid (Ext.refl ws)
  refine WE.done ?_
  have r0 := (BX1.out.up EY.out).cell (o := 0) (v := .bool g12) rfl
  have r1 := (BX1.out.up EY.out).cell (o := 1) (v := .slice A12 n12 c12) rfl
  repeat go_step
  exact bodyPost_ret (v := .agg #[.bool g12, .slice A12 n12 c12]) (by simp [results, Tryz.results31, go_sem, r0, r1]) rfl ⟨_, rfl, (Q12.out.up EY.out), (E.out.trans EY.out)⟩

set_option maxHeartbeats 2000000 in
theorem fCeil_r {w : World} {u : Value} {x : Rat} {j : Nat} (h1 : WorthR w u x j) (hj : j ≤ 60) (hj1 : 1 ≤ j) :
    Calls Tryz.prog 33 #[u] w (GivesZ w x.ceil (max j 3 + 1)) := by
  obtain ⟨g1, A1, n1, c1, B1, m1, d1, rfl⟩ := h1.shape
  have R1 := hid h1
  have HJ := hid hj
  have HJ1 := hid hj1
  clear h1 hj hj1
  go_enter Tryz.func33, Tryz.ntmps33
  go_upto_region 1 with (fail)
  have E := hid (((Ext.refl w).alloc' (.cells #[.bool g1, .slice A1 n1 c1, .slice B1 m1 d1] 26)).alloc' (.cells #[.bool false, .slice none 0 0] 24))
  have BX0 : Hid (Box ((w.alloc (.cells #[.bool g1, .slice A1 n1 c1, .slice B1 m1 d1] 26)).alloc (.cells #[.bool false, .slice none 0 0] 24)) (w.heap.size) #[.bool g1, .slice A1 n1 c1, .slice B1 m1 d1] 26) := hid ((Box.at_ (w := w) #[.bool g1, .slice A1 n1 c1, .slice B1 m1 d1] 26 (by simp)).alloc (.cells #[.bool false, .slice none 0 0] 24))
  have BX1 : Hid (Box ((w.alloc (.cells #[.bool g1, .slice A1 n1 c1, .slice B1 m1 d1] 26)).alloc (.cells #[.bool false, .slice none 0 0] 24)) (w.heap.size + 1) #[.bool false, .slice none 0 0] 24) := hid (Box.at_ (w := (w.alloc (.cells #[.bool g1, .slice A1 n1 c1, .slice B1 m1 d1] 26))) #[.bool false, .slice none 0 0] 24 (by simp))
  replace R1 := hid (R1.out.up E.out)
  refine wp_region_T [(0, 0), (1, 1), (2, 1), (3, 4)] (by kernel_rfl) fun wd hb => ?_
  replace E := hid (E.out.trans hb)
  replace BX0 := hid (BX0.out.up hb)
  replace BX1 := hid (BX1.out.up hb)
  replace R1 := hid (R1.out.up hb)
  clear hb
  have EY := hid (Ext.refl wd)
  refine WE.pure (d := some 4) rfl rfl (by rfl) (v := (.agg #[.bool g1, .slice A1 n1 c1, .slice B1 m1 d1])) (fun w' hk => ?_) ?_
  · obtain ⟨ce0, ce1, ce2⟩ := ((BX0.out.up EY.out).up hk).c3; go_simp
  simp only [Act.put, pA, pB, pC]
  refine WE.call (d := some 5) rfl rfl (by rfl) (by go_simp) ((read_r (R1.out.up EY.out) (by have := HJ.out; have := HJ1.out; omega) (by have := HJ.out; have := HJ1.out; omega)).mono ?_)
  rintro e wn ⟨v1, rfl, x1, hb⟩
  obtain ⟨g11, A11, n11, c11, B11, m11, d11, rfl, p1, q1⟩ := x1
  refine ⟨_, rfl, hb, ?_⟩
  replace EY := hid (EY.out.trans hb)
  have P11 := hid p1
  have D11 := hid q1
  clear hb p1 q1
  simp only [Act.put, pA, pB, pC]
  refine WE.new (d := some 3) (cs := #[.bool false, .slice none 0 0, .bool false, .slice none 0 0]) (t := 51) (v := fun g => (.pointer (some ⟨g, 0, none⟩))) rfl rfl (by rfl) (fun w => by go_simp) fun gV3 wv hx0 hbox hge => ?_
  have HNV3BX1 := hid (show gV3 ≠ (w.heap.size + 1) by have := (BX1.out.up EY.out).lt; omega)
  have HGV3 := hid (show w.heap.size ≤ gV3 by have := (E.out.trans EY.out).size; omega)
  replace EY := hid (EY.out.trans hx0)
  replace P11 := hid (P11.out.up hx0)
  replace D11 := hid (D11.out.up hx0)
  have V3 : Hid (Box wv gV3 #[.bool false, .slice none 0 0, .bool false, .slice none 0 0] 51) := hid hbox
  clear hx0 hbox hge
  simp only [Act.put, pA, pB, pC]
  refine WE.store4 (g := gV3) (x := .bool g11) (y := .slice A11 n11 c11) (z := .bool false) (q := .slice B11 m11 d11) (t := 51) rfl rfl (by rfl) (fun w hb => ?_) V3.out (by rfl) fun ws hk hs => ?_
  · obtain ⟨ce0, ce1, ce2, ce3⟩ := hb.c4; obtain ⟨f0, f1, f2, f3⟩ := hb.f4; go_simp
  intro hbx
  replace E := hid ((E.out.trans EY.out).keptG hk HGV3.out)
  replace BX1 := hid ((BX1.out.up EY.out).kept hk (by simpa using HNV3BX1.out.symm))
  replace V3 := hid hbx
  replace P11 := hid (P11.out.kz hs)
  replace D11 := hid (D11.out.kz hs)
  clear hk hs hbx
  replace EY := hid (Ext.refl ws)
  refine WE.done ?_
  go_upto_region 2 with (fail)
  refine wp_region_E [(0, 0), (1, 0), (3, 0), (4, 0), (2, 1), (5, 1), (6, 1), (7, 4)] (fun _ => (0, #[])) rfl (by kernel_rfl) (by intro j hj; cases hj) (fun _ _ d _ _ => by cases d <;> exact Iff.rfl) fun wd hb => ?_
  replace EY := hid (EY.out.trans hb)
  clear hb
  refine WE.pure (d := some 6) rfl rfl (by rfl) (v := (.pointer (some ⟨gV3, 0, none⟩))) (fun w' hk => by go_simp) ?_
  simp only [Act.put, pA, pB, pC]
  refine WE.pure (d := some 7) rfl rfl (by rfl) (v := (.agg #[.bool g11, .slice A11 n11 c11])) (fun w' hk => ?_) ?_
  · obtain ⟨ce0, ce1, ce2, ce3⟩ := ((V3.out.up EY.out).up hk).c4; go_simp
  simp only [Act.put, pA, pB, pC]
  refine WE.pure (d := some 9) rfl rfl (by rfl) (v := (.pointer (some ⟨gV3, 2, none⟩))) (fun w' hk => by go_simp) ?_
  simp only [Act.put, pA, pB, pC]
  refine WE.pure (d := some 10) rfl rfl (by rfl) (v := (.agg #[.bool false, .slice B11 m11 d11])) (fun w' hk => ?_) ?_
  · obtain ⟨ce0, ce1, ce2, ce3⟩ := ((V3.out.up EY.out).up hk).c4; go_simp
  simp only [Act.put, pA, pB, pC]
  refine WE.call (d := some 8) rfl rfl (by rfl) (by go_simp) ((negated_r (P11.out.up EY.out).worth (by have := HJ.out; have := HJ1.out; omega)).mono ?_)
  rintro e wn ⟨v1, rfl, x1, hb⟩
  obtain ⟨g12, A12, n12, c12, rfl⟩ := x1.shape
  refine ⟨_, rfl, hb, ?_⟩
  replace EY := hid (EY.out.trans hb)
  have Q12 := hid x1
  clear hb x1
  simp only [Act.put, pA, pB, pC]
  refine WE.call (d := some 11) rfl rfl (by rfl) (by go_simp) ((by_r Q12.out.worth (D11.out.up EY.out).worth (by have := HJ.out; have := HJ1.out; omega) (by have := HJ.out; have := HJ1.out; omega)).mono ?_)
  rintro e wn ⟨v1, rfl, x1, hb⟩
  obtain ⟨g13, A13, n13, c13, rfl⟩ := x1.shape
  refine ⟨_, rfl, hb, ?_⟩
  replace EY := hid (EY.out.trans hb)
  have Q13 := hid x1
  clear hb x1
  simp only [Act.put, pA, pB, pC]
  clear Q12
  refine WE.call (d := some 12) rfl rfl (by rfl) (by go_simp) ((negated_r Q13.out.worth (by have := HJ.out; have := HJ1.out; omega)).mono ?_)
  rintro e wn ⟨v1, rfl, x1, hb⟩
  obtain ⟨g14, A14, n14, c14, rfl⟩ := x1.shape
  replace x1 := x1.to (M.ceil_of x)
  refine ⟨_, rfl, hb, ?_⟩
  replace EY := hid (EY.out.trans hb)
  have Q14 := hid x1
  clear hb x1
  simp only [Act.put, pA, pB, pC]
  refine WE.store2 (g := (w.heap.size + 1)) (x := .bool g14) (y := .slice A14 n14 c14) (t := 24) rfl rfl (by rfl) (fun w hb => ?_) (BX1.out.up EY.out) (by rfl) fun ws hk hs => ?_
  · obtain ⟨ce0, ce1⟩ := hb.c2; obtain ⟨f0, f1⟩ := hb.f2; go_simp
  intro hbx
  replace E := hid ((E.out.trans EY.out).keptG hk (by simp))
  replace BX1 := hid hbx
  replace Q14 := hid (Q14.out.kz hs)
  clear hk hs hbx
  replace EY := hid (Ext.refl ws)
  clear Q13
  refine WE.done ?_
  have r0 := (BX1.out.up EY.out).cell (o := 0) (v := .bool g14) rfl
  have r1 := (BX1.out.up EY.out).cell (o := 1) (v := .slice A14 n14 c14) rfl
  repeat go_step
  exact bodyPost_ret (v := .agg #[.bool g14, .slice A14 n14 c14]) (by simp [results, Tryz.results33, go_sem, r0, r1]) rfl ⟨_, rfl, (Q14.out.up EY.out), (E.out.trans EY.out)⟩

set_option maxHeartbeats 2000000 in
theorem fWhole_r {w : World} {u : Value} {x : Rat} {j : Nat} (h1 : WorthR w u x j) (hj : j ≤ 60) (hj1 : 1 ≤ j) {b : Bool} (hb : decide (x.den = 1) = b) :
    Calls Tryz.prog 35 #[u] w (GivesB w b) := by
  obtain ⟨g1, A1, n1, c1, B1, m1, d1, rfl⟩ := h1.shape
  have R1 := hid h1
  have HJ := hid hj
  have HJ1 := hid hj1
  obtain ⟨z, hz⟩ : ∃ z : Int, M.zcmp (x.den : Int) 1 = z := ⟨_, rfl⟩
  have HZ := hid hz
  have hzb : (z == 0) = b := by rw [← hb, ← hz, Bool.eq_iff_iff, beq_iff_eq, decide_eq_true_iff]; exact M.whole_eq x
  clear hz hb
  clear h1 hj hj1
  go_enter Tryz.func35, Tryz.ntmps35
  go_upto_region 1 with (fail)
  have E := hid ((Ext.refl w).alloc' (.cells #[.bool g1, .slice A1 n1 c1, .slice B1 m1 d1] 26))
  have BX0 : Hid (Box (w.alloc (.cells #[.bool g1, .slice A1 n1 c1, .slice B1 m1 d1] 26)) (w.heap.size) #[.bool g1, .slice A1 n1 c1, .slice B1 m1 d1] 26) := hid (Box.at_ (w := w) #[.bool g1, .slice A1 n1 c1, .slice B1 m1 d1] 26 (by simp))
  replace R1 := hid (R1.out.up E.out)
  refine wp_region_T [(0, 0), (1, 1), (2, 0), (3, 1), (4, 1), (5, 0), (6, 0)] (by kernel_rfl) fun wd hb => ?_
  replace E := hid (E.out.trans hb)
  replace BX0 := hid (BX0.out.up hb)
  replace R1 := hid (R1.out.up hb)
  clear hb
  have EY := hid (Ext.refl wd)
  refine WE.pure (d := some 3) rfl rfl (by rfl) (v := (.agg #[.bool g1, .slice A1 n1 c1, .slice B1 m1 d1])) (fun w' hk => ?_) ?_
  · obtain ⟨ce0, ce1, ce2⟩ := ((BX0.out.up EY.out).up hk).c3; go_simp
  simp only [Act.put, pA, pB, pC]
  refine WE.call (d := some 4) rfl rfl (by rfl) (by go_simp) ((read_r (R1.out.up EY.out) (by have := HJ.out; have := HJ1.out; omega) (by have := HJ.out; have := HJ1.out; omega)).mono ?_)
  rintro e wn ⟨v1, rfl, x1, hb⟩
  obtain ⟨g11, A11, n11, c11, B11, m11, d11, rfl, p1, q1⟩ := x1
  refine ⟨_, rfl, hb, ?_⟩
  replace EY := hid (EY.out.trans hb)
  have D11 := hid q1
  clear hb p1 q1
  simp only [Act.put, pA, pB, pC]
  refine WE.pure (d := some 5) rfl rfl (by rfl) (v := (.agg #[.bool false, .slice B11 m11 d11])) (fun w' hk => ?_) ?_
  · go_simp; unfold Instr.field asAgg; go_simp
  simp only [Act.put, pA, pB, pC]
  refine WE.call (d := some 6) rfl rfl (by rfl) (by go_simp) ((one_r _).mono ?_)
  rintro e wn ⟨v1, rfl, x1, hb⟩
  obtain ⟨g12, A12, n12, c12, rfl⟩ := x1.shape
  obtain rfl := (x1.to (show (1 : Int) = ((1 : Nat) : Int) from rfl)).nat_side
  refine ⟨_, rfl, hb, ?_⟩
  replace EY := hid (EY.out.trans hb)
  replace D11 := hid (D11.out.up hb)
  have Q12 := hid x1
  clear hb x1
  simp only [Act.put, pA, pB, pC]
  refine WE.call (d := some 7) rfl rfl (by rfl) (by go_simp) ((compare_r D11.out.worth Q12.out.worth (z := z) (HZ.out)).mono ?_)
  rintro e wn ⟨rfl, hb⟩
  refine ⟨_, rfl, hb, ?_⟩
  replace EY := hid (EY.out.trans hb)
  clear hb
  simp only [Act.put, pA, pB, pC]
  clear D11
  clear Q12
  refine WE.pure (d := some 8) rfl rfl (by rfl) (v := (.bool b)) (fun w' hk => by go_simp) ?_
  simp only [Act.put, pA, pB, pC]
  refine WE.pure (d := some 2) rfl rfl (by rfl) (v := (.bool b)) (fun w' hk => by go_simp) ?_
  simp only [Act.put, pA, pB, pC]
  refine WE.done ?_
  repeat go_step
  go_ret
  exact ⟨rfl, (E.out.trans EY.out)⟩

end Go.Proofs.YtkjfeedclaedfaaGreat
