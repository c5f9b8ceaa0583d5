/-
  Contracts of package rat: whether it is a fraction, what is read.
-/
import Derived.Test.YtkjfeedclaedfaaGreatRInner
namespace Go.Proofs.YtkjfeedclaedfaaGreat
open Go.RowKit
set_option linter.unusedSimpArgs false
set_option linter.unusedVariables false

set_option maxHeartbeats 1000000 in
theorem copied_r {w : World} {u : Value} {Z : Int} {j : Nat} (h1 : IsZ w u Z j) (hj : j ≤ 1000) :
    Calls Tryz.prog 61 #[u] w (GivesZ w Z j) := by
  obtain ⟨g1, A1, n1, c1, rfl⟩ := h1.shape
  have R1 := hid h1
  have HJ := hid hj
  clear h1 hj
  go_enter Tryz.func61, Tryz.ntmps61
  go_upto_region 1 with (fail)
  have E := hid (((Ext.refl w).alloc' (.cells #[.bool g1, .slice A1 n1 c1] 49)).alloc' (.cells #[.bool false, .slice none 0 0] 49))
  have BX0 : Hid (Box ((w.alloc (.cells #[.bool g1, .slice A1 n1 c1] 49)).alloc (.cells #[.bool false, .slice none 0 0] 49)) (w.heap.size) #[.bool g1, .slice A1 n1 c1] 49) := hid ((Box.at_ (w := w) #[.bool g1, .slice A1 n1 c1] 49 (by simp)).alloc (.cells #[.bool false, .slice none 0 0] 49))
  have BX1 : Hid (Box ((w.alloc (.cells #[.bool g1, .slice A1 n1 c1] 49)).alloc (.cells #[.bool false, .slice none 0 0] 49)) (w.heap.size + 1) #[.bool false, .slice none 0 0] 49) := hid (Box.at_ (w := (w.alloc (.cells #[.bool g1, .slice A1 n1 c1] 49))) #[.bool false, .slice none 0 0] 49 (by simp))
  replace R1 := hid (R1.out.up E.out)
  refine wp_region_E [(0, 0), (1, 0), (2, 0), (3, 0), (4, 1), (5, 0), (6, 4)] (fun _ => (0, #[])) rfl (by kernel_rfl) (by intro j hj; cases hj) (fun _ _ d _ _ => by cases d <;> exact Iff.rfl) fun wd hb => ?_
  replace E := hid (E.out.trans hb)
  replace BX0 := hid (BX0.out.up hb)
  replace BX1 := hid (BX1.out.up hb)
  replace R1 := hid (R1.out.up hb)
  clear hb
  have EY := hid (Ext.refl wd)
  refine WE.pure (d := some 3) rfl rfl (by rfl) (v := (.pointer (some ⟨(w.heap.size), 0, none⟩))) (fun w' hk => by go_simp) ?_
  simp only [Act.put, pA, pB, pC]
  refine WE.pure (d := some 4) rfl rfl (by rfl) (v := (.bool g1)) (fun w' hk => ?_) ?_
  · have ce0 := hk.cell ((BX0.out.up EY.out).cell (o := 0) (v := .bool g1) rfl); go_simp
  simp only [Act.put, pA, pB, pC]
  refine WE.pure (d := some 5) rfl rfl (by rfl) (v := (.pointer (some ⟨(w.heap.size), 1, none⟩))) (fun w' hk => by go_simp) ?_
  simp only [Act.put, pA, pB, pC]
  refine WE.pure (d := some 6) rfl rfl (by rfl) (v := (.slice A1 n1 c1)) (fun w' hk => ?_) ?_
  · have ce1 := hk.cell ((BX0.out.up EY.out).cell (o := 1) (v := .slice A1 n1 c1) rfl); go_simp
  simp only [Act.put, pA, pB, pC]
  refine WE.call (d := some 7) rfl rfl (by rfl) (by go_simp) ((clone_n (N := Z.natAbs) (k := j) ⟨(R1.out.up EY.out).parts.2.1, (R1.out.up EY.out).parts.2.2⟩ (by have := HJ.out; omega)).mono ?_)
  rintro e wn ⟨v1, rfl, x1, hb⟩
  obtain ⟨A11, n11, c11, rfl⟩ := x1.1.slice
  refine ⟨_, rfl, hb, ?_⟩
  replace EY := hid (EY.out.trans hb)
  have Q11 := hid (IsZ.mk (R1.out.up EY.out).parts.1 x1)
  clear hb x1
  simp only [Act.put, pA, pB, pC]
  refine WE.pure (d := some 8) rfl rfl (by rfl) (v := (.agg #[.bool g1, .slice A11 n11 c11])) (fun w' hk => by go_simp) ?_
  simp only [Act.put, pA, pB, pC]
  refine WE.store2 (g := (w.heap.size + 1)) (x := .bool g1) (y := .slice A11 n11 c11) (t := 49) rfl rfl (by rfl) (fun w hb => ?_) (BX1.out.up EY.out) (by rfl) fun ws hk hs => ?_
  · obtain ⟨ce0, ce1⟩ := hb.c2; obtain ⟨f0, f1⟩ := hb.f2; go_simp
  intro hbx
  replace E := hid ((E.out.trans EY.out).keptG hk (by simp))
  replace BX1 := hid hbx
  replace Q11 := hid (Q11.out.kz hs)
  clear hk hs hbx
  replace EY := hid (Ext.refl ws)
  refine WE.done ?_
  have r0 := (BX1.out.up EY.out).cell (o := 0) (v := .bool g1) rfl
  have r1 := (BX1.out.up EY.out).cell (o := 1) (v := .slice A11 n11 c11) rfl
  repeat go_step
  exact bodyPost_ret (v := .agg #[.bool g1, .slice A11 n11 c11]) (by simp [results, Tryz.results61, go_sem, r0, r1]) rfl ⟨_, rfl, (Q11.out.up EY.out), (E.out.trans EY.out)⟩

set_option maxHeartbeats 2000000 in
theorem fIs_a {w : World} {g1 : Bool} {A1 B1 : Option Addr} {n1 c1 m1 d1 K : Nat} {l1 r1 : List Nat} (h1 : Num w w.heap.size (.slice A1 n1 c1) l1) (h2 : Num w w.heap.size (.slice B1 m1 d1) r1) (hl : l1.length ≤ K) (hr : r1.length ≤ K) (hK : K ≤ 1000) (hc : M.isZ g1 l1 = false) :
    Calls Tryz.prog 12 #[.agg #[.bool g1, .slice A1 n1 c1, .slice B1 m1 d1]] w (GivesB w false) := by
  have N1 := hid h1
  have HC := hid hc
  clear h1 h2 hl hr hK hc
  go_enter Tryz.func12, Tryz.ntmps12
  go_upto_region 1 with (fail)
  have E := hid ((Ext.refl w).alloc' (.cells #[.bool g1, .slice A1 n1 c1, .slice B1 m1 d1] 26))
  have BX0 : Hid (Box (w.alloc (.cells #[.bool g1, .slice A1 n1 c1, .slice B1 m1 d1] 26)) (w.heap.size) #[.bool g1, .slice A1 n1 c1, .slice B1 m1 d1] 26) := hid (Box.at_ (w := w) #[.bool g1, .slice A1 n1 c1, .slice B1 m1 d1] 26 (by simp))
  replace N1 := hid (N1.out.up E.out)
  refine wp_region_T [(0, 0), (1, 0), (2, 1), (3, 0), (4, 0), (5, 0), (6, 0), (7, 1), (8, 0), (9, 0), (10, 0), (11, 0), (12, 0), (13, 0), (14, 0), (15, 0)] (by kernel_rfl) fun wd hb => ?_
  replace E := hid (E.out.trans hb)
  replace BX0 := hid (BX0.out.up hb)
  replace N1 := hid (N1.out.up hb)
  clear hb
  have EY := hid (Ext.refl wd)
  refine WE.pure (d := some 3) rfl rfl (by rfl) (v := (.pointer (some ⟨(w.heap.size), 0, none⟩))) (fun w' hk => by go_simp) ?_
  simp only [Act.put, pA, pB, pC]
  refine WE.pure (d := some 4) rfl rfl (by rfl) (v := (.agg #[.bool g1, .slice A1 n1 c1])) (fun w' hk => ?_) ?_
  · obtain ⟨ce0, ce1, ce2⟩ := ((BX0.out.up EY.out).up hk).c3; go_simp
  simp only [Act.put, pA, pB, pC]
  refine WE.call (d := some 5) rfl rfl (by rfl) (by go_simp) ((wIs_any (N1.out.up EY.out) HC.out).mono ?_)
  rintro e wn ⟨rfl, hb⟩
  refine ⟨_, rfl, hb, ?_⟩
  replace EY := hid (EY.out.trans hb)
  clear hb
  simp only [Act.put, pA, pB, pC]
  refine WE.pure (d := some 6) rfl rfl (by rfl) (v := (.bool true)) (fun w' hk => by go_simp) ?_
  simp only [Act.put, pA, pB, pC]
  refine WE.pure (d := some 7) rfl rfl (by rfl) (v := (.bool true)) (fun w' hk => by go_simp) ?_
  simp only [Act.put, pA, pB, pC]
  refine WE.skip (d := some 8) rfl rfl (by rfl) ?_
  simp only [Act.put, pA, pB, pC]
  refine WE.skip (d := some 9) rfl rfl (by rfl) ?_
  simp only [Act.put, pA, pB, pC]
  refine WE.pass (d := some 10) rfl rfl (by rfl) ?_
  simp only [Act.put, pA, pB, pC]
  refine WE.skip (d := some 11) rfl rfl (by rfl) ?_
  simp only [Act.put, pA, pB, pC]
  refine WE.pure (d := some 12) rfl rfl (by rfl) (v := (.bool true)) (fun w' hk => by go_simp) ?_
  simp only [Act.put, pA, pB, pC]
  refine WE.pure (d := some 13) rfl rfl (by rfl) (v := (.bool true)) (fun w' hk => by go_simp) ?_
  simp only [Act.put, pA, pB, pC]
  refine WE.skip (d := some 14) rfl rfl (by rfl) ?_
  simp only [Act.put, pA, pB, pC]
  refine WE.skip (d := some 15) rfl rfl (by rfl) ?_
  simp only [Act.put, pA, pB, pC]
  refine WE.skip (d := some 16) rfl rfl (by rfl) ?_
  simp only [Act.put, pA, pB, pC]
  refine WE.skip (d := some 17) rfl rfl (by rfl) ?_
  simp only [Act.put, pA, pB, pC]
  refine WE.pure (d := some 18) rfl rfl (by rfl) (v := (.bool true)) (fun w' hk => by go_simp) ?_
  simp only [Act.put, pA, pB, pC]
  refine WE.done ?_
  go_upto_region 2 with (fail)
  refine wp_region_T [(0, 0)] (by kernel_rfl) fun wd hb => ?_
  replace EY := hid (EY.out.trans hb)
  clear hb
  refine WE.pure (d := some 2) rfl rfl (by rfl) (v := (.bool false)) (fun w' hk => by go_simp) ?_
  simp only [Act.put, pA, pB, pC]
  refine WE.done ?_
  repeat go_step
  go_ret
  exact ⟨rfl, (E.out.trans EY.out)⟩

set_option maxHeartbeats 2000000 in
theorem fIs_b {w : World} {g1 : Bool} {A1 B1 : Option Addr} {n1 c1 m1 d1 K : Nat} {l1 r1 : List Nat} (h1 : Num w w.heap.size (.slice A1 n1 c1) l1) (h2 : Num w w.heap.size (.slice B1 m1 d1) r1) (hl : l1.length ≤ K) (hr : r1.length ≤ K) (hK : K ≤ 1000) (hc : M.isZ g1 l1 = true ∧ M.isNat r1 = false) :
    Calls Tryz.prog 12 #[.agg #[.bool g1, .slice A1 n1 c1, .slice B1 m1 d1]] w (GivesB w false) := by
  have N1 := hid h1
  have M1 := hid h2
  have HC := hid hc
  clear h1 h2 hl hr hK hc
  go_enter Tryz.func12, Tryz.ntmps12
  go_upto_region 1 with (fail)
  have E := hid ((Ext.refl w).alloc' (.cells #[.bool g1, .slice A1 n1 c1, .slice B1 m1 d1] 26))
  have BX0 : Hid (Box (w.alloc (.cells #[.bool g1, .slice A1 n1 c1, .slice B1 m1 d1] 26)) (w.heap.size) #[.bool g1, .slice A1 n1 c1, .slice B1 m1 d1] 26) := hid (Box.at_ (w := w) #[.bool g1, .slice A1 n1 c1, .slice B1 m1 d1] 26 (by simp))
  replace N1 := hid (N1.out.up E.out)
  replace M1 := hid (M1.out.up E.out)
  refine wp_region_T [(0, 0), (1, 0), (2, 1), (3, 0), (4, 0), (5, 0), (6, 0), (7, 1), (8, 0), (9, 0), (10, 0), (11, 0), (12, 0), (13, 0), (14, 0), (15, 0)] (by kernel_rfl) fun wd hb => ?_
  replace E := hid (E.out.trans hb)
  replace BX0 := hid (BX0.out.up hb)
  replace N1 := hid (N1.out.up hb)
  replace M1 := hid (M1.out.up hb)
  clear hb
  have EY := hid (Ext.refl wd)
  refine WE.pure (d := some 3) rfl rfl (by rfl) (v := (.pointer (some ⟨(w.heap.size), 0, none⟩))) (fun w' hk => by go_simp) ?_
  simp only [Act.put, pA, pB, pC]
  refine WE.pure (d := some 4) rfl rfl (by rfl) (v := (.agg #[.bool g1, .slice A1 n1 c1])) (fun w' hk => ?_) ?_
  · obtain ⟨ce0, ce1, ce2⟩ := ((BX0.out.up EY.out).up hk).c3; go_simp
  simp only [Act.put, pA, pB, pC]
  refine WE.call (d := some 5) rfl rfl (by rfl) (by go_simp) ((wIs_any (N1.out.up EY.out) HC.out.1).mono ?_)
  rintro e wn ⟨rfl, hb⟩
  refine ⟨_, rfl, hb, ?_⟩
  replace EY := hid (EY.out.trans hb)
  clear hb
  simp only [Act.put, pA, pB, pC]
  refine WE.pure (d := some 6) rfl rfl (by rfl) (v := (.bool false)) (fun w' hk => by go_simp) ?_
  simp only [Act.put, pA, pB, pC]
  refine WE.pure (d := some 7) rfl rfl (by rfl) (v := (.bool false)) (fun w' hk => by go_simp) ?_
  simp only [Act.put, pA, pB, pC]
  refine WE.pure (d := some 8) rfl rfl (by rfl) (v := (.pointer (some ⟨(w.heap.size), 2, none⟩))) (fun w' hk => by go_simp) ?_
  simp only [Act.put, pA, pB, pC]
  refine WE.pure (d := some 9) rfl rfl (by rfl) (v := (.slice B1 m1 d1)) (fun w' hk => ?_) ?_
  · have ce2 := hk.cell ((BX0.out.up EY.out).cell (o := 2) (v := .slice B1 m1 d1) rfl); go_simp
  simp only [Act.put, pA, pB, pC]
  refine WE.call (d := some 10) rfl rfl (by rfl) (f := 48) (args := #[(.slice B1 m1 d1)]) (by go_simp) ?_
  refine (isNat_l (M1.out.up EY.out) HC.out.2).mono ?_
  rintro e wq ⟨rfl, rfl⟩
  refine ⟨_, rfl, Ext.refl _, ?_⟩
  simp only [Act.put, pA, pB, pC]
  refine WE.pure (d := some 11) rfl rfl (by rfl) (v := (.bool true)) (fun w' hk => by go_simp) ?_
  simp only [Act.put, pA, pB, pC]
  refine WE.pure (d := some 12) rfl rfl (by rfl) (v := (.bool true)) (fun w' hk => by go_simp) ?_
  simp only [Act.put, pA, pB, pC]
  refine WE.pure (d := some 13) rfl rfl (by rfl) (v := (.bool true)) (fun w' hk => by go_simp) ?_
  simp only [Act.put, pA, pB, pC]
  refine WE.skip (d := some 14) rfl rfl (by rfl) ?_
  simp only [Act.put, pA, pB, pC]
  refine WE.skip (d := some 15) rfl rfl (by rfl) ?_
  simp only [Act.put, pA, pB, pC]
  refine WE.skip (d := some 16) rfl rfl (by rfl) ?_
  simp only [Act.put, pA, pB, pC]
  refine WE.skip (d := some 17) rfl rfl (by rfl) ?_
  simp only [Act.put, pA, pB, pC]
  refine WE.pure (d := some 18) rfl rfl (by rfl) (v := (.bool true)) (fun w' hk => by go_simp) ?_
  simp only [Act.put, pA, pB, pC]
  refine WE.done ?_
  go_upto_region 2 with (fail)
  refine wp_region_T [(0, 0)] (by kernel_rfl) fun wd hb => ?_
  replace EY := hid (EY.out.trans hb)
  clear hb
  refine WE.pure (d := some 2) rfl rfl (by rfl) (v := (.bool false)) (fun w' hk => by go_simp) ?_
  simp only [Act.put, pA, pB, pC]
  refine WE.done ?_
  repeat go_step
  go_ret
  exact ⟨rfl, (E.out.trans EY.out)⟩

set_option maxHeartbeats 2000000 in
theorem fIs_c {w : World} {g1 : Bool} {A1 B1 : Option Addr} {n1 c1 m1 d1 K : Nat} {l1 r1 : List Nat} (h1 : Num w w.heap.size (.slice A1 n1 c1) l1) (h2 : Num w w.heap.size (.slice B1 m1 d1) r1) (hl : l1.length ≤ K) (hr : r1.length ≤ K) (hK : K ≤ 1000) (hc : M.isZ g1 l1 = true ∧ M.isNat r1 = true ∧ r1 = []) :
    Calls Tryz.prog 12 #[.agg #[.bool g1, .slice A1 n1 c1, .slice B1 m1 d1]] w (GivesB w false) := by
  have N1 := hid h1
  have M1 := hid h2
  have HC := hid hc
  have hm : m1 = r1.length := by obtain ⟨_, _, _, e, h, _⟩ := h2; injection e with _ e2; rw [e2, h]
  have hm9 : m1 ≤ 9223372036854775807 := by obtain ⟨_, _, _, e, _, q1, q2, _⟩ := h2; injection e with _ e2 e3; unfold maxLen at q2; omega
  have hm0 : ((m1 : Int) == 0) = true := by rw [hm, hc.2.2]; rfl
  clear hm h1 h2 hl hr hK hc
  go_enter Tryz.func12, Tryz.ntmps12
  go_upto_region 1 with (fail)
  have E := hid ((Ext.refl w).alloc' (.cells #[.bool g1, .slice A1 n1 c1, .slice B1 m1 d1] 26))
  have BX0 : Hid (Box (w.alloc (.cells #[.bool g1, .slice A1 n1 c1, .slice B1 m1 d1] 26)) (w.heap.size) #[.bool g1, .slice A1 n1 c1, .slice B1 m1 d1] 26) := hid (Box.at_ (w := w) #[.bool g1, .slice A1 n1 c1, .slice B1 m1 d1] 26 (by simp))
  replace N1 := hid (N1.out.up E.out)
  replace M1 := hid (M1.out.up E.out)
  refine wp_region_T [(0, 0), (1, 0), (2, 1), (3, 0), (4, 0), (5, 0), (6, 0), (7, 1), (8, 0), (9, 0), (10, 0), (11, 0), (12, 0), (13, 0), (14, 0), (15, 0)] (by kernel_rfl) fun wd hb => ?_
  replace E := hid (E.out.trans hb)
  replace BX0 := hid (BX0.out.up hb)
  replace N1 := hid (N1.out.up hb)
  replace M1 := hid (M1.out.up hb)
  clear hb
  have EY := hid (Ext.refl wd)
  refine WE.pure (d := some 3) rfl rfl (by rfl) (v := (.pointer (some ⟨(w.heap.size), 0, none⟩))) (fun w' hk => by go_simp) ?_
  simp only [Act.put, pA, pB, pC]
  refine WE.pure (d := some 4) rfl rfl (by rfl) (v := (.agg #[.bool g1, .slice A1 n1 c1])) (fun w' hk => ?_) ?_
  · obtain ⟨ce0, ce1, ce2⟩ := ((BX0.out.up EY.out).up hk).c3; go_simp
  simp only [Act.put, pA, pB, pC]
  refine WE.call (d := some 5) rfl rfl (by rfl) (by go_simp) ((wIs_any (N1.out.up EY.out) HC.out.1).mono ?_)
  rintro e wn ⟨rfl, hb⟩
  refine ⟨_, rfl, hb, ?_⟩
  replace EY := hid (EY.out.trans hb)
  clear hb
  simp only [Act.put, pA, pB, pC]
  refine WE.pure (d := some 6) rfl rfl (by rfl) (v := (.bool false)) (fun w' hk => by go_simp) ?_
  simp only [Act.put, pA, pB, pC]
  refine WE.pure (d := some 7) rfl rfl (by rfl) (v := (.bool false)) (fun w' hk => by go_simp) ?_
  simp only [Act.put, pA, pB, pC]
  refine WE.pure (d := some 8) rfl rfl (by rfl) (v := (.pointer (some ⟨(w.heap.size), 2, none⟩))) (fun w' hk => by go_simp) ?_
  simp only [Act.put, pA, pB, pC]
  refine WE.pure (d := some 9) rfl rfl (by rfl) (v := (.slice B1 m1 d1)) (fun w' hk => ?_) ?_
  · have ce2 := hk.cell ((BX0.out.up EY.out).cell (o := 2) (v := .slice B1 m1 d1) rfl); go_simp
  simp only [Act.put, pA, pB, pC]
  refine WE.call (d := some 10) rfl rfl (by rfl) (f := 48) (args := #[(.slice B1 m1 d1)]) (by go_simp) ?_
  refine (isNat_l (M1.out.up EY.out) HC.out.2.1).mono ?_
  rintro e wq ⟨rfl, rfl⟩
  refine ⟨_, rfl, Ext.refl _, ?_⟩
  simp only [Act.put, pA, pB, pC]
  refine WE.pure (d := some 11) rfl rfl (by rfl) (v := (.bool false)) (fun w' hk => by go_simp) ?_
  simp only [Act.put, pA, pB, pC]
  refine WE.pure (d := some 12) rfl rfl (by rfl) (v := (.bool false)) (fun w' hk => by go_simp) ?_
  simp only [Act.put, pA, pB, pC]
  refine WE.pure (d := some 13) rfl rfl (by rfl) (v := (.bool false)) (fun w' hk => by go_simp) ?_
  simp only [Act.put, pA, pB, pC]
  refine WE.pure (d := some 14) rfl rfl (by rfl) (v := (.pointer (some ⟨(w.heap.size), 2, none⟩))) (fun w' hk => by go_simp) ?_
  simp only [Act.put, pA, pB, pC]
  refine WE.pure (d := some 15) rfl rfl (by rfl) (v := (.slice B1 m1 d1)) (fun w' hk => ?_) ?_
  · have ce2 := hk.cell ((BX0.out.up EY.out).cell (o := 2) (v := .slice B1 m1 d1) rfl); go_simp
  simp only [Act.put, pA, pB, pC]
  refine WE.pure (d := some 16) rfl rfl (by rfl) (v := (.int .i64 (m1 : Int))) (fun w' hk => by go_simp) ?_
  simp only [Act.put, pA, pB, pC]
  refine WE.pure (d := some 17) rfl rfl (by rfl) (v := (.bool true)) (fun w' hk => by go_simp) ?_
  simp only [Act.put, pA, pB, pC]
  refine WE.pure (d := some 18) rfl rfl (by rfl) (v := (.bool true)) (fun w' hk => by go_simp) ?_
  simp only [Act.put, pA, pB, pC]
  refine WE.done ?_
  go_upto_region 2 with (fail)
  refine wp_region_T [(0, 0)] (by kernel_rfl) fun wd hb => ?_
  replace EY := hid (EY.out.trans hb)
  clear hb
  refine WE.pure (d := some 2) rfl rfl (by rfl) (v := (.bool false)) (fun w' hk => by go_simp) ?_
  simp only [Act.put, pA, pB, pC]
  refine WE.done ?_
  repeat go_step
  go_ret
  exact ⟨rfl, (E.out.trans EY.out)⟩

set_option maxHeartbeats 2000000 in
theorem fIs_d {w : World} {g1 : Bool} {A1 B1 : Option Addr} {n1 c1 m1 d1 K : Nat} {l1 r1 : List Nat} (h1 : Num w w.heap.size (.slice A1 n1 c1) l1) (h2 : Num w w.heap.size (.slice B1 m1 d1) r1) (hl : l1.length ≤ K) (hr : r1.length ≤ K) (hK : K ≤ 1000) {b : Bool} (hc : M.isZ g1 l1 = true ∧ M.isNat r1 = true ∧ r1 ≠ [] ∧ decide (((Int.gcd (M.zv g1 l1) (M.val r1) : Nat) : Int) = 1) = b) :
    Calls Tryz.prog 12 #[.agg #[.bool g1, .slice A1 n1 c1, .slice B1 m1 d1]] w (GivesB w b) := by
  have N1 := hid h1
  have M1 := hid h2
  have HC := hid hc
  have HK := hid hK
  have hm : m1 = r1.length := by obtain ⟨_, _, _, e, h, _⟩ := h2; injection e with _ e2; rw [e2, h]
  have hm9 : m1 ≤ 9223372036854775807 := by obtain ⟨_, _, _, e, _, q1, q2, _⟩ := h2; injection e with _ e2 e3; unfold maxLen at q2; omega
  have hm0 : ((m1 : Int) == 0) = false := by have := List.length_pos_iff.2 hc.2.2.1; rw [beq_eq_false_iff_ne]; omega
  have R1 := hid (show Worth w (.agg #[.bool g1, .slice A1 n1 c1]) (M.zv g1 l1) K from ⟨_, _, _, _, _, rfl, h1, hl, rfl⟩)
  have S1 := hid (show Worth w (.agg #[.bool false, .slice B1 m1 d1]) (M.val r1 : Int) K from ⟨_, _, _, _, _, rfl, h2, hr, M.zv_pos (by rw [M.isZ_empty hc.2.1]; rfl)⟩)
  clear hm h1 h2 hl hr hK hc
  go_enter Tryz.func12, Tryz.ntmps12
  go_upto_region 1 with (fail)
  have E := hid ((Ext.refl w).alloc' (.cells #[.bool g1, .slice A1 n1 c1, .slice B1 m1 d1] 26))
  have BX0 : Hid (Box (w.alloc (.cells #[.bool g1, .slice A1 n1 c1, .slice B1 m1 d1] 26)) (w.heap.size) #[.bool g1, .slice A1 n1 c1, .slice B1 m1 d1] 26) := hid (Box.at_ (w := w) #[.bool g1, .slice A1 n1 c1, .slice B1 m1 d1] 26 (by simp))
  replace N1 := hid (N1.out.up E.out)
  replace M1 := hid (M1.out.up E.out)
  replace R1 := hid (R1.out.up E.out)
  replace S1 := hid (S1.out.up E.out)
  refine wp_region_T [(0, 0), (1, 0), (2, 1), (3, 0), (4, 0), (5, 0), (6, 0), (7, 1), (8, 0), (9, 0), (10, 0), (11, 0), (12, 0), (13, 0), (14, 0), (15, 0)] (by kernel_rfl) fun wd hb => ?_
  replace E := hid (E.out.trans hb)
  replace BX0 := hid (BX0.out.up hb)
  replace N1 := hid (N1.out.up hb)
  replace M1 := hid (M1.out.up hb)
  replace R1 := hid (R1.out.up hb)
  replace S1 := hid (S1.out.up hb)
  clear hb
  have EY := hid (Ext.refl wd)
  refine WE.pure (d := some 3) rfl rfl (by rfl) (v := (.pointer (some ⟨(w.heap.size), 0, none⟩))) (fun w' hk => by go_simp) ?_
  simp only [Act.put, pA, pB, pC]
  refine WE.pure (d := some 4) rfl rfl (by rfl) (v := (.agg #[.bool g1, .slice A1 n1 c1])) (fun w' hk => ?_) ?_
  · obtain ⟨ce0, ce1, ce2⟩ := ((BX0.out.up EY.out).up hk).c3; go_simp
  simp only [Act.put, pA, pB, pC]
  refine WE.call (d := some 5) rfl rfl (by rfl) (by go_simp) ((wIs_any (N1.out.up EY.out) HC.out.1).mono ?_)
  rintro e wn ⟨rfl, hb⟩
  refine ⟨_, rfl, hb, ?_⟩
  replace EY := hid (EY.out.trans hb)
  clear hb
  simp only [Act.put, pA, pB, pC]
  refine WE.pure (d := some 6) rfl rfl (by rfl) (v := (.bool false)) (fun w' hk => by go_simp) ?_
  simp only [Act.put, pA, pB, pC]
  refine WE.pure (d := some 7) rfl rfl (by rfl) (v := (.bool false)) (fun w' hk => by go_simp) ?_
  simp only [Act.put, pA, pB, pC]
  refine WE.pure (d := some 8) rfl rfl (by rfl) (v := (.pointer (some ⟨(w.heap.size), 2, none⟩))) (fun w' hk => by go_simp) ?_
  simp only [Act.put, pA, pB, pC]
  refine WE.pure (d := some 9) rfl rfl (by rfl) (v := (.slice B1 m1 d1)) (fun w' hk => ?_) ?_
  · have ce2 := hk.cell ((BX0.out.up EY.out).cell (o := 2) (v := .slice B1 m1 d1) rfl); go_simp
  simp only [Act.put, pA, pB, pC]
  refine WE.call (d := some 10) rfl rfl (by rfl) (f := 48) (args := #[(.slice B1 m1 d1)]) (by go_simp) ?_
  refine (isNat_l (M1.out.up EY.out) HC.out.2.1).mono ?_
  rintro e wq ⟨rfl, rfl⟩
  refine ⟨_, rfl, Ext.refl _, ?_⟩
  simp only [Act.put, pA, pB, pC]
  refine WE.pure (d := some 11) rfl rfl (by rfl) (v := (.bool false)) (fun w' hk => by go_simp) ?_
  simp only [Act.put, pA, pB, pC]
  refine WE.pure (d := some 12) rfl rfl (by rfl) (v := (.bool false)) (fun w' hk => by go_simp) ?_
  simp only [Act.put, pA, pB, pC]
  refine WE.pure (d := some 13) rfl rfl (by rfl) (v := (.bool false)) (fun w' hk => by go_simp) ?_
  simp only [Act.put, pA, pB, pC]
  refine WE.pure (d := some 14) rfl rfl (by rfl) (v := (.pointer (some ⟨(w.heap.size), 2, none⟩))) (fun w' hk => by go_simp) ?_
  simp only [Act.put, pA, pB, pC]
  refine WE.pure (d := some 15) rfl rfl (by rfl) (v := (.slice B1 m1 d1)) (fun w' hk => ?_) ?_
  · have ce2 := hk.cell ((BX0.out.up EY.out).cell (o := 2) (v := .slice B1 m1 d1) rfl); go_simp
  simp only [Act.put, pA, pB, pC]
  refine WE.pure (d := some 16) rfl rfl (by rfl) (v := (.int .i64 (m1 : Int))) (fun w' hk => by go_simp) ?_
  simp only [Act.put, pA, pB, pC]
  refine WE.pure (d := some 17) rfl rfl (by rfl) (v := (.bool false)) (fun w' hk => by go_simp) ?_
  simp only [Act.put, pA, pB, pC]
  refine WE.pure (d := some 18) rfl rfl (by rfl) (v := (.bool false)) (fun w' hk => by go_simp) ?_
  simp only [Act.put, pA, pB, pC]
  refine WE.done ?_
  go_upto_region 3 with (fail)
  refine wp_region_T [(0, 0), (1, 0), (2, 0), (3, 0), (4, 0), (5, 1), (6, 1), (7, 1), (8, 0)] (by kernel_rfl) fun wd hb => ?_
  replace EY := hid (EY.out.trans hb)
  clear hb
  refine WE.pure (d := some 19) rfl rfl (by rfl) (v := (.pointer (some ⟨(w.heap.size), 0, none⟩))) (fun w' hk => by go_simp) ?_
  simp only [Act.put, pA, pB, pC]
  refine WE.pure (d := some 20) rfl rfl (by rfl) (v := (.agg #[.bool g1, .slice A1 n1 c1])) (fun w' hk => ?_) ?_
  · obtain ⟨ce0, ce1, ce2⟩ := ((BX0.out.up EY.out).up hk).c3; go_simp
  simp only [Act.put, pA, pB, pC]
  refine WE.pure (d := some 21) rfl rfl (by rfl) (v := (.pointer (some ⟨(w.heap.size), 2, none⟩))) (fun w' hk => by go_simp) ?_
  simp only [Act.put, pA, pB, pC]
  refine WE.pure (d := some 22) rfl rfl (by rfl) (v := (.slice B1 m1 d1)) (fun w' hk => ?_) ?_
  · have ce2 := hk.cell ((BX0.out.up EY.out).cell (o := 2) (v := .slice B1 m1 d1) rfl); go_simp
  simp only [Act.put, pA, pB, pC]
  refine WE.pure (d := some 23) rfl rfl (by rfl) (v := (.agg #[.bool false, .slice B1 m1 d1])) (fun w' hk => by go_simp) ?_
  simp only [Act.put, pA, pB, pC]
  refine WE.call (d := some 24) rfl rfl (by rfl) (by go_simp) ((gOf_w (Worth.wide (R1.out.up EY.out) (k := K) (by have := HK.out; omega)) (Worth.wide (S1.out.up EY.out) (k := K) (by have := HK.out; omega)) (by have := HK.out; omega)).mono ?_)
  rintro e wn ⟨v1, rfl, x1, hb⟩
  obtain ⟨g11, A11, n11, c11, rfl⟩ := x1.shape
  refine ⟨_, rfl, hb, ?_⟩
  replace EY := hid (EY.out.trans hb)
  have Q11 := hid x1
  clear hb x1
  simp only [Act.put, pA, pB, pC]
  refine WE.call (d := some 25) rfl rfl (by rfl) (by go_simp) ((of_z (n := (1)) (by decide) (by decide) _).mono ?_)
  rintro e wn ⟨v1, rfl, x1, hb⟩
  obtain ⟨g12, A12, n12, c12, rfl⟩ := x1.shape
  refine ⟨_, rfl, hb, ?_⟩
  replace EY := hid (EY.out.trans hb)
  replace Q11 := hid (Q11.out.up hb)
  have Q12 := hid x1
  clear hb x1
  simp only [Act.put, pA, pB, pC]
  refine WE.call (d := some 26) rfl rfl (by rfl) (by go_simp) ((same_w Q11.out.worth Q12.out.worth (b := b) HC.out.2.2.2).mono ?_)
  rintro e wn ⟨rfl, hb⟩
  refine ⟨_, rfl, hb, ?_⟩
  replace EY := hid (EY.out.trans hb)
  clear hb
  simp only [Act.put, pA, pB, pC]
  clear Q11
  clear Q12
  refine WE.pure (d := some 2) rfl rfl (by rfl) (v := (.bool b)) (fun w' hk => by go_simp) ?_
  simp only [Act.put, pA, pB, pC]
  refine WE.done ?_
  repeat go_step
  go_ret
  exact ⟨rfl, (E.out.trans EY.out)⟩

theorem fIs_any {w : World} {g1 : Bool} {A1 B1 : Option Addr} {n1 c1 m1 d1 K : Nat} {l1 r1 : List Nat} (h1 : Num w w.heap.size (.slice A1 n1 c1) l1) (h2 : Num w w.heap.size (.slice B1 m1 d1) r1) (hl : l1.length ≤ K) (hr : r1.length ≤ K) (hK : K ≤ 1000) {b : Bool} (hb : M.isR g1 l1 r1 = b) :
    Calls Tryz.prog 12 #[.agg #[.bool g1, .slice A1 n1 c1, .slice B1 m1 d1]] w (GivesB w b) := by
  subst hb
  cases e1 : M.isZ g1 l1 with
  | false => rw [M.isR_bad e1]; exact fIs_a h1 h2 hl hr hK e1
  | true =>
    cases e2 : M.isNat r1 with
    | false => rw [M.isR_bad2 e2]; exact fIs_b h1 h2 hl hr hK ⟨e1, e2⟩
    | true =>
      by_cases e3 : r1 = []
      · rw [show M.isR g1 l1 r1 = false by rw [e3]; exact M.isR_bad3]; exact fIs_c h1 h2 hl hr hK ⟨e1, e2, e3⟩
      · exact fIs_d h1 h2 hl hr hK ⟨e1, e2, e3, (M.isR_by e1 e2 e3).symm⟩

set_option maxHeartbeats 1000000 in
theorem read_false {w : World} {g1 : Bool} {A1 B1 : Option Addr} {n1 c1 m1 d1 K : Nat} {l1 r1 : List Nat} (h1 : Num w w.heap.size (.slice A1 n1 c1) l1) (h2 : Num w w.heap.size (.slice B1 m1 d1) r1) (hl : l1.length ≤ K) (hr : r1.length ≤ K) (hK : K ≤ 1000) (hK1 : 1 ≤ K) (hb : M.isR g1 l1 r1 = false) :
    Calls Tryz.prog 39 #[.agg #[.bool g1, .slice A1 n1 c1, .slice B1 m1 d1]] w (GivesIn w (M.rv g1 l1 r1) K) := by
  have N1 := hid h1
  have M1 := hid h2
  have HB := hid hb
  have HL := hid hl
  have HR := hid hr
  have HK := hid hK
  have HK1 := hid hK1
  clear h1 h2 hl hr hK hK1 hb
  go_enter Tryz.func39, Tryz.ntmps39
  go_upto_region 1 with (fail)
  have E := hid (((Ext.refl w).alloc' (.cells #[.bool g1, .slice A1 n1 c1, .slice B1 m1 d1] 26)).alloc' (.cells #[.bool false, .slice none 0 0, .bool false, .slice none 0 0] 51))
  have BX0 : Hid (Box ((w.alloc (.cells #[.bool g1, .slice A1 n1 c1, .slice B1 m1 d1] 26)).alloc (.cells #[.bool false, .slice none 0 0, .bool false, .slice none 0 0] 51)) (w.heap.size) #[.bool g1, .slice A1 n1 c1, .slice B1 m1 d1] 26) := hid ((Box.at_ (w := w) #[.bool g1, .slice A1 n1 c1, .slice B1 m1 d1] 26 (by simp)).alloc (.cells #[.bool false, .slice none 0 0, .bool false, .slice none 0 0] 51))
  have BX1 : Hid (Box ((w.alloc (.cells #[.bool g1, .slice A1 n1 c1, .slice B1 m1 d1] 26)).alloc (.cells #[.bool false, .slice none 0 0, .bool false, .slice none 0 0] 51)) (w.heap.size + 1) #[.bool false, .slice none 0 0, .bool false, .slice none 0 0] 51) := hid (Box.at_ (w := (w.alloc (.cells #[.bool g1, .slice A1 n1 c1, .slice B1 m1 d1] 26))) #[.bool false, .slice none 0 0, .bool false, .slice none 0 0] 51 (by simp))
  replace N1 := hid (N1.out.up E.out)
  replace M1 := hid (M1.out.up E.out)
  refine wp_region_T [(0, 0), (1, 1), (2, 0)] (by kernel_rfl) fun wd hb => ?_
  replace E := hid (E.out.trans hb)
  replace BX0 := hid (BX0.out.up hb)
  replace BX1 := hid (BX1.out.up hb)
  replace N1 := hid (N1.out.up hb)
  replace M1 := hid (M1.out.up hb)
  clear hb
  have EY := hid (Ext.refl wd)
  refine WE.pure (d := some 3) rfl rfl (by rfl) (v := (.agg #[.bool g1, .slice A1 n1 c1, .slice B1 m1 d1])) (fun w' hk => ?_) ?_
  · obtain ⟨ce0, ce1, ce2⟩ := ((BX0.out.up EY.out).up hk).c3; go_simp
  simp only [Act.put, pA, pB, pC]
  refine WE.call (d := some 4) rfl rfl (by rfl) (by go_simp) ((fIs_any (N1.out.up EY.out) (M1.out.up EY.out) HL.out HR.out HK.out HB.out).mono ?_)
  rintro e wn ⟨rfl, hb⟩
  refine ⟨_, rfl, hb, ?_⟩
  replace EY := hid (EY.out.trans hb)
  clear hb
  simp only [Act.put, pA, pB, pC]
  refine WE.pure (d := some 5) rfl rfl (by rfl) (v := (.bool true)) (fun w' hk => by go_simp) ?_
  simp only [Act.put, pA, pB, pC]
  refine WE.done ?_
  go_upto_region 2 with (fail)
  refine wp_region_T [(0, 1), (1, 0), (2, 4)] (by kernel_rfl) fun wd hb => ?_
  replace EY := hid (EY.out.trans hb)
  clear hb
  refine WE.call (d := some 6) rfl rfl (by rfl) (by go_simp) ((one_r _).mono ?_)
  rintro e wn ⟨v1, rfl, x1, hb⟩
  obtain ⟨g11, A11, n11, c11, rfl⟩ := x1.shape
  obtain rfl := (x1.to (show (1 : Int) = ((1 : Nat) : Int) from rfl)).nat_side
  refine ⟨_, rfl, hb, ?_⟩
  replace EY := hid (EY.out.trans hb)
  have Q11 := hid x1
  clear hb x1
  simp only [Act.put, pA, pB, pC]
  refine WE.pure (d := some 7) rfl rfl (by rfl) (v := (.agg #[.bool false, .slice none 0 0, .bool false, .slice A11 n11 c11])) (fun w' hk => by go_simp) ?_
  simp only [Act.put, pA, pB, pC]
  refine WE.store4 (g := (w.heap.size + 1)) (x := .bool false) (y := .slice none 0 0) (z := .bool false) (q := .slice A11 n11 c11) (t := 51) rfl rfl (by rfl) (fun w hb => ?_) (BX1.out.up EY.out) (by rfl) fun ws hk hs => ?_
  · obtain ⟨ce0, ce1, ce2, ce3⟩ := hb.c4; obtain ⟨f0, f1, f2, f3⟩ := hb.f4; go_simp
  intro hbx
  replace E := hid ((E.out.trans EY.out).keptG hk (by simp))
  replace BX1 := hid hbx
  replace Q11 := hid (Q11.out.kz hs)
  clear hk hs hbx
  replace EY := hid (Ext.refl ws)
  refine WE.done ?_
  have r0 := (BX1.out.up EY.out).cell (o := 0) (v := .bool false) rfl
  have r1 := (BX1.out.up EY.out).cell (o := 1) (v := .slice none 0 0) rfl
  have r2 := (BX1.out.up EY.out).cell (o := 2) (v := .bool false) rfl
  have r3 := (BX1.out.up EY.out).cell (o := 3) (v := .slice A11 n11 c11) rfl
  repeat go_step
  exact bodyPost_ret (v := .agg #[.bool false, .slice none 0 0, .bool false, .slice A11 n11 c11]) (by simp [results, Tryz.results39, go_sem, r0, r1, r2, r3]) rfl ⟨_, rfl, by rw [M.rv_off HB.out]; exact InR.mk (x := 0) (IsZ.nought.wide (Nat.zero_le _)) ((Q11.out.up EY.out).wide HK1.out), (E.out.trans EY.out)⟩

set_option maxHeartbeats 1000000 in
theorem read_true {w : World} {g1 : Bool} {A1 B1 : Option Addr} {n1 c1 m1 d1 K : Nat} {l1 r1 : List Nat} (h1 : Num w w.heap.size (.slice A1 n1 c1) l1) (h2 : Num w w.heap.size (.slice B1 m1 d1) r1) (hl : l1.length ≤ K) (hr : r1.length ≤ K) (hK : K ≤ 1000) (hK1 : 1 ≤ K) (hb : M.isR g1 l1 r1 = true) :
    Calls Tryz.prog 39 #[.agg #[.bool g1, .slice A1 n1 c1, .slice B1 m1 d1]] w (GivesIn w (M.rv g1 l1 r1) K) := by
  have N1 := hid h1
  have M1 := hid h2
  have HB := hid hb
  have HL := hid hl
  have HR := hid hr
  have HK := hid hK
  clear h1 h2 hl hr hK hK1 hb
  go_enter Tryz.func39, Tryz.ntmps39
  go_upto_region 1 with (fail)
  have E := hid (((Ext.refl w).alloc' (.cells #[.bool g1, .slice A1 n1 c1, .slice B1 m1 d1] 26)).alloc' (.cells #[.bool false, .slice none 0 0, .bool false, .slice none 0 0] 51))
  have BX0 : Hid (Box ((w.alloc (.cells #[.bool g1, .slice A1 n1 c1, .slice B1 m1 d1] 26)).alloc (.cells #[.bool false, .slice none 0 0, .bool false, .slice none 0 0] 51)) (w.heap.size) #[.bool g1, .slice A1 n1 c1, .slice B1 m1 d1] 26) := hid ((Box.at_ (w := w) #[.bool g1, .slice A1 n1 c1, .slice B1 m1 d1] 26 (by simp)).alloc (.cells #[.bool false, .slice none 0 0, .bool false, .slice none 0 0] 51))
  have BX1 : Hid (Box ((w.alloc (.cells #[.bool g1, .slice A1 n1 c1, .slice B1 m1 d1] 26)).alloc (.cells #[.bool false, .slice none 0 0, .bool false, .slice none 0 0] 51)) (w.heap.size + 1) #[.bool false, .slice none 0 0, .bool false, .slice none 0 0] 51) := hid (Box.at_ (w := (w.alloc (.cells #[.bool g1, .slice A1 n1 c1, .slice B1 m1 d1] 26))) #[.bool false, .slice none 0 0, .bool false, .slice none 0 0] 51 (by simp))
  replace N1 := hid (N1.out.up E.out)
  replace M1 := hid (M1.out.up E.out)
  refine wp_region_T [(0, 0), (1, 1), (2, 0)] (by kernel_rfl) fun wd hb => ?_
  replace E := hid (E.out.trans hb)
  replace BX0 := hid (BX0.out.up hb)
  replace BX1 := hid (BX1.out.up hb)
  replace N1 := hid (N1.out.up hb)
  replace M1 := hid (M1.out.up hb)
  clear hb
  have EY := hid (Ext.refl wd)
  refine WE.pure (d := some 3) rfl rfl (by rfl) (v := (.agg #[.bool g1, .slice A1 n1 c1, .slice B1 m1 d1])) (fun w' hk => ?_) ?_
  · obtain ⟨ce0, ce1, ce2⟩ := ((BX0.out.up EY.out).up hk).c3; go_simp
  simp only [Act.put, pA, pB, pC]
  refine WE.call (d := some 4) rfl rfl (by rfl) (by go_simp) ((fIs_any (N1.out.up EY.out) (M1.out.up EY.out) HL.out HR.out HK.out HB.out).mono ?_)
  rintro e wn ⟨rfl, hb⟩
  refine ⟨_, rfl, hb, ?_⟩
  replace EY := hid (EY.out.trans hb)
  clear hb
  simp only [Act.put, pA, pB, pC]
  refine WE.pure (d := some 5) rfl rfl (by rfl) (v := (.bool false)) (fun w' hk => by go_simp) ?_
  simp only [Act.put, pA, pB, pC]
  refine WE.done ?_
  go_upto_region 3 with (fail)
  refine wp_region_T [(0, 0), (1, 0), (2, 0), (3, 0), (4, 0), (5, 0), (6, 4)] (by kernel_rfl) fun wd hb => ?_
  replace EY := hid (EY.out.trans hb)
  clear hb
  refine WE.pure (d := some 8) rfl rfl (by rfl) (v := (.pointer (some ⟨(w.heap.size), 0, none⟩))) (fun w' hk => by go_simp) ?_
  simp only [Act.put, pA, pB, pC]
  refine WE.pure (d := some 9) rfl rfl (by rfl) (v := (.agg #[.bool g1, .slice A1 n1 c1])) (fun w' hk => ?_) ?_
  · obtain ⟨ce0, ce1, ce2⟩ := ((BX0.out.up EY.out).up hk).c3; go_simp
  simp only [Act.put, pA, pB, pC]
  refine WE.pure (d := some 10) rfl rfl (by rfl) (v := (.pointer (some ⟨(w.heap.size), 2, none⟩))) (fun w' hk => by go_simp) ?_
  simp only [Act.put, pA, pB, pC]
  refine WE.pure (d := some 11) rfl rfl (by rfl) (v := (.slice B1 m1 d1)) (fun w' hk => ?_) ?_
  · have ce2 := hk.cell ((BX0.out.up EY.out).cell (o := 2) (v := .slice B1 m1 d1) rfl); go_simp
  simp only [Act.put, pA, pB, pC]
  refine WE.pure (d := some 12) rfl rfl (by rfl) (v := (.agg #[.bool false, .slice B1 m1 d1])) (fun w' hk => by go_simp) ?_
  simp only [Act.put, pA, pB, pC]
  refine WE.pure (d := some 13) rfl rfl (by rfl) (v := (.agg #[.bool g1, .slice A1 n1 c1, .bool false, .slice B1 m1 d1])) (fun w' hk => by go_simp) ?_
  simp only [Act.put, pA, pB, pC]
  refine WE.store4 (g := (w.heap.size + 1)) (x := .bool g1) (y := .slice A1 n1 c1) (z := .bool false) (q := .slice B1 m1 d1) (t := 51) rfl rfl (by rfl) (fun w hb => ?_) (BX1.out.up EY.out) (by rfl) fun ws hk hs => ?_
  · obtain ⟨ce0, ce1, ce2, ce3⟩ := hb.c4; obtain ⟨f0, f1, f2, f3⟩ := hb.f4; go_simp
  intro hbx
  replace E := hid ((E.out.trans EY.out).keptG hk (by simp))
  replace BX1 := hid hbx
  replace N1 := hid ((N1.out.up EY.out).kz hs)
  replace M1 := hid ((M1.out.up EY.out).kz hs)
  clear hk hs hbx
  replace EY := hid (Ext.refl ws)
  refine WE.done ?_
  have r0 := (BX1.out.up EY.out).cell (o := 0) (v := .bool g1) rfl
  have r1 := (BX1.out.up EY.out).cell (o := 1) (v := .slice A1 n1 c1) rfl
  have r2 := (BX1.out.up EY.out).cell (o := 2) (v := .bool false) rfl
  have r3 := (BX1.out.up EY.out).cell (o := 3) (v := .slice B1 m1 d1) rfl
  repeat go_step
  exact bodyPost_ret (v := .agg #[.bool g1, .slice A1 n1 c1, .bool false, .slice B1 m1 d1]) (by simp [results, Tryz.results39, go_sem, r0, r1, r2, r3]) rfl ⟨_, rfl, InR.mk (WorthR.parts (N1.out.up EY.out) (M1.out.up EY.out) HL.out HR.out HB.out).1 (WorthR.parts (N1.out.up EY.out) (M1.out.up EY.out) HL.out HR.out HB.out).2, (E.out.trans EY.out)⟩

theorem read_r {w : World} {u : Value} {x : Rat} {k : Nat} (h1 : WorthR w u x k) (hk : k ≤ 1000) (hk1 : 1 ≤ k) :
    Calls Tryz.prog 39 #[u] w (GivesIn w x k) := by
  obtain ⟨g, A, n, c, l, B, m, d, r, rfl, h1, h2, h3, h4, rfl⟩ := h1
  cases hb : M.isR g l r with
  | false => exact read_false h1 h2 h3 h4 hk hk1 hb
  | true => exact read_true h1 h2 h3 h4 hk hk1 hb
theorem fIs_r {w : World} {u : Value} {x : Rat} {k : Nat} (h1 : IsR w u x k) (hk : k ≤ 1000) : Calls Tryz.prog 12 #[u] w (GivesB w true) := by
  obtain ⟨g, A, n, c, B, m, d, rfl, p, q⟩ := h1
  obtain ⟨rfl, p1, p2⟩ := p.parts
  obtain ⟨_, q1, q2⟩ := q.parts
  exact fIs_any p1 q1 p2 q2 hk (M.isR_of x)

end Go.Proofs.YtkjfeedclaedfaaGreat
