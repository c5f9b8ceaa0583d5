/-
  Contracts of the reference's integers, over what values are worth.
-/
import Derived.Test.YthlafkbldlmmaaaRZD
namespace Go.Proofs.Ythlafkbldlmmaaa
open Go.RowKit
set_option linter.unusedSimpArgs false
set_option linter.unusedVariables false

set_option maxHeartbeats 2000000 in
theorem rEuclid_zero {w : World} {u v : Value} {Z Y : Int} {j k : Nat} (hu : Worth w u Z j) (hv : Worth w v Y k) (hj : j ≤ 100000) (hk : k ≤ 100000) (hy : Y = 0) :
    Calls Try.prog 9 #[u, v] w (GivesZ2 w (Z / Y) (max j 1 + 1) (Z % Y) (max j (max j 1 + 1 + k) + 1)) := by
  obtain ⟨g, A, n, c, rfl⟩ := hu.shape
  obtain ⟨g', A', n', c', rfl⟩ := hv.shape
  have R := hid hu
  have R' := hid hv
  clear hu hv
  have HJ := hid hj
  have HK := hid hk
  have HY := hid hy
  clear hj hk hy
  have HB := hid (show decide (Y < 0) = false by have := HY.out; simp; omega)
  obtain ⟨s, hs⟩ : ∃ s : Int, Y.sign = s := ⟨_, rfl⟩
  have hsz : (s == 0) = true := by have hy := HY.out; rw [← hs, Bool.eq_iff_iff]; simp [Int.sign_eq_zero_iff_zero]; omega
  have HS := hid hs
  clear hs
  go_enter Try.func9, Try.ntmps9
  go_upto_region 1 with (fail)
  have E := hid (((((Ext.refl w).alloc' (.cells #[.bool g, .slice A n c] 24)).alloc' (.cells #[.bool g', .slice A' n' c'] 24)).alloc' (.cells #[.bool false, .slice none 0 0] 24)).alloc' (.cells #[.bool false, .slice none 0 0] 24))
  have B1 : Hid (Box ((((w.alloc (.cells #[.bool g, .slice A n c] 24)).alloc (.cells #[.bool g', .slice A' n' c'] 24)).alloc (.cells #[.bool false, .slice none 0 0] 24)).alloc (.cells #[.bool false, .slice none 0 0] 24)) (w.heap.size) #[.bool g, .slice A n c] 24) := hid ((((Box.at_ (w := w) #[.bool g, .slice A n c] 24 (by simp)).alloc (.cells #[.bool g', .slice A' n' c'] 24)).alloc (.cells #[.bool false, .slice none 0 0] 24)).alloc (.cells #[.bool false, .slice none 0 0] 24))
  have B2 : Hid (Box ((((w.alloc (.cells #[.bool g, .slice A n c] 24)).alloc (.cells #[.bool g', .slice A' n' c'] 24)).alloc (.cells #[.bool false, .slice none 0 0] 24)).alloc (.cells #[.bool false, .slice none 0 0] 24)) (w.heap.size + 1) #[.bool g', .slice A' n' c'] 24) := hid (((Box.at_ (w := (w.alloc (.cells #[.bool g, .slice A n c] 24))) #[.bool g', .slice A' n' c'] 24 (by simp)).alloc (.cells #[.bool false, .slice none 0 0] 24)).alloc (.cells #[.bool false, .slice none 0 0] 24))
  have B3 : Hid (Box ((((w.alloc (.cells #[.bool g, .slice A n c] 24)).alloc (.cells #[.bool g', .slice A' n' c'] 24)).alloc (.cells #[.bool false, .slice none 0 0] 24)).alloc (.cells #[.bool false, .slice none 0 0] 24)) (w.heap.size + 2) #[.bool false, .slice none 0 0] 24) := hid ((Box.at_ (w := ((w.alloc (.cells #[.bool g, .slice A n c] 24)).alloc (.cells #[.bool g', .slice A' n' c'] 24))) #[.bool false, .slice none 0 0] 24 (by simp)).alloc (.cells #[.bool false, .slice none 0 0] 24))
  have B4 : Hid (Box ((((w.alloc (.cells #[.bool g, .slice A n c] 24)).alloc (.cells #[.bool g', .slice A' n' c'] 24)).alloc (.cells #[.bool false, .slice none 0 0] 24)).alloc (.cells #[.bool false, .slice none 0 0] 24)) (w.heap.size + 3) #[.bool false, .slice none 0 0] 24) := hid (Box.at_ (w := (((w.alloc (.cells #[.bool g, .slice A n c] 24)).alloc (.cells #[.bool g', .slice A' n' c'] 24)).alloc (.cells #[.bool false, .slice none 0 0] 24))) #[.bool false, .slice none 0 0] 24 (by simp))
  replace R := hid (R.out.up E.out)
  replace R' := hid (R'.out.up E.out)
  refine wp_region_E [(0, 0), (2, 0), (1, 2), (3, 2), (4, 3), (5, 3), (6, 4), (7, 4)] (fun _ => (24, #[.bool false, .slice none 0 0])) rfl (by kernel_rfl) (by intro j hj; simp [pend] at hj; rcases hj with rfl | rfl <;> exact ⟨_, rfl, rfl, rfl, fun w => by go_simp⟩) (fun _ _ d _ _ => by cases d <;> exact Iff.rfl) fun wd hb => ?_
  replace E := hid (E.out.trans hb)
  replace B1 := hid (B1.out.up hb)
  replace B2 := hid (B2.out.up hb)
  replace B3 := hid (B3.out.up hb)
  replace B4 := hid (B4.out.up hb)
  replace R := hid (R.out.up hb)
  replace R' := hid (R'.out.up hb)
  clear hb
  have HL1B1 := hid B1.out.lt
  have HL1B2 := hid B2.out.lt
  have HL1B3 := hid B3.out.lt
  have HL1B4 := hid B4.out.lt
  have HW1 := hid (show w.heap.size ≤ wd.heap.size from E.out.size)
  refine WE.pure (d := some 10) rfl rfl (by rfl) (v := (.agg #[.bool g, .slice A n c])) (fun w' hk => ?_) ?_
  · have c0 := hk.cell (B1.out.cell (o := 0) (v := .bool g) rfl); have c1 := hk.cell (B1.out.cell (o := 1) (v := .slice A n c) rfl); go_simp
  simp only [Act.put, List.setIfInBounds_toArray, List.set_cons_zero, List.set_cons_succ]
  refine WE.pure (d := some 12) rfl rfl (by rfl) (v := (.agg #[.bool g', .slice A' n' c'])) (fun w' hk => ?_) ?_
  · have c0 := hk.cell (B2.out.cell (o := 0) (v := .bool g') rfl); have c1 := hk.cell (B2.out.cell (o := 1) (v := .slice A' n' c') rfl); go_simp
  simp only [Act.put, List.setIfInBounds_toArray, List.set_cons_zero, List.set_cons_succ]
  refine WE.callR (d := some 11) rfl rfl (by rfl) (f := 36) (args := #[(.agg #[.bool g, .slice A n c])]) (fun w => by go_simp) (fun wx hx0 => ?_)
  replace E := hid (E.out.trans hx0)
  replace B1 := hid (B1.out.up hx0)
  replace B2 := hid (B2.out.up hx0)
  replace B3 := hid (B3.out.up hx0)
  replace B4 := hid (B4.out.up hx0)
  replace R := hid (R.out.up hx0)
  replace R' := hid (R'.out.up hx0)
  clear hx0
  refine (rMay_w R.out).mono ?_
  rintro e wn ⟨vx, rfl, hx, hb⟩
  obtain ⟨g1, A1, n1, c1, rfl, hs1, hr1⟩ := hx.form
  clear hx
  refine ⟨_, rfl, hb, ?_⟩
  replace E := hid (E.out.trans hb)
  replace B1 := hid (B1.out.up hb)
  replace B2 := hid (B2.out.up hb)
  replace B3 := hid (B3.out.up hb)
  replace B4 := hid (B4.out.up hb)
  replace R := hid (R.out.up hb)
  replace R' := hid (R'.out.up hb)
  have HS1 := hid hs1
  have R1 := hid hr1
  clear hb hs1 hr1
  simp only [Act.put, List.setIfInBounds_toArray, List.set_cons_zero, List.set_cons_succ]
  refine WE.callR (d := some 13) rfl rfl (by rfl) (f := 36) (args := #[(.agg #[.bool g', .slice A' n' c'])]) (fun w => by go_simp) (fun wx hx0 => ?_)
  replace E := hid (E.out.trans hx0)
  replace B1 := hid (B1.out.up hx0)
  replace B2 := hid (B2.out.up hx0)
  replace B3 := hid (B3.out.up hx0)
  replace B4 := hid (B4.out.up hx0)
  replace R := hid (R.out.up hx0)
  replace R' := hid (R'.out.up hx0)
  replace R1 := hid (R1.out.up hx0)
  clear hx0
  refine (rMay_w R'.out).mono ?_
  rintro e wn ⟨vx, rfl, hx, hb⟩
  obtain ⟨gg, A2, n2, c2, rfl, hs2, hr2⟩ := hx.form
  clear hx
  obtain rfl : gg = false := hs2.trans HB.out
  clear hs2
  refine ⟨_, rfl, hb, ?_⟩
  replace E := hid (E.out.trans hb)
  replace B1 := hid (B1.out.up hb)
  replace B2 := hid (B2.out.up hb)
  replace B3 := hid (B3.out.up hb)
  replace B4 := hid (B4.out.up hb)
  replace R := hid (R.out.up hb)
  replace R' := hid (R'.out.up hb)
  replace R1 := hid (R1.out.up hb)
  have R2 := hid hr2
  clear hb hr2
  simp only [Act.put, List.setIfInBounds_toArray, List.set_cons_zero, List.set_cons_succ]
  refine WE.var (d := some 6) rfl fun gC1 wv hx0 hbox hge hng => ?_
  have HNC1B1 := hid (show gC1 ≠ (w.heap.size) by have := HL1B1.out; omega)
  have HNC1B2 := hid (show gC1 ≠ (w.heap.size + 1) by have := HL1B2.out; omega)
  have HNC1B3 := hid (show gC1 ≠ (w.heap.size + 2) by have := HL1B3.out; omega)
  have HNC1B4 := hid (show gC1 ≠ (w.heap.size + 3) by have := HL1B4.out; omega)
  have HGC1 := hid (show w.heap.size ≤ gC1 by have := HW1.out; omega)
  replace E := hid (E.out.trans hx0)
  replace B1 := hid (B1.out.up hx0)
  replace B2 := hid (B2.out.up hx0)
  replace B3 := hid (B3.out.up hx0)
  replace B4 := hid (B4.out.up hx0)
  replace R := hid (R.out.up hx0)
  replace R' := hid (R'.out.up hx0)
  replace R1 := hid (R1.out.up hx0)
  replace R2 := hid (R2.out.up hx0)
  have C1 : Hid (Box wv gC1 #[.bool false, .slice none 0 0] 24) := hid hbox
  clear hx0 hbox hge hng
  simp only [Act.put, List.setIfInBounds_toArray, List.set_cons_zero, List.set_cons_succ]
  refine WE.var (d := some 7) rfl fun gC2 wv hx0 hbox hge hng => ?_
  have HNC2B1 := hid (show gC2 ≠ (w.heap.size) by have := HL1B1.out; omega)
  have HNC2B2 := hid (show gC2 ≠ (w.heap.size + 1) by have := HL1B2.out; omega)
  have HNC2B3 := hid (show gC2 ≠ (w.heap.size + 2) by have := HL1B3.out; omega)
  have HNC2B4 := hid (show gC2 ≠ (w.heap.size + 3) by have := HL1B4.out; omega)
  have HNC2C1 := hid (show gC2 ≠ gC1 by intro e; exact hng (by simp [e]))
  have HGC2 := hid (show w.heap.size ≤ gC2 by have := HW1.out; omega)
  replace E := hid (E.out.trans hx0)
  replace B1 := hid (B1.out.up hx0)
  replace B2 := hid (B2.out.up hx0)
  replace B3 := hid (B3.out.up hx0)
  replace B4 := hid (B4.out.up hx0)
  replace C1 := hid (C1.out.up hx0)
  replace R := hid (R.out.up hx0)
  replace R' := hid (R'.out.up hx0)
  replace R1 := hid (R1.out.up hx0)
  replace R2 := hid (R2.out.up hx0)
  have C2 : Hid (Box wv gC2 #[.bool false, .slice none 0 0] 24) := hid hbox
  clear hx0 hbox hge hng
  simp only [Act.put, List.setIfInBounds_toArray, List.set_cons_zero, List.set_cons_succ]
  refine WE.store2 (g := gC1) (x := .bool g1) (y := .slice A1 n1 c1) (t := 24) rfl rfl (by rfl) (fun w hb => ?_) C1.out (by rfl) fun ws hk hs => ?_
  · have c0 := hb.cell (o := 0) (v := .bool false) rfl; have f0 := hb.free 0; have c1 := hb.cell (o := 1) (v := .slice none 0 0) rfl; have f1 := hb.free 1; go_simp
  intro hbx
  replace E := hid (E.out.keptG hk HGC1.out)
  replace B1 := hid (B1.out.kept hk (by simpa using HNC1B1.out.symm))
  replace B2 := hid (B2.out.kept hk (by simpa using HNC1B2.out.symm))
  replace B3 := hid (B3.out.kept hk (by simpa using HNC1B3.out.symm))
  replace B4 := hid (B4.out.kept hk (by simpa using HNC1B4.out.symm))
  replace C1 := hid hbx
  replace C2 := hid (C2.out.kept hk (by simpa using HNC2C1.out))
  replace R := hid (R.out.kz hs)
  replace R' := hid (R'.out.kz hs)
  replace R1 := hid (R1.out.kz hs)
  replace R2 := hid (R2.out.kz hs)
  clear hk hs hbx
  refine WE.store2 (g := gC2) (x := .bool false) (y := .slice A2 n2 c2) (t := 24) rfl rfl (by rfl) (fun w hb => ?_) C2.out (by rfl) fun ws hk hs => ?_
  · have c0 := hb.cell (o := 0) (v := .bool false) rfl; have f0 := hb.free 0; have c1 := hb.cell (o := 1) (v := .slice none 0 0) rfl; have f1 := hb.free 1; go_simp
  intro hbx
  replace E := hid (E.out.keptG hk HGC2.out)
  replace B1 := hid (B1.out.kept hk (by simpa using HNC2B1.out.symm))
  replace B2 := hid (B2.out.kept hk (by simpa using HNC2B2.out.symm))
  replace B3 := hid (B3.out.kept hk (by simpa using HNC2B3.out.symm))
  replace B4 := hid (B4.out.kept hk (by simpa using HNC2B4.out.symm))
  replace C1 := hid (C1.out.kept hk (by simpa using HNC2C1.out.symm))
  replace C2 := hid hbx
  replace R := hid (R.out.kz hs)
  replace R' := hid (R'.out.kz hs)
  replace R1 := hid (R1.out.kz hs)
  replace R2 := hid (R2.out.kz hs)
  clear hk hs hbx
  refine WE.done ?_
  go_upto_region 2 with (fail)
  refine wp_region_T [(0, 0), (1, 1), (2, 0)] (by kernel_rfl) fun wd hb => ?_
  replace E := hid (E.out.trans hb)
  replace B1 := hid (B1.out.up hb)
  replace B2 := hid (B2.out.up hb)
  replace B3 := hid (B3.out.up hb)
  replace B4 := hid (B4.out.up hb)
  replace C1 := hid (C1.out.up hb)
  replace C2 := hid (C2.out.up hb)
  replace R := hid (R.out.up hb)
  replace R' := hid (R'.out.up hb)
  replace R1 := hid (R1.out.up hb)
  replace R2 := hid (R2.out.up hb)
  clear hb
  refine WE.pure (d := some 14) rfl rfl (by rfl) (v := (.agg #[.bool false, .slice A2 n2 c2])) (fun w' hk => ?_) ?_
  · have c0 := hk.cell (C2.out.cell (o := 0) (v := .bool false) rfl); have c1 := hk.cell (C2.out.cell (o := 1) (v := .slice A2 n2 c2) rfl); go_simp
  simp only [Act.put, List.setIfInBounds_toArray, List.set_cons_zero, List.set_cons_succ]
  refine WE.call (d := some 15) rfl rfl (by rfl) (f := 18) (args := #[(.agg #[.bool false, .slice A2 n2 c2])]) (by go_simp) ?_
  refine (rSign_w (IsZ.mk HB.out.symm R2.out).worth HS.out).mono ?_
  rintro e wn ⟨rfl, hb⟩
  refine ⟨_, rfl, hb, ?_⟩
  replace E := hid (E.out.trans hb)
  replace B1 := hid (B1.out.up hb)
  replace B2 := hid (B2.out.up hb)
  replace B3 := hid (B3.out.up hb)
  replace B4 := hid (B4.out.up hb)
  replace C1 := hid (C1.out.up hb)
  replace C2 := hid (C2.out.up hb)
  replace R := hid (R.out.up hb)
  replace R' := hid (R'.out.up hb)
  replace R1 := hid (R1.out.up hb)
  replace R2 := hid (R2.out.up hb)
  clear hb
  simp only [Act.put, List.setIfInBounds_toArray, List.set_cons_zero, List.set_cons_succ]
  refine WE.pure (d := some 16) rfl rfl (by rfl) (v := (.bool true)) (fun w' hk => ?_) ?_
  · go_simp
  simp only [Act.put, List.setIfInBounds_toArray, List.set_cons_zero, List.set_cons_succ]
  refine WE.done ?_
  go_upto_region 3 with (fail)
  refine wp_region_E [(0, 0), (1, 0), (2, 1), (3, 4)] (fun _ => (0, #[])) rfl (by kernel_rfl) (by intro j hj; cases hj) (fun _ _ d _ _ => by cases d <;> exact Iff.rfl) fun wd hb => ?_
  replace E := hid (E.out.trans hb)
  replace B1 := hid (B1.out.up hb)
  replace B2 := hid (B2.out.up hb)
  replace B3 := hid (B3.out.up hb)
  replace B4 := hid (B4.out.up hb)
  replace C1 := hid (C1.out.up hb)
  replace C2 := hid (C2.out.up hb)
  replace R := hid (R.out.up hb)
  replace R' := hid (R'.out.up hb)
  replace R1 := hid (R1.out.up hb)
  replace R2 := hid (R2.out.up hb)
  clear hb
  refine WE.pure (d := some 17) rfl rfl (by rfl) (v := (.agg #[.bool false, .slice none 0 0])) (fun w' hk => ?_) ?_
  · go_simp
  simp only [Act.put, List.setIfInBounds_toArray, List.set_cons_zero, List.set_cons_succ]
  refine WE.pure (d := some 18) rfl rfl (by rfl) (v := (.agg #[.bool g1, .slice A1 n1 c1])) (fun w' hk => ?_) ?_
  · have c0 := hk.cell (C1.out.cell (o := 0) (v := .bool g1) rfl); have c1 := hk.cell (C1.out.cell (o := 1) (v := .slice A1 n1 c1) rfl); go_simp
  simp only [Act.put, List.setIfInBounds_toArray, List.set_cons_zero, List.set_cons_succ]
  refine WE.store2s (g := (w.heap.size + 2)) (x := .bool false) (y := .slice none 0 0) (t := 24) rfl rfl (by rfl) (fun w hb => ?_) B3.out fun ws hb => ?_
  · have c0 := hb.cell (o := 0) (v := .bool false) rfl; have f0 := hb.free 0; have c1 := hb.cell (o := 1) (v := .slice none 0 0) rfl; have f1 := hb.free 1; go_simp
  replace E := hid (E.out.trans hb)
  replace B1 := hid (B1.out.up hb)
  replace B2 := hid (B2.out.up hb)
  replace B3 := hid (B3.out.up hb)
  replace B4 := hid (B4.out.up hb)
  replace C1 := hid (C1.out.up hb)
  replace C2 := hid (C2.out.up hb)
  replace R := hid (R.out.up hb)
  replace R' := hid (R'.out.up hb)
  replace R1 := hid (R1.out.up hb)
  replace R2 := hid (R2.out.up hb)
  clear hb
  refine WE.store2 (g := (w.heap.size + 3)) (x := .bool g1) (y := .slice A1 n1 c1) (t := 24) rfl rfl (by rfl) (fun w hb => ?_) B4.out (by rfl) fun ws hk hs => ?_
  · have c0 := hb.cell (o := 0) (v := .bool false) rfl; have f0 := hb.free 0; have c1 := hb.cell (o := 1) (v := .slice none 0 0) rfl; have f1 := hb.free 1; go_simp
  intro hbx
  replace E := hid (E.out.keptG hk (by simp))
  replace B1 := hid (B1.out.kept hk (by simp))
  replace B2 := hid (B2.out.kept hk (by simp))
  replace B3 := hid (B3.out.kept hk (by simp))
  replace B4 := hid hbx
  replace C1 := hid (C1.out.kept hk (by simpa using HNC1B4.out))
  replace C2 := hid (C2.out.kept hk (by simpa using HNC2B4.out))
  replace R := hid (R.out.kz hs)
  replace R' := hid (R'.out.kz hs)
  replace R1 := hid (R1.out.kz hs)
  replace R2 := hid (R2.out.kz hs)
  clear hk hs hbx
  refine WE.done ?_
  have r0 := B3.out.cell (o := 0) (v := .bool false) rfl
  have r1 := B3.out.cell (o := 1) (v := .slice none 0 0) rfl
  have r2 := B4.out.cell (o := 0) (v := .bool g1) rfl
  have r3 := B4.out.cell (o := 1) (v := .slice A1 n1 c1) rfl
  go_wp2
  exact bodyPost_ret (v := .tuple #[.agg #[.bool false, .slice none 0 0], .agg #[.bool g1, .slice A1 n1 c1]]) (by simp [results, Try.results9, go_sem, r0, r1, r2, r3]) rfl ⟨_, _, rfl, (by rw [HY.out, Int.ediv_zero]; exact IsZ.nought.wide (Nat.zero_le _)), (by rw [HY.out, Int.emod_zero]; exact (IsZ.mk HS1.out R1.out).wide (by omega)), E.out⟩

set_option maxHeartbeats 2000000 in
theorem rEuclid_neg {w : World} {u v : Value} {Z Y : Int} {j k : Nat} (hu : Worth w u Z j) (hv : Worth w v Y k) (hj : j ≤ 100000) (hk : k ≤ 100000) (hy : Y < 0) :
    Calls Try.prog 9 #[u, v] w (GivesZ2 w (Z / Y) (max j 1 + 1) (Z % Y) (max j (max j 1 + 1 + k) + 1)) := by
  obtain ⟨g, A, n, c, rfl⟩ := hu.shape
  obtain ⟨g', A', n', c', rfl⟩ := hv.shape
  have R := hid hu
  have R' := hid hv
  clear hu hv
  have HJ := hid hj
  have HK := hid hk
  have HY := hid hy
  clear hj hk hy
  have HB := hid (show decide (Y < 0) = true by have := HY.out; simp; omega)
  obtain ⟨s, hs⟩ : ∃ s : Int, Y.sign = s := ⟨_, rfl⟩
  have hsz : (s == 0) = false := by have hy := HY.out; rw [← hs, Bool.eq_iff_iff]; simp [Int.sign_eq_zero_iff_zero]; omega
  have HS := hid hs
  clear hs
  go_enter Try.func9, Try.ntmps9
  go_upto_region 1 with (fail)
  have E := hid (((((Ext.refl w).alloc' (.cells #[.bool g, .slice A n c] 24)).alloc' (.cells #[.bool g', .slice A' n' c'] 24)).alloc' (.cells #[.bool false, .slice none 0 0] 24)).alloc' (.cells #[.bool false, .slice none 0 0] 24))
  have B1 : Hid (Box ((((w.alloc (.cells #[.bool g, .slice A n c] 24)).alloc (.cells #[.bool g', .slice A' n' c'] 24)).alloc (.cells #[.bool false, .slice none 0 0] 24)).alloc (.cells #[.bool false, .slice none 0 0] 24)) (w.heap.size) #[.bool g, .slice A n c] 24) := hid ((((Box.at_ (w := w) #[.bool g, .slice A n c] 24 (by simp)).alloc (.cells #[.bool g', .slice A' n' c'] 24)).alloc (.cells #[.bool false, .slice none 0 0] 24)).alloc (.cells #[.bool false, .slice none 0 0] 24))
  have B2 : Hid (Box ((((w.alloc (.cells #[.bool g, .slice A n c] 24)).alloc (.cells #[.bool g', .slice A' n' c'] 24)).alloc (.cells #[.bool false, .slice none 0 0] 24)).alloc (.cells #[.bool false, .slice none 0 0] 24)) (w.heap.size + 1) #[.bool g', .slice A' n' c'] 24) := hid (((Box.at_ (w := (w.alloc (.cells #[.bool g, .slice A n c] 24))) #[.bool g', .slice A' n' c'] 24 (by simp)).alloc (.cells #[.bool false, .slice none 0 0] 24)).alloc (.cells #[.bool false, .slice none 0 0] 24))
  have B3 : Hid (Box ((((w.alloc (.cells #[.bool g, .slice A n c] 24)).alloc (.cells #[.bool g', .slice A' n' c'] 24)).alloc (.cells #[.bool false, .slice none 0 0] 24)).alloc (.cells #[.bool false, .slice none 0 0] 24)) (w.heap.size + 2) #[.bool false, .slice none 0 0] 24) := hid ((Box.at_ (w := ((w.alloc (.cells #[.bool g, .slice A n c] 24)).alloc (.cells #[.bool g', .slice A' n' c'] 24))) #[.bool false, .slice none 0 0] 24 (by simp)).alloc (.cells #[.bool false, .slice none 0 0] 24))
  have B4 : Hid (Box ((((w.alloc (.cells #[.bool g, .slice A n c] 24)).alloc (.cells #[.bool g', .slice A' n' c'] 24)).alloc (.cells #[.bool false, .slice none 0 0] 24)).alloc (.cells #[.bool false, .slice none 0 0] 24)) (w.heap.size + 3) #[.bool false, .slice none 0 0] 24) := hid (Box.at_ (w := (((w.alloc (.cells #[.bool g, .slice A n c] 24)).alloc (.cells #[.bool g', .slice A' n' c'] 24)).alloc (.cells #[.bool false, .slice none 0 0] 24))) #[.bool false, .slice none 0 0] 24 (by simp))
  replace R := hid (R.out.up E.out)
  replace R' := hid (R'.out.up E.out)
  refine wp_region_E [(0, 0), (2, 0), (1, 2), (3, 2), (4, 3), (5, 3), (6, 4), (7, 4)] (fun _ => (24, #[.bool false, .slice none 0 0])) rfl (by kernel_rfl) (by intro j hj; simp [pend] at hj; rcases hj with rfl | rfl <;> exact ⟨_, rfl, rfl, rfl, fun w => by go_simp⟩) (fun _ _ d _ _ => by cases d <;> exact Iff.rfl) fun wd hb => ?_
  replace E := hid (E.out.trans hb)
  replace B1 := hid (B1.out.up hb)
  replace B2 := hid (B2.out.up hb)
  replace B3 := hid (B3.out.up hb)
  replace B4 := hid (B4.out.up hb)
  replace R := hid (R.out.up hb)
  replace R' := hid (R'.out.up hb)
  clear hb
  have HL1B1 := hid B1.out.lt
  have HL1B2 := hid B2.out.lt
  have HL1B3 := hid B3.out.lt
  have HL1B4 := hid B4.out.lt
  have HW1 := hid (show w.heap.size ≤ wd.heap.size from E.out.size)
  refine WE.pure (d := some 10) rfl rfl (by rfl) (v := (.agg #[.bool g, .slice A n c])) (fun w' hk => ?_) ?_
  · have c0 := hk.cell (B1.out.cell (o := 0) (v := .bool g) rfl); have c1 := hk.cell (B1.out.cell (o := 1) (v := .slice A n c) rfl); go_simp
  simp only [Act.put, List.setIfInBounds_toArray, List.set_cons_zero, List.set_cons_succ]
  refine WE.pure (d := some 12) rfl rfl (by rfl) (v := (.agg #[.bool g', .slice A' n' c'])) (fun w' hk => ?_) ?_
  · have c0 := hk.cell (B2.out.cell (o := 0) (v := .bool g') rfl); have c1 := hk.cell (B2.out.cell (o := 1) (v := .slice A' n' c') rfl); go_simp
  simp only [Act.put, List.setIfInBounds_toArray, List.set_cons_zero, List.set_cons_succ]
  refine WE.callR (d := some 11) rfl rfl (by rfl) (f := 36) (args := #[(.agg #[.bool g, .slice A n c])]) (fun w => by go_simp) (fun wx hx0 => ?_)
  replace E := hid (E.out.trans hx0)
  replace B1 := hid (B1.out.up hx0)
  replace B2 := hid (B2.out.up hx0)
  replace B3 := hid (B3.out.up hx0)
  replace B4 := hid (B4.out.up hx0)
  replace R := hid (R.out.up hx0)
  replace R' := hid (R'.out.up hx0)
  clear hx0
  refine (rMay_w R.out).mono ?_
  rintro e wn ⟨vx, rfl, hx, hb⟩
  obtain ⟨g1, A1, n1, c1, rfl, hs1, hr1⟩ := hx.form
  clear hx
  refine ⟨_, rfl, hb, ?_⟩
  replace E := hid (E.out.trans hb)
  replace B1 := hid (B1.out.up hb)
  replace B2 := hid (B2.out.up hb)
  replace B3 := hid (B3.out.up hb)
  replace B4 := hid (B4.out.up hb)
  replace R := hid (R.out.up hb)
  replace R' := hid (R'.out.up hb)
  have HS1 := hid hs1
  have R1 := hid hr1
  clear hb hs1 hr1
  simp only [Act.put, List.setIfInBounds_toArray, List.set_cons_zero, List.set_cons_succ]
  refine WE.callR (d := some 13) rfl rfl (by rfl) (f := 36) (args := #[(.agg #[.bool g', .slice A' n' c'])]) (fun w => by go_simp) (fun wx hx0 => ?_)
  replace E := hid (E.out.trans hx0)
  replace B1 := hid (B1.out.up hx0)
  replace B2 := hid (B2.out.up hx0)
  replace B3 := hid (B3.out.up hx0)
  replace B4 := hid (B4.out.up hx0)
  replace R := hid (R.out.up hx0)
  replace R' := hid (R'.out.up hx0)
  replace R1 := hid (R1.out.up hx0)
  clear hx0
  refine (rMay_w R'.out).mono ?_
  rintro e wn ⟨vx, rfl, hx, hb⟩
  obtain ⟨gg, A2, n2, c2, rfl, hs2, hr2⟩ := hx.form
  clear hx
  obtain rfl : gg = true := hs2.trans HB.out
  clear hs2
  refine ⟨_, rfl, hb, ?_⟩
  replace E := hid (E.out.trans hb)
  replace B1 := hid (B1.out.up hb)
  replace B2 := hid (B2.out.up hb)
  replace B3 := hid (B3.out.up hb)
  replace B4 := hid (B4.out.up hb)
  replace R := hid (R.out.up hb)
  replace R' := hid (R'.out.up hb)
  replace R1 := hid (R1.out.up hb)
  have R2 := hid hr2
  clear hb hr2
  simp only [Act.put, List.setIfInBounds_toArray, List.set_cons_zero, List.set_cons_succ]
  refine WE.var (d := some 6) rfl fun gC1 wv hx0 hbox hge hng => ?_
  have HNC1B1 := hid (show gC1 ≠ (w.heap.size) by have := HL1B1.out; omega)
  have HNC1B2 := hid (show gC1 ≠ (w.heap.size + 1) by have := HL1B2.out; omega)
  have HNC1B3 := hid (show gC1 ≠ (w.heap.size + 2) by have := HL1B3.out; omega)
  have HNC1B4 := hid (show gC1 ≠ (w.heap.size + 3) by have := HL1B4.out; omega)
  have HGC1 := hid (show w.heap.size ≤ gC1 by have := HW1.out; omega)
  replace E := hid (E.out.trans hx0)
  replace B1 := hid (B1.out.up hx0)
  replace B2 := hid (B2.out.up hx0)
  replace B3 := hid (B3.out.up hx0)
  replace B4 := hid (B4.out.up hx0)
  replace R := hid (R.out.up hx0)
  replace R' := hid (R'.out.up hx0)
  replace R1 := hid (R1.out.up hx0)
  replace R2 := hid (R2.out.up hx0)
  have C1 : Hid (Box wv gC1 #[.bool false, .slice none 0 0] 24) := hid hbox
  clear hx0 hbox hge hng
  simp only [Act.put, List.setIfInBounds_toArray, List.set_cons_zero, List.set_cons_succ]
  refine WE.var (d := some 7) rfl fun gC2 wv hx0 hbox hge hng => ?_
  have HNC2B1 := hid (show gC2 ≠ (w.heap.size) by have := HL1B1.out; omega)
  have HNC2B2 := hid (show gC2 ≠ (w.heap.size + 1) by have := HL1B2.out; omega)
  have HNC2B3 := hid (show gC2 ≠ (w.heap.size + 2) by have := HL1B3.out; omega)
  have HNC2B4 := hid (show gC2 ≠ (w.heap.size + 3) by have := HL1B4.out; omega)
  have HNC2C1 := hid (show gC2 ≠ gC1 by intro e; exact hng (by simp [e]))
  have HGC2 := hid (show w.heap.size ≤ gC2 by have := HW1.out; omega)
  replace E := hid (E.out.trans hx0)
  replace B1 := hid (B1.out.up hx0)
  replace B2 := hid (B2.out.up hx0)
  replace B3 := hid (B3.out.up hx0)
  replace B4 := hid (B4.out.up hx0)
  replace C1 := hid (C1.out.up hx0)
  replace R := hid (R.out.up hx0)
  replace R' := hid (R'.out.up hx0)
  replace R1 := hid (R1.out.up hx0)
  replace R2 := hid (R2.out.up hx0)
  have C2 : Hid (Box wv gC2 #[.bool false, .slice none 0 0] 24) := hid hbox
  clear hx0 hbox hge hng
  simp only [Act.put, List.setIfInBounds_toArray, List.set_cons_zero, List.set_cons_succ]
  refine WE.store2 (g := gC1) (x := .bool g1) (y := .slice A1 n1 c1) (t := 24) rfl rfl (by rfl) (fun w hb => ?_) C1.out (by rfl) fun ws hk hs => ?_
  · have c0 := hb.cell (o := 0) (v := .bool false) rfl; have f0 := hb.free 0; have c1 := hb.cell (o := 1) (v := .slice none 0 0) rfl; have f1 := hb.free 1; go_simp
  intro hbx
  replace E := hid (E.out.keptG hk HGC1.out)
  replace B1 := hid (B1.out.kept hk (by simpa using HNC1B1.out.symm))
  replace B2 := hid (B2.out.kept hk (by simpa using HNC1B2.out.symm))
  replace B3 := hid (B3.out.kept hk (by simpa using HNC1B3.out.symm))
  replace B4 := hid (B4.out.kept hk (by simpa using HNC1B4.out.symm))
  replace C1 := hid hbx
  replace C2 := hid (C2.out.kept hk (by simpa using HNC2C1.out))
  replace R := hid (R.out.kz hs)
  replace R' := hid (R'.out.kz hs)
  replace R1 := hid (R1.out.kz hs)
  replace R2 := hid (R2.out.kz hs)
  clear hk hs hbx
  refine WE.store2 (g := gC2) (x := .bool true) (y := .slice A2 n2 c2) (t := 24) rfl rfl (by rfl) (fun w hb => ?_) C2.out (by rfl) fun ws hk hs => ?_
  · have c0 := hb.cell (o := 0) (v := .bool false) rfl; have f0 := hb.free 0; have c1 := hb.cell (o := 1) (v := .slice none 0 0) rfl; have f1 := hb.free 1; go_simp
  intro hbx
  replace E := hid (E.out.keptG hk HGC2.out)
  replace B1 := hid (B1.out.kept hk (by simpa using HNC2B1.out.symm))
  replace B2 := hid (B2.out.kept hk (by simpa using HNC2B2.out.symm))
  replace B3 := hid (B3.out.kept hk (by simpa using HNC2B3.out.symm))
  replace B4 := hid (B4.out.kept hk (by simpa using HNC2B4.out.symm))
  replace C1 := hid (C1.out.kept hk (by simpa using HNC2C1.out.symm))
  replace C2 := hid hbx
  replace R := hid (R.out.kz hs)
  replace R' := hid (R'.out.kz hs)
  replace R1 := hid (R1.out.kz hs)
  replace R2 := hid (R2.out.kz hs)
  clear hk hs hbx
  refine WE.done ?_
  go_upto_region 2 with (fail)
  refine wp_region_T [(0, 0), (1, 1), (2, 0)] (by kernel_rfl) fun wd hb => ?_
  replace E := hid (E.out.trans hb)
  replace B1 := hid (B1.out.up hb)
  replace B2 := hid (B2.out.up hb)
  replace B3 := hid (B3.out.up hb)
  replace B4 := hid (B4.out.up hb)
  replace C1 := hid (C1.out.up hb)
  replace C2 := hid (C2.out.up hb)
  replace R := hid (R.out.up hb)
  replace R' := hid (R'.out.up hb)
  replace R1 := hid (R1.out.up hb)
  replace R2 := hid (R2.out.up hb)
  clear hb
  refine WE.pure (d := some 14) rfl rfl (by rfl) (v := (.agg #[.bool true, .slice A2 n2 c2])) (fun w' hk => ?_) ?_
  · have c0 := hk.cell (C2.out.cell (o := 0) (v := .bool true) rfl); have c1 := hk.cell (C2.out.cell (o := 1) (v := .slice A2 n2 c2) rfl); go_simp
  simp only [Act.put, List.setIfInBounds_toArray, List.set_cons_zero, List.set_cons_succ]
  refine WE.call (d := some 15) rfl rfl (by rfl) (f := 18) (args := #[(.agg #[.bool true, .slice A2 n2 c2])]) (by go_simp) ?_
  refine (rSign_w (IsZ.mk HB.out.symm R2.out).worth HS.out).mono ?_
  rintro e wn ⟨rfl, hb⟩
  refine ⟨_, rfl, hb, ?_⟩
  replace E := hid (E.out.trans hb)
  replace B1 := hid (B1.out.up hb)
  replace B2 := hid (B2.out.up hb)
  replace B3 := hid (B3.out.up hb)
  replace B4 := hid (B4.out.up hb)
  replace C1 := hid (C1.out.up hb)
  replace C2 := hid (C2.out.up hb)
  replace R := hid (R.out.up hb)
  replace R' := hid (R'.out.up hb)
  replace R1 := hid (R1.out.up hb)
  replace R2 := hid (R2.out.up hb)
  clear hb
  simp only [Act.put, List.setIfInBounds_toArray, List.set_cons_zero, List.set_cons_succ]
  refine WE.pure (d := some 16) rfl rfl (by rfl) (v := (.bool false)) (fun w' hk => ?_) ?_
  · go_simp
  simp only [Act.put, List.setIfInBounds_toArray, List.set_cons_zero, List.set_cons_succ]
  refine WE.done ?_
  go_upto_region 4 with (fail)
  refine wp_region_E [(0, 0), (1, 0), (2, 2), (3, 2), (4, 0), (5, 0), (6, 5), (7, 3), (8, 3), (9, 4), (10, 4)] (fun _ => (24, #[.bool false, .slice none 0 0])) rfl (by kernel_rfl) (by intro j hj; simp [pend] at hj; rcases hj with rfl | rfl <;> exact ⟨_, rfl, rfl, rfl, fun w => by go_simp⟩) (fun _ _ d _ _ => by cases d <;> exact Iff.rfl) fun wd hb => ?_
  replace E := hid (E.out.trans hb)
  replace B1 := hid (B1.out.up hb)
  replace B2 := hid (B2.out.up hb)
  replace B3 := hid (B3.out.up hb)
  replace B4 := hid (B4.out.up hb)
  replace C1 := hid (C1.out.up hb)
  replace C2 := hid (C2.out.up hb)
  replace R := hid (R.out.up hb)
  replace R' := hid (R'.out.up hb)
  replace R1 := hid (R1.out.up hb)
  replace R2 := hid (R2.out.up hb)
  clear hb
  have HL2B1 := hid B1.out.lt
  have HL2B2 := hid B2.out.lt
  have HL2B3 := hid B3.out.lt
  have HL2B4 := hid B4.out.lt
  have HL2C1 := hid C1.out.lt
  have HL2C2 := hid C2.out.lt
  have HW2 := hid (show w.heap.size ≤ wd.heap.size from E.out.size)
  refine WE.pure (d := some 20) rfl rfl (by rfl) (v := (.agg #[.bool g1, .slice A1 n1 c1])) (fun w' hk => ?_) ?_
  · have c0 := hk.cell (C1.out.cell (o := 0) (v := .bool g1) rfl); have c1 := hk.cell (C1.out.cell (o := 1) (v := .slice A1 n1 c1) rfl); go_simp
  simp only [Act.put, List.setIfInBounds_toArray, List.set_cons_zero, List.set_cons_succ]
  refine WE.pure (d := some 21) rfl rfl (by rfl) (v := (.agg #[.bool true, .slice A2 n2 c2])) (fun w' hk => ?_) ?_
  · have c0 := hk.cell (C2.out.cell (o := 0) (v := .bool true) rfl); have c1 := hk.cell (C2.out.cell (o := 1) (v := .slice A2 n2 c2) rfl); go_simp
  simp only [Act.put, List.setIfInBounds_toArray, List.set_cons_zero, List.set_cons_succ]
  refine WE.callR (d := some 22) rfl rfl (by rfl) (f := 26) (args := #[(.agg #[.bool true, .slice A2 n2 c2])]) (fun w => by go_simp) (fun wx hx0 => ?_)
  replace E := hid (E.out.trans hx0)
  replace B1 := hid (B1.out.up hx0)
  replace B2 := hid (B2.out.up hx0)
  replace B3 := hid (B3.out.up hx0)
  replace B4 := hid (B4.out.up hx0)
  replace C1 := hid (C1.out.up hx0)
  replace C2 := hid (C2.out.up hx0)
  replace R := hid (R.out.up hx0)
  replace R' := hid (R'.out.up hx0)
  replace R1 := hid (R1.out.up hx0)
  replace R2 := hid (R2.out.up hx0)
  clear hx0
  refine (rAbs_w (IsZ.mk HB.out.symm R2.out).worth).mono ?_
  rintro e wn ⟨vx, rfl, hx, hb⟩
  obtain ⟨g3, A3, n3, c3, rfl, hs3, hr3⟩ := hx.form
  clear hx
  refine ⟨_, rfl, hb, ?_⟩
  replace E := hid (E.out.trans hb)
  replace B1 := hid (B1.out.up hb)
  replace B2 := hid (B2.out.up hb)
  replace B3 := hid (B3.out.up hb)
  replace B4 := hid (B4.out.up hb)
  replace C1 := hid (C1.out.up hb)
  replace C2 := hid (C2.out.up hb)
  replace R := hid (R.out.up hb)
  replace R' := hid (R'.out.up hb)
  replace R1 := hid (R1.out.up hb)
  replace R2 := hid (R2.out.up hb)
  have HS3 := hid hs3
  have R3 := hid hr3
  clear hb hs3 hr3
  simp only [Act.put, List.setIfInBounds_toArray, List.set_cons_zero, List.set_cons_succ]
  refine WE.callR (d := some 23) rfl rfl (by rfl) (f := 7) (args := #[(.agg #[.bool g1, .slice A1 n1 c1]), (.agg #[.bool g3, .slice A3 n3 c3])]) (fun w => by go_simp) (fun wx hx0 => ?_)
  replace E := hid (E.out.trans hx0)
  replace B1 := hid (B1.out.up hx0)
  replace B2 := hid (B2.out.up hx0)
  replace B3 := hid (B3.out.up hx0)
  replace B4 := hid (B4.out.up hx0)
  replace C1 := hid (C1.out.up hx0)
  replace C2 := hid (C2.out.up hx0)
  replace R := hid (R.out.up hx0)
  replace R' := hid (R'.out.up hx0)
  replace R1 := hid (R1.out.up hx0)
  replace R2 := hid (R2.out.up hx0)
  replace R3 := hid (R3.out.up hx0)
  clear hx0
  refine (rFloor_w (IsZ.mk HS1.out R1.out).worth (IsZ.mk HS3.out R3.out).worth HJ.out HK.out).mono ?_
  rintro e wn ⟨vx, vy, rfl, hx, hy, hb⟩
  obtain ⟨g4, A4, n4, c4, rfl, hs4, hr4⟩ := hx.form
  obtain ⟨g5, A5, n5, c5, rfl, hs5, hr5⟩ := hy.form
  clear hx hy
  refine ⟨_, rfl, hb, ?_⟩
  replace E := hid (E.out.trans hb)
  replace B1 := hid (B1.out.up hb)
  replace B2 := hid (B2.out.up hb)
  replace B3 := hid (B3.out.up hb)
  replace B4 := hid (B4.out.up hb)
  replace C1 := hid (C1.out.up hb)
  replace C2 := hid (C2.out.up hb)
  replace R := hid (R.out.up hb)
  replace R' := hid (R'.out.up hb)
  replace R1 := hid (R1.out.up hb)
  replace R2 := hid (R2.out.up hb)
  replace R3 := hid (R3.out.up hb)
  have HS4 := hid hs4
  have R4 := hid hr4
  have HS5 := hid hs5
  have R5 := hid hr5
  clear hb hs4 hr4 hs5 hr5
  simp only [Act.put, List.setIfInBounds_toArray, List.set_cons_zero, List.set_cons_succ]
  refine WE.pure (d := some 19) rfl rfl (by rfl) (v := (.tuple #[(.agg #[.bool g4, .slice A4 n4 c4]), (.agg #[.bool g5, .slice A5 n5 c5])])) (fun w' hk => ?_) ?_
  · go_simp
  simp only [Act.put, List.setIfInBounds_toArray, List.set_cons_zero, List.set_cons_succ]
  refine WE.pure (d := some 24) rfl rfl (by rfl) (v := (.agg #[.bool g4, .slice A4 n4 c4])) (fun w' hk => ?_) ?_
  · go_simp
  simp only [Act.put, List.setIfInBounds_toArray, List.set_cons_zero, List.set_cons_succ]
  refine WE.any (d := some 25) rfl rfl (by rfl) (v := (.agg #[.bool g5, .slice A5 n5 c5])) (fun w' => ?_) ?_
  · go_simp
  simp only [Act.put, List.setIfInBounds_toArray, List.set_cons_zero, List.set_cons_succ]
  refine WE.var (d := some 8) rfl fun gD1 wv hx0 hbox hge hng => ?_
  have HND1B1 := hid (show gD1 ≠ (w.heap.size) by have := HL2B1.out; omega)
  have HND1B2 := hid (show gD1 ≠ (w.heap.size + 1) by have := HL2B2.out; omega)
  have HND1B3 := hid (show gD1 ≠ (w.heap.size + 2) by have := HL2B3.out; omega)
  have HND1B4 := hid (show gD1 ≠ (w.heap.size + 3) by have := HL2B4.out; omega)
  have HND1C1 := hid (show gD1 ≠ gC1 by have := HL2C1.out; omega)
  have HND1C2 := hid (show gD1 ≠ gC2 by have := HL2C2.out; omega)
  have HGD1 := hid (show w.heap.size ≤ gD1 by have := HW2.out; omega)
  replace E := hid (E.out.trans hx0)
  replace B1 := hid (B1.out.up hx0)
  replace B2 := hid (B2.out.up hx0)
  replace B3 := hid (B3.out.up hx0)
  replace B4 := hid (B4.out.up hx0)
  replace C1 := hid (C1.out.up hx0)
  replace C2 := hid (C2.out.up hx0)
  replace R := hid (R.out.up hx0)
  replace R' := hid (R'.out.up hx0)
  replace R1 := hid (R1.out.up hx0)
  replace R2 := hid (R2.out.up hx0)
  replace R3 := hid (R3.out.up hx0)
  replace R4 := hid (R4.out.up hx0)
  replace R5 := hid (R5.out.up hx0)
  have D1 : Hid (Box wv gD1 #[.bool false, .slice none 0 0] 24) := hid hbox
  clear hx0 hbox hge hng
  simp only [Act.put, List.setIfInBounds_toArray, List.set_cons_zero, List.set_cons_succ]
  refine WE.var (d := some 9) rfl fun gD2 wv hx0 hbox hge hng => ?_
  have HND2B1 := hid (show gD2 ≠ (w.heap.size) by have := HL2B1.out; omega)
  have HND2B2 := hid (show gD2 ≠ (w.heap.size + 1) by have := HL2B2.out; omega)
  have HND2B3 := hid (show gD2 ≠ (w.heap.size + 2) by have := HL2B3.out; omega)
  have HND2B4 := hid (show gD2 ≠ (w.heap.size + 3) by have := HL2B4.out; omega)
  have HND2C1 := hid (show gD2 ≠ gC1 by have := HL2C1.out; omega)
  have HND2C2 := hid (show gD2 ≠ gC2 by have := HL2C2.out; omega)
  have HND2D1 := hid (show gD2 ≠ gD1 by intro e; exact hng (by simp [e]))
  have HGD2 := hid (show w.heap.size ≤ gD2 by have := HW2.out; omega)
  replace E := hid (E.out.trans hx0)
  replace B1 := hid (B1.out.up hx0)
  replace B2 := hid (B2.out.up hx0)
  replace B3 := hid (B3.out.up hx0)
  replace B4 := hid (B4.out.up hx0)
  replace C1 := hid (C1.out.up hx0)
  replace C2 := hid (C2.out.up hx0)
  replace D1 := hid (D1.out.up hx0)
  replace R := hid (R.out.up hx0)
  replace R' := hid (R'.out.up hx0)
  replace R1 := hid (R1.out.up hx0)
  replace R2 := hid (R2.out.up hx0)
  replace R3 := hid (R3.out.up hx0)
  replace R4 := hid (R4.out.up hx0)
  replace R5 := hid (R5.out.up hx0)
  have D2 : Hid (Box wv gD2 #[.bool false, .slice none 0 0] 24) := hid hbox
  clear hx0 hbox hge hng
  simp only [Act.put, List.setIfInBounds_toArray, List.set_cons_zero, List.set_cons_succ]
  refine WE.store2 (g := gD1) (x := .bool g4) (y := .slice A4 n4 c4) (t := 24) rfl rfl (by rfl) (fun w hb => ?_) D1.out (by rfl) fun ws hk hs => ?_
  · have c0 := hb.cell (o := 0) (v := .bool false) rfl; have f0 := hb.free 0; have c1 := hb.cell (o := 1) (v := .slice none 0 0) rfl; have f1 := hb.free 1; go_simp
  intro hbx
  replace E := hid (E.out.keptG hk HGD1.out)
  replace B1 := hid (B1.out.kept hk (by simpa using HND1B1.out.symm))
  replace B2 := hid (B2.out.kept hk (by simpa using HND1B2.out.symm))
  replace B3 := hid (B3.out.kept hk (by simpa using HND1B3.out.symm))
  replace B4 := hid (B4.out.kept hk (by simpa using HND1B4.out.symm))
  replace C1 := hid (C1.out.kept hk (by simpa using HND1C1.out.symm))
  replace C2 := hid (C2.out.kept hk (by simpa using HND1C2.out.symm))
  replace D1 := hid hbx
  replace D2 := hid (D2.out.kept hk (by simpa using HND2D1.out))
  replace R := hid (R.out.kz hs)
  replace R' := hid (R'.out.kz hs)
  replace R1 := hid (R1.out.kz hs)
  replace R2 := hid (R2.out.kz hs)
  replace R3 := hid (R3.out.kz hs)
  replace R4 := hid (R4.out.kz hs)
  replace R5 := hid (R5.out.kz hs)
  clear hk hs hbx
  refine WE.store2 (g := gD2) (x := .bool g5) (y := .slice A5 n5 c5) (t := 24) rfl rfl (by rfl) (fun w hb => ?_) D2.out (by rfl) fun ws hk hs => ?_
  · have c0 := hb.cell (o := 0) (v := .bool false) rfl; have f0 := hb.free 0; have c1 := hb.cell (o := 1) (v := .slice none 0 0) rfl; have f1 := hb.free 1; go_simp
  intro hbx
  replace E := hid (E.out.keptG hk HGD2.out)
  replace B1 := hid (B1.out.kept hk (by simpa using HND2B1.out.symm))
  replace B2 := hid (B2.out.kept hk (by simpa using HND2B2.out.symm))
  replace B3 := hid (B3.out.kept hk (by simpa using HND2B3.out.symm))
  replace B4 := hid (B4.out.kept hk (by simpa using HND2B4.out.symm))
  replace C1 := hid (C1.out.kept hk (by simpa using HND2C1.out.symm))
  replace C2 := hid (C2.out.kept hk (by simpa using HND2C2.out.symm))
  replace D1 := hid (D1.out.kept hk (by simpa using HND2D1.out.symm))
  replace D2 := hid hbx
  replace R := hid (R.out.kz hs)
  replace R' := hid (R'.out.kz hs)
  replace R1 := hid (R1.out.kz hs)
  replace R2 := hid (R2.out.kz hs)
  replace R3 := hid (R3.out.kz hs)
  replace R4 := hid (R4.out.kz hs)
  replace R5 := hid (R5.out.kz hs)
  clear hk hs hbx
  refine WE.done ?_
  go_upto_region 5 with (fail)
  refine wp_region_T [(0, 0), (1, 0)] (by kernel_rfl) fun wd hb => ?_
  replace E := hid (E.out.trans hb)
  replace B1 := hid (B1.out.up hb)
  replace B2 := hid (B2.out.up hb)
  replace B3 := hid (B3.out.up hb)
  replace B4 := hid (B4.out.up hb)
  replace C1 := hid (C1.out.up hb)
  replace C2 := hid (C2.out.up hb)
  replace D1 := hid (D1.out.up hb)
  replace D2 := hid (D2.out.up hb)
  replace R := hid (R.out.up hb)
  replace R' := hid (R'.out.up hb)
  replace R1 := hid (R1.out.up hb)
  replace R2 := hid (R2.out.up hb)
  replace R3 := hid (R3.out.up hb)
  replace R4 := hid (R4.out.up hb)
  replace R5 := hid (R5.out.up hb)
  clear hb
  refine WE.pure (d := some 26) rfl rfl (by rfl) (v := (.pointer (some ⟨gC2, 0, none⟩))) (fun w' hk => ?_) ?_
  · go_simp
  simp only [Act.put, List.setIfInBounds_toArray, List.set_cons_zero, List.set_cons_succ]
  refine WE.pure (d := some 27) rfl rfl (by rfl) (v := (.bool true)) (fun w' hk => ?_) ?_
  · have c0 := hk.cell (C2.out.cell (o := 0) (v := .bool true) rfl); go_simp
  simp only [Act.put, List.setIfInBounds_toArray, List.set_cons_zero, List.set_cons_succ]
  refine WE.done ?_
  go_upto_region 6 with (fail)
  have mixed : Try.prog.follows .mixedOrders = true := by kernel_rfl
  have m1 : ¬ gD2 = w.heap.size + 1 + 1 := HND2B3.out
  have m2 : ¬ w.heap.size + 1 + 1 = gD2 := fun e => m1 e.symm
  have RN : Worth wd.drew (.agg #[.bool g4, .slice A4 n4 c4]) (Z.fdiv ((Y.natAbs : Nat) : Int)) (max j 1 + 1) := ((IsZ.mk HS4.out R4.out).worth).up ((Ext.refl _).drew')
  have hneg : ∀ R, (∀ wn gn An nn cn, Ext wd.drew wn → gn = decide (-(Z.fdiv ((Y.natAbs : Nat) : Int)) < 0) → IsN wn (.slice An nn cn) (-(Z.fdiv ((Y.natAbs : Nat) : Int))).natAbs (max j 1 + 1) → R (.returned (.agg #[.bool gn, .slice An nn cn])) wn) → Calls Try.prog 24 #[.agg #[.bool g4, .slice A4 n4 c4]] wd.drew R := fun R hR => (rNeg_w RN).mono fun e wn ⟨vx, he, hx, hb⟩ => by subst he; obtain ⟨gn, An, nn, cn, rfl, h1, h2⟩ := hx.form; exact hR wn gn An nn cn hb h1 h2
  have d0 := D1.out.cell (o := 0) (v := .bool g4) rfl
  have d1 := D1.out.cell (o := 1) (v := .slice A4 n4 c4) rfl
  have e0 := D2.out.cell (o := 0) (v := .bool g5) rfl
  have e1 := D2.out.cell (o := 1) (v := .slice A5 n5 c5) rfl
  have p0 : wd.cell? ⟨(w.heap.size + 1 + 1), 0, none⟩ = some (.bool false) := B3.out.cell (o := 0) (v := .bool false) rfl
  have pf0 : wd.frozen? ⟨(w.heap.size + 1 + 1), 0, none⟩ = false := B3.out.free 0
  have p1 : wd.cell? ⟨(w.heap.size + 1 + 1), 1, none⟩ = some (.slice none 0 0) := B3.out.cell (o := 1) (v := .slice none 0 0) rfl
  have pf1 : wd.frozen? ⟨(w.heap.size + 1 + 1), 1, none⟩ = false := B3.out.free 1
  have q0 : wd.cell? ⟨(w.heap.size + 1 + 1 + 1), 0, none⟩ = some (.bool false) := B4.out.cell (o := 0) (v := .bool false) rfl
  have qf0 : wd.frozen? ⟨(w.heap.size + 1 + 1 + 1), 0, none⟩ = false := B4.out.free 0
  have q1 : wd.cell? ⟨(w.heap.size + 1 + 1 + 1), 1, none⟩ = some (.slice none 0 0) := B4.out.cell (o := 1) (v := .slice none 0 0) rfl
  have qf1 : wd.frozen? ⟨(w.heap.size + 1 + 1 + 1), 1, none⟩ = false := B4.out.free 1
  go_region_with (go_at_call 24; refine hneg _ ?_; intro wn gn An nn cn hb hgn hrn; have HGN := hid hgn; clear hgn; have X2 := D2.out.up (((Ext.refl wd).drew').trans hb); have X3 := B3.out.up (((Ext.refl wd).drew').trans hb); have X4 := B4.out.up (((Ext.refl wd).drew').trans hb); have Y1 := D1.out.up (((Ext.refl wd).drew').trans hb); have xd0 := Y1.cell (o := 0) (v := .bool g4) rfl; have xd1 := Y1.cell (o := 1) (v := .slice A4 n4 c4) rfl; have xe0 := X2.cell (o := 0) (v := .bool g5) rfl; have xe1 := X2.cell (o := 1) (v := .slice A5 n5 c5) rfl; have xp0 : wn.cell? ⟨(w.heap.size + 1 + 1), 0, none⟩ = some (.bool false) := X3.cell (o := 0) (v := .bool false) rfl; have xpf0 : wn.frozen? ⟨(w.heap.size + 1 + 1), 0, none⟩ = false := X3.free 0; have xp1 : wn.cell? ⟨(w.heap.size + 1 + 1), 1, none⟩ = some (.slice none 0 0) := X3.cell (o := 1) (v := .slice none 0 0) rfl; have xpf1 : wn.frozen? ⟨(w.heap.size + 1 + 1), 1, none⟩ = false := X3.free 1; have xq0 : wn.cell? ⟨(w.heap.size + 1 + 1 + 1), 0, none⟩ = some (.bool false) := X4.cell (o := 0) (v := .bool false) rfl; have xqf0 : wn.frozen? ⟨(w.heap.size + 1 + 1 + 1), 0, none⟩ = false := X4.free 0; have xq1 : wn.cell? ⟨(w.heap.size + 1 + 1 + 1), 1, none⟩ = some (.slice none 0 0) := X4.cell (o := 1) (v := .slice none 0 0) rfl; have xqf1 : wn.frozen? ⟨(w.heap.size + 1 + 1 + 1), 1, none⟩ = false := X4.free 1)
  all_goals
    have E1 : Ext w wn := (E.out.drew').trans hb
    have k1 := kept_set (w := wn) (g := w.heap.size + 2) (.bool gn) (.slice An nn cn)
    have s1 := keeps_store X3 rfl k1
    have Z3 := (X3).set2 (.bool gn) (.slice An nn cn)
    have Z4 := (X4).kept k1 (by simp)
    have k2 := kept_set (w := (wn.setCell ⟨w.heap.size + 2, 0, none⟩ (.bool gn)).setCell ⟨w.heap.size + 2, 1, none⟩ (.slice An nn cn)) (g := w.heap.size + 3) (.bool g5) (.slice A5 n5 c5)
    have s2 := keeps_store Z4 rfl k2
    have V3 := Z3.kept k2 (by simp)
    have V4 := Z4.set2 (.bool g5) (.slice A5 n5 c5)
    have E2 := (E1.keptG k1 (by omega)).keptG k2 (by omega)
    have r0 := V3.cell (o := 0) (v := .bool gn) rfl
    have r1 := V3.cell (o := 1) (v := .slice An nn cn) rfl
    have r2 := V4.cell (o := 0) (v := .bool g5) rfl
    have r3 := V4.cell (o := 1) (v := .slice A5 n5 c5) rfl
    go_wp2
    exact bodyPost_ret (v := .tuple #[.agg #[.bool gn, .slice An nn cn], .agg #[.bool g5, .slice A5 n5 c5]]) (by simp [results, Try.results9, go_sem, r0, r1, r2, r3]) rfl ⟨_, _, rfl, (IsZ.to ((IsZ.mk HGN.out hrn).kz s1) (by have := (M.euclid_of Z Y).1; rw [Int.sign_eq_neg_one_of_neg HY.out] at this; omega)).kz s2, IsZ.to ((((IsZ.mk HS5.out R5.out).up (((Ext.refl wd).drew').trans hb)).kz s1).kz s2) (M.euclid_of Z Y).2.symm, E2⟩

end Go.Proofs.Ythlafkbldlmmaaa
