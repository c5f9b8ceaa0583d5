/-
  Contracts of the reference's integers, over what values are worth.
-/
import Derived.Test.YtkjfeedclaedfaaGreatRZA
namespace Go.Proofs.YtkjfeedclaedfaaGreat
open Go.RowKit
set_option linter.unusedSimpArgs false
set_option linter.unusedVariables false

set_option maxHeartbeats 1000000 in
theorem rCmp_tf {w : World} {u v : Value} {Z Y : Int} {j k : Nat} (hu : Worth w u Z j) (hv : Worth w v Y k) {z : Int} (ha : decide (Z < 0) = true) (hb : decide (Y < 0) = false) (hz : True) :
    Calls Tryz.prog 59 #[u, v] w (fun e w' => e = .returned (.int .i64 (-1)) ∧ Ext w w') := by
  obtain ⟨g, A, n, c, rfl⟩ := hu.shape
  obtain ⟨g', A', n', c', rfl⟩ := hv.shape
  have R := hid hu
  have R' := hid hv
  clear hu hv
  have HA := hid ha
  have HB := hid hb
  clear ha hb hz
  go_enter Tryz.func59, Tryz.ntmps59
  go_upto_region 1 with (fail)
  have E := hid (((Ext.refl w).alloc' (.cells #[.bool g, .slice A n c] 24)).alloc' (.cells #[.bool g', .slice A' n' c'] 24))
  have B1 : Hid (Box ((w.alloc (.cells #[.bool g, .slice A n c] 24)).alloc (.cells #[.bool g', .slice A' n' c'] 24)) (w.heap.size) #[.bool g, .slice A n c] 24) := hid ((Box.at_ (w := w) #[.bool g, .slice A n c] 24 (by simp)).alloc (.cells #[.bool g', .slice A' n' c'] 24))
  have B2 : Hid (Box ((w.alloc (.cells #[.bool g, .slice A n c] 24)).alloc (.cells #[.bool g', .slice A' n' c'] 24)) (w.heap.size + 1) #[.bool g', .slice A' n' c'] 24) := hid (Box.at_ (w := (w.alloc (.cells #[.bool g, .slice A n c] 24))) #[.bool g', .slice A' n' c'] 24 (by simp))
  replace R := hid (R.out.up E.out)
  replace R' := hid (R'.out.up E.out)
  refine wp_region_E [(0, 0), (2, 0), (1, 2), (3, 2), (4, 3), (5, 3), (6, 4), (7, 4)] (fun _ => (24, #[.bool false, .slice none 0 0])) rfl (by kernel_rfl) (by intro j hj; simp [pend] at hj; rcases hj with rfl | rfl <;> exact ⟨_, rfl, rfl, rfl, fun w => by go_simp⟩) (fun _ _ d _ _ => by cases d <;> exact Iff.rfl) fun wd hb => ?_
  replace E := hid (E.out.trans hb)
  replace B1 := hid (B1.out.up hb)
  replace B2 := hid (B2.out.up hb)
  replace R := hid (R.out.up hb)
  replace R' := hid (R'.out.up hb)
  clear hb
  have HL1B1 := hid B1.out.lt
  have HL1B2 := hid B2.out.lt
  have HW1 := hid (show w.heap.size ≤ wd.heap.size from E.out.size)
  refine WE.pure (d := some 7) rfl rfl (by rfl) (v := (.agg #[.bool g, .slice A n c])) (fun w' hk => ?_) ?_
  · have c0 := hk.cell (B1.out.cell (o := 0) (v := .bool g) rfl); have c1 := hk.cell (B1.out.cell (o := 1) (v := .slice A n c) rfl); go_simp
  simp only [Act.put, pA, pB, pC]
  refine WE.pure (d := some 9) rfl rfl (by rfl) (v := (.agg #[.bool g', .slice A' n' c'])) (fun w' hk => ?_) ?_
  · have c0 := hk.cell (B2.out.cell (o := 0) (v := .bool g') rfl); have c1 := hk.cell (B2.out.cell (o := 1) (v := .slice A' n' c') rfl); go_simp
  simp only [Act.put, pA, pB, pC]
  refine WE.callR (d := some 8) rfl rfl (by rfl) (f := 57) (args := #[(.agg #[.bool g, .slice A n c])]) (fun w => by go_simp) (fun wx hx0 => ?_)
  replace E := hid (E.out.trans hx0)
  replace R := hid (R.out.up hx0)
  replace R' := hid (R'.out.up hx0)
  clear hx0
  refine (rMay_w R.out).mono ?_
  rintro e wn ⟨vx, rfl, hx, hb⟩
  obtain ⟨gg, A1, n1, c1, rfl, hs1, hr1⟩ := hx.form
  clear hx
  obtain rfl : gg = true := hs1.trans HA.out
  clear hs1
  refine ⟨_, rfl, hb, ?_⟩
  replace E := hid (E.out.trans hb)
  replace R' := hid (R'.out.up hb)
  clear hb hr1
  simp only [Act.put, pA, pB, pC]
  refine WE.callR (d := some 10) rfl rfl (by rfl) (f := 57) (args := #[(.agg #[.bool g', .slice A' n' c'])]) (fun w => by go_simp) (fun wx hx0 => ?_)
  replace E := hid (E.out.trans hx0)
  replace R' := hid (R'.out.up hx0)
  clear hx0
  refine (rMay_w R'.out).mono ?_
  rintro e wn ⟨vx, rfl, hx, hb⟩
  obtain ⟨gg, A2, n2, c2, rfl, hs2, hr2⟩ := hx.form
  clear hx
  obtain rfl : gg = false := hs2.trans HB.out
  clear hs2
  refine ⟨_, rfl, hb, ?_⟩
  replace E := hid (E.out.trans hb)
  clear hb hr2
  simp only [Act.put, pA, pB, pC]
  refine WE.var (d := some 5) rfl fun gC1 wv hx0 hbox hge hng => ?_
  have HGC1 := hid (show w.heap.size ≤ gC1 by have := HW1.out; omega)
  replace E := hid (E.out.trans hx0)
  have C1 : Hid (Box wv gC1 #[.bool false, .slice none 0 0] 24) := hid hbox
  clear hx0 hbox hge hng
  simp only [Act.put, pA, pB, pC]
  refine WE.var (d := some 6) rfl fun gC2 wv hx0 hbox hge hng => ?_
  have HNC2C1 := hid (show gC2 ≠ gC1 by intro e; exact hng (by simp [e]))
  have HGC2 := hid (show w.heap.size ≤ gC2 by have := HW1.out; omega)
  replace E := hid (E.out.trans hx0)
  replace C1 := hid (C1.out.up hx0)
  have C2 : Hid (Box wv gC2 #[.bool false, .slice none 0 0] 24) := hid hbox
  clear hx0 hbox hge hng
  simp only [Act.put, pA, pB, pC]
  refine WE.store2 (g := gC1) (x := .bool true) (y := .slice A1 n1 c1) (t := 24) rfl rfl (by rfl) (fun w hb => ?_) C1.out (by rfl) fun ws hk hs => ?_
  · have c0 := hb.cell (o := 0) (v := .bool false) rfl; have f0 := hb.free 0; have c1 := hb.cell (o := 1) (v := .slice none 0 0) rfl; have f1 := hb.free 1; go_simp
  intro hbx
  replace E := hid (E.out.keptG hk HGC1.out)
  replace C1 := hid hbx
  replace C2 := hid (C2.out.kept hk (by simpa using HNC2C1.out))
  clear hk hs hbx
  refine WE.store2 (g := gC2) (x := .bool false) (y := .slice A2 n2 c2) (t := 24) rfl rfl (by rfl) (fun w hb => ?_) C2.out (by rfl) fun ws hk hs => ?_
  · have c0 := hb.cell (o := 0) (v := .bool false) rfl; have f0 := hb.free 0; have c1 := hb.cell (o := 1) (v := .slice none 0 0) rfl; have f1 := hb.free 1; go_simp
  intro hbx
  replace E := hid (E.out.keptG hk HGC2.out)
  replace C1 := hid (C1.out.kept hk (by simpa using HNC2C1.out.symm))
  replace C2 := hid hbx
  clear hk hs hbx
  refine WE.done ?_
  go_upto_region 2 with (fail)
  refine wp_region_T [(0, 0), (1, 0), (2, 0), (3, 0), (4, 0), (5, 0), (6, 0), (7, 0)] (by kernel_rfl) fun wd hb => ?_
  replace E := hid (E.out.trans hb)
  replace C1 := hid (C1.out.up hb)
  replace C2 := hid (C2.out.up hb)
  clear hb
  refine WE.pure (d := some 12) rfl rfl (by rfl) (v := (.pointer (some ⟨gC1, 0, none⟩))) (fun w' hk => ?_) ?_
  · go_simp
  simp only [Act.put, pA, pB, pC]
  refine WE.pure (d := some 13) rfl rfl (by rfl) (v := (.bool true)) (fun w' hk => ?_) ?_
  · have c0 := hk.cell (C1.out.cell (o := 0) (v := .bool true) rfl); go_simp
  simp only [Act.put, pA, pB, pC]
  refine WE.pure (d := some 14) rfl rfl (by rfl) (v := (.bool true)) (fun w' hk => ?_) ?_
  · go_simp
  simp only [Act.put, pA, pB, pC]
  refine WE.pure (d := some 15) rfl rfl (by rfl) (v := (.pointer (some ⟨gC2, 0, none⟩))) (fun w' hk => ?_) ?_
  · go_simp
  simp only [Act.put, pA, pB, pC]
  refine WE.pure (d := some 16) rfl rfl (by rfl) (v := (.bool false)) (fun w' hk => ?_) ?_
  · have c0 := hk.cell (C2.out.cell (o := 0) (v := .bool false) rfl); go_simp
  simp only [Act.put, pA, pB, pC]
  refine WE.pure (d := some 17) rfl rfl (by rfl) (v := (.bool true)) (fun w' hk => ?_) ?_
  · go_simp
  simp only [Act.put, pA, pB, pC]
  refine WE.pure (d := some 18) rfl rfl (by rfl) (v := (.bool true)) (fun w' hk => ?_) ?_
  · go_simp
  simp only [Act.put, pA, pB, pC]
  refine WE.pure (d := some 11) rfl rfl (by rfl) (v := (.bool true)) (fun w' hk => ?_) ?_
  · go_simp
  simp only [Act.put, pA, pB, pC]
  refine WE.done ?_
  go_wp2
  go_ret
  exact ⟨rfl, E.out⟩

set_option maxHeartbeats 1000000 in
theorem rCmp_ft {w : World} {u v : Value} {Z Y : Int} {j k : Nat} (hu : Worth w u Z j) (hv : Worth w v Y k) {z : Int} (ha : decide (Z < 0) = false) (hb : decide (Y < 0) = true) (hz : True) :
    Calls Tryz.prog 59 #[u, v] w (fun e w' => e = .returned (.int .i64 1) ∧ Ext w w') := by
  obtain ⟨g, A, n, c, rfl⟩ := hu.shape
  obtain ⟨g', A', n', c', rfl⟩ := hv.shape
  have R := hid hu
  have R' := hid hv
  clear hu hv
  have HA := hid ha
  have HB := hid hb
  clear ha hb hz
  go_enter Tryz.func59, Tryz.ntmps59
  go_upto_region 1 with (fail)
  have E := hid (((Ext.refl w).alloc' (.cells #[.bool g, .slice A n c] 24)).alloc' (.cells #[.bool g', .slice A' n' c'] 24))
  have B1 : Hid (Box ((w.alloc (.cells #[.bool g, .slice A n c] 24)).alloc (.cells #[.bool g', .slice A' n' c'] 24)) (w.heap.size) #[.bool g, .slice A n c] 24) := hid ((Box.at_ (w := w) #[.bool g, .slice A n c] 24 (by simp)).alloc (.cells #[.bool g', .slice A' n' c'] 24))
  have B2 : Hid (Box ((w.alloc (.cells #[.bool g, .slice A n c] 24)).alloc (.cells #[.bool g', .slice A' n' c'] 24)) (w.heap.size + 1) #[.bool g', .slice A' n' c'] 24) := hid (Box.at_ (w := (w.alloc (.cells #[.bool g, .slice A n c] 24))) #[.bool g', .slice A' n' c'] 24 (by simp))
  replace R := hid (R.out.up E.out)
  replace R' := hid (R'.out.up E.out)
  refine wp_region_E [(0, 0), (2, 0), (1, 2), (3, 2), (4, 3), (5, 3), (6, 4), (7, 4)] (fun _ => (24, #[.bool false, .slice none 0 0])) rfl (by kernel_rfl) (by intro j hj; simp [pend] at hj; rcases hj with rfl | rfl <;> exact ⟨_, rfl, rfl, rfl, fun w => by go_simp⟩) (fun _ _ d _ _ => by cases d <;> exact Iff.rfl) fun wd hb => ?_
  replace E := hid (E.out.trans hb)
  replace B1 := hid (B1.out.up hb)
  replace B2 := hid (B2.out.up hb)
  replace R := hid (R.out.up hb)
  replace R' := hid (R'.out.up hb)
  clear hb
  have HL1B1 := hid B1.out.lt
  have HL1B2 := hid B2.out.lt
  have HW1 := hid (show w.heap.size ≤ wd.heap.size from E.out.size)
  refine WE.pure (d := some 7) rfl rfl (by rfl) (v := (.agg #[.bool g, .slice A n c])) (fun w' hk => ?_) ?_
  · have c0 := hk.cell (B1.out.cell (o := 0) (v := .bool g) rfl); have c1 := hk.cell (B1.out.cell (o := 1) (v := .slice A n c) rfl); go_simp
  simp only [Act.put, pA, pB, pC]
  refine WE.pure (d := some 9) rfl rfl (by rfl) (v := (.agg #[.bool g', .slice A' n' c'])) (fun w' hk => ?_) ?_
  · have c0 := hk.cell (B2.out.cell (o := 0) (v := .bool g') rfl); have c1 := hk.cell (B2.out.cell (o := 1) (v := .slice A' n' c') rfl); go_simp
  simp only [Act.put, pA, pB, pC]
  refine WE.callR (d := some 8) rfl rfl (by rfl) (f := 57) (args := #[(.agg #[.bool g, .slice A n c])]) (fun w => by go_simp) (fun wx hx0 => ?_)
  replace E := hid (E.out.trans hx0)
  replace R := hid (R.out.up hx0)
  replace R' := hid (R'.out.up hx0)
  clear hx0
  refine (rMay_w R.out).mono ?_
  rintro e wn ⟨vx, rfl, hx, hb⟩
  obtain ⟨gg, A1, n1, c1, rfl, hs1, hr1⟩ := hx.form
  clear hx
  obtain rfl : gg = false := hs1.trans HA.out
  clear hs1
  refine ⟨_, rfl, hb, ?_⟩
  replace E := hid (E.out.trans hb)
  replace R' := hid (R'.out.up hb)
  clear hb hr1
  simp only [Act.put, pA, pB, pC]
  refine WE.callR (d := some 10) rfl rfl (by rfl) (f := 57) (args := #[(.agg #[.bool g', .slice A' n' c'])]) (fun w => by go_simp) (fun wx hx0 => ?_)
  replace E := hid (E.out.trans hx0)
  replace R' := hid (R'.out.up hx0)
  clear hx0
  refine (rMay_w R'.out).mono ?_
  rintro e wn ⟨vx, rfl, hx, hb⟩
  obtain ⟨gg, A2, n2, c2, rfl, hs2, hr2⟩ := hx.form
  clear hx
  obtain rfl : gg = true := hs2.trans HB.out
  clear hs2
  refine ⟨_, rfl, hb, ?_⟩
  replace E := hid (E.out.trans hb)
  clear hb hr2
  simp only [Act.put, pA, pB, pC]
  refine WE.var (d := some 5) rfl fun gC1 wv hx0 hbox hge hng => ?_
  have HGC1 := hid (show w.heap.size ≤ gC1 by have := HW1.out; omega)
  replace E := hid (E.out.trans hx0)
  have C1 : Hid (Box wv gC1 #[.bool false, .slice none 0 0] 24) := hid hbox
  clear hx0 hbox hge hng
  simp only [Act.put, pA, pB, pC]
  refine WE.var (d := some 6) rfl fun gC2 wv hx0 hbox hge hng => ?_
  have HNC2C1 := hid (show gC2 ≠ gC1 by intro e; exact hng (by simp [e]))
  have HGC2 := hid (show w.heap.size ≤ gC2 by have := HW1.out; omega)
  replace E := hid (E.out.trans hx0)
  replace C1 := hid (C1.out.up hx0)
  have C2 : Hid (Box wv gC2 #[.bool false, .slice none 0 0] 24) := hid hbox
  clear hx0 hbox hge hng
  simp only [Act.put, pA, pB, pC]
  refine WE.store2 (g := gC1) (x := .bool false) (y := .slice A1 n1 c1) (t := 24) rfl rfl (by rfl) (fun w hb => ?_) C1.out (by rfl) fun ws hk hs => ?_
  · have c0 := hb.cell (o := 0) (v := .bool false) rfl; have f0 := hb.free 0; have c1 := hb.cell (o := 1) (v := .slice none 0 0) rfl; have f1 := hb.free 1; go_simp
  intro hbx
  replace E := hid (E.out.keptG hk HGC1.out)
  replace C1 := hid hbx
  replace C2 := hid (C2.out.kept hk (by simpa using HNC2C1.out))
  clear hk hs hbx
  refine WE.store2 (g := gC2) (x := .bool true) (y := .slice A2 n2 c2) (t := 24) rfl rfl (by rfl) (fun w hb => ?_) C2.out (by rfl) fun ws hk hs => ?_
  · have c0 := hb.cell (o := 0) (v := .bool false) rfl; have f0 := hb.free 0; have c1 := hb.cell (o := 1) (v := .slice none 0 0) rfl; have f1 := hb.free 1; go_simp
  intro hbx
  replace E := hid (E.out.keptG hk HGC2.out)
  replace C1 := hid (C1.out.kept hk (by simpa using HNC2C1.out.symm))
  replace C2 := hid hbx
  clear hk hs hbx
  refine WE.done ?_
  go_upto_region 2 with (fail)
  refine wp_region_T [(0, 0), (1, 0), (2, 0), (3, 0), (4, 0), (5, 0), (6, 0), (7, 0)] (by kernel_rfl) fun wd hb => ?_
  replace E := hid (E.out.trans hb)
  replace C1 := hid (C1.out.up hb)
  replace C2 := hid (C2.out.up hb)
  clear hb
  refine WE.pure (d := some 12) rfl rfl (by rfl) (v := (.pointer (some ⟨gC1, 0, none⟩))) (fun w' hk => ?_) ?_
  · go_simp
  simp only [Act.put, pA, pB, pC]
  refine WE.pure (d := some 13) rfl rfl (by rfl) (v := (.bool false)) (fun w' hk => ?_) ?_
  · have c0 := hk.cell (C1.out.cell (o := 0) (v := .bool false) rfl); go_simp
  simp only [Act.put, pA, pB, pC]
  refine WE.pure (d := some 14) rfl rfl (by rfl) (v := (.bool false)) (fun w' hk => ?_) ?_
  · go_simp
  simp only [Act.put, pA, pB, pC]
  refine WE.skip (d := some 15) rfl rfl (by rfl) ?_
  simp only [Act.put, pA, pB, pC]
  refine WE.skip (d := some 16) rfl rfl (by rfl) ?_
  simp only [Act.put, pA, pB, pC]
  refine WE.skip (d := some 17) rfl rfl (by rfl) ?_
  simp only [Act.put, pA, pB, pC]
  refine WE.pure (d := some 18) rfl rfl (by rfl) (v := (.bool false)) (fun w' hk => ?_) ?_
  · go_simp
  simp only [Act.put, pA, pB, pC]
  refine WE.pure (d := some 11) rfl rfl (by rfl) (v := (.bool false)) (fun w' hk => ?_) ?_
  · go_simp
  simp only [Act.put, pA, pB, pC]
  refine WE.done ?_
  go_upto_region 4 with (fail)
  refine wp_region_T [(0, 0), (1, 0), (2, 0), (3, 0), (4, 0), (5, 0), (6, 0), (7, 0)] (by kernel_rfl) fun wd hb => ?_
  replace E := hid (E.out.trans hb)
  replace C1 := hid (C1.out.up hb)
  replace C2 := hid (C2.out.up hb)
  clear hb
  refine WE.pure (d := some 20) rfl rfl (by rfl) (v := (.pointer (some ⟨gC1, 0, none⟩))) (fun w' hk => ?_) ?_
  · go_simp
  simp only [Act.put, pA, pB, pC]
  refine WE.pure (d := some 21) rfl rfl (by rfl) (v := (.bool false)) (fun w' hk => ?_) ?_
  · have c0 := hk.cell (C1.out.cell (o := 0) (v := .bool false) rfl); go_simp
  simp only [Act.put, pA, pB, pC]
  refine WE.pure (d := some 22) rfl rfl (by rfl) (v := (.bool true)) (fun w' hk => ?_) ?_
  · go_simp
  simp only [Act.put, pA, pB, pC]
  refine WE.pure (d := some 23) rfl rfl (by rfl) (v := (.bool true)) (fun w' hk => ?_) ?_
  · go_simp
  simp only [Act.put, pA, pB, pC]
  refine WE.pure (d := some 24) rfl rfl (by rfl) (v := (.pointer (some ⟨gC2, 0, none⟩))) (fun w' hk => ?_) ?_
  · go_simp
  simp only [Act.put, pA, pB, pC]
  refine WE.pure (d := some 25) rfl rfl (by rfl) (v := (.bool true)) (fun w' hk => ?_) ?_
  · have c0 := hk.cell (C2.out.cell (o := 0) (v := .bool true) rfl); go_simp
  simp only [Act.put, pA, pB, pC]
  refine WE.pure (d := some 26) rfl rfl (by rfl) (v := (.bool true)) (fun w' hk => ?_) ?_
  · go_simp
  simp only [Act.put, pA, pB, pC]
  refine WE.pure (d := some 19) rfl rfl (by rfl) (v := (.bool true)) (fun w' hk => ?_) ?_
  · go_simp
  simp only [Act.put, pA, pB, pC]
  refine WE.done ?_
  go_wp2
  go_ret
  exact ⟨rfl, E.out⟩

set_option maxHeartbeats 1000000 in
theorem rCmp_tt {w : World} {u v : Value} {Z Y : Int} {j k : Nat} (hu : Worth w u Z j) (hv : Worth w v Y k) {z : Int} (ha : decide (Z < 0) = true) (hb : decide (Y < 0) = true) (hz : M.cmp Y.natAbs Z.natAbs = z) :
    Calls Tryz.prog 59 #[u, v] w (fun e w' => e = .returned (.int .i64 z) ∧ Ext w w') := by
  obtain ⟨g, A, n, c, rfl⟩ := hu.shape
  obtain ⟨g', A', n', c', rfl⟩ := hv.shape
  have R := hid hu
  have R' := hid hv
  clear hu hv
  have HA := hid ha
  have HB := hid hb
  have HZ := hid hz
  clear ha hb hz
  go_enter Tryz.func59, Tryz.ntmps59
  go_upto_region 1 with (fail)
  have E := hid (((Ext.refl w).alloc' (.cells #[.bool g, .slice A n c] 24)).alloc' (.cells #[.bool g', .slice A' n' c'] 24))
  have B1 : Hid (Box ((w.alloc (.cells #[.bool g, .slice A n c] 24)).alloc (.cells #[.bool g', .slice A' n' c'] 24)) (w.heap.size) #[.bool g, .slice A n c] 24) := hid ((Box.at_ (w := w) #[.bool g, .slice A n c] 24 (by simp)).alloc (.cells #[.bool g', .slice A' n' c'] 24))
  have B2 : Hid (Box ((w.alloc (.cells #[.bool g, .slice A n c] 24)).alloc (.cells #[.bool g', .slice A' n' c'] 24)) (w.heap.size + 1) #[.bool g', .slice A' n' c'] 24) := hid (Box.at_ (w := (w.alloc (.cells #[.bool g, .slice A n c] 24))) #[.bool g', .slice A' n' c'] 24 (by simp))
  replace R := hid (R.out.up E.out)
  replace R' := hid (R'.out.up E.out)
  refine wp_region_E [(0, 0), (2, 0), (1, 2), (3, 2), (4, 3), (5, 3), (6, 4), (7, 4)] (fun _ => (24, #[.bool false, .slice none 0 0])) rfl (by kernel_rfl) (by intro j hj; simp [pend] at hj; rcases hj with rfl | rfl <;> exact ⟨_, rfl, rfl, rfl, fun w => by go_simp⟩) (fun _ _ d _ _ => by cases d <;> exact Iff.rfl) fun wd hb => ?_
  replace E := hid (E.out.trans hb)
  replace B1 := hid (B1.out.up hb)
  replace B2 := hid (B2.out.up hb)
  replace R := hid (R.out.up hb)
  replace R' := hid (R'.out.up hb)
  clear hb
  have HL1B1 := hid B1.out.lt
  have HL1B2 := hid B2.out.lt
  have HW1 := hid (show w.heap.size ≤ wd.heap.size from E.out.size)
  refine WE.pure (d := some 7) rfl rfl (by rfl) (v := (.agg #[.bool g, .slice A n c])) (fun w' hk => ?_) ?_
  · have c0 := hk.cell (B1.out.cell (o := 0) (v := .bool g) rfl); have c1 := hk.cell (B1.out.cell (o := 1) (v := .slice A n c) rfl); go_simp
  simp only [Act.put, pA, pB, pC]
  refine WE.pure (d := some 9) rfl rfl (by rfl) (v := (.agg #[.bool g', .slice A' n' c'])) (fun w' hk => ?_) ?_
  · have c0 := hk.cell (B2.out.cell (o := 0) (v := .bool g') rfl); have c1 := hk.cell (B2.out.cell (o := 1) (v := .slice A' n' c') rfl); go_simp
  simp only [Act.put, pA, pB, pC]
  refine WE.callR (d := some 8) rfl rfl (by rfl) (f := 57) (args := #[(.agg #[.bool g, .slice A n c])]) (fun w => by go_simp) (fun wx hx0 => ?_)
  replace E := hid (E.out.trans hx0)
  replace R := hid (R.out.up hx0)
  replace R' := hid (R'.out.up hx0)
  clear hx0
  refine (rMay_w R.out).mono ?_
  rintro e wn ⟨vx, rfl, hx, hb⟩
  obtain ⟨gg, A1, n1, c1, rfl, hs1, hr1⟩ := hx.form
  clear hx
  obtain rfl : gg = true := hs1.trans HA.out
  clear hs1
  refine ⟨_, rfl, hb, ?_⟩
  replace E := hid (E.out.trans hb)
  replace R' := hid (R'.out.up hb)
  have R1 := hid hr1
  clear hb hr1
  simp only [Act.put, pA, pB, pC]
  refine WE.callR (d := some 10) rfl rfl (by rfl) (f := 57) (args := #[(.agg #[.bool g', .slice A' n' c'])]) (fun w => by go_simp) (fun wx hx0 => ?_)
  replace E := hid (E.out.trans hx0)
  replace R' := hid (R'.out.up hx0)
  replace R1 := hid (R1.out.up hx0)
  clear hx0
  refine (rMay_w R'.out).mono ?_
  rintro e wn ⟨vx, rfl, hx, hb⟩
  obtain ⟨gg, A2, n2, c2, rfl, hs2, hr2⟩ := hx.form
  clear hx
  obtain rfl : gg = true := hs2.trans HB.out
  clear hs2
  refine ⟨_, rfl, hb, ?_⟩
  replace E := hid (E.out.trans hb)
  replace R1 := hid (R1.out.up hb)
  have R2 := hid hr2
  clear hb hr2
  simp only [Act.put, pA, pB, pC]
  refine WE.var (d := some 5) rfl fun gC1 wv hx0 hbox hge hng => ?_
  have HGC1 := hid (show w.heap.size ≤ gC1 by have := HW1.out; omega)
  replace E := hid (E.out.trans hx0)
  replace R1 := hid (R1.out.up hx0)
  replace R2 := hid (R2.out.up hx0)
  have C1 : Hid (Box wv gC1 #[.bool false, .slice none 0 0] 24) := hid hbox
  clear hx0 hbox hge hng
  simp only [Act.put, pA, pB, pC]
  refine WE.var (d := some 6) rfl fun gC2 wv hx0 hbox hge hng => ?_
  have HNC2C1 := hid (show gC2 ≠ gC1 by intro e; exact hng (by simp [e]))
  have HGC2 := hid (show w.heap.size ≤ gC2 by have := HW1.out; omega)
  replace E := hid (E.out.trans hx0)
  replace C1 := hid (C1.out.up hx0)
  replace R1 := hid (R1.out.up hx0)
  replace R2 := hid (R2.out.up hx0)
  have C2 : Hid (Box wv gC2 #[.bool false, .slice none 0 0] 24) := hid hbox
  clear hx0 hbox hge hng
  simp only [Act.put, pA, pB, pC]
  refine WE.store2 (g := gC1) (x := .bool true) (y := .slice A1 n1 c1) (t := 24) rfl rfl (by rfl) (fun w hb => ?_) C1.out (by rfl) fun ws hk hs => ?_
  · have c0 := hb.cell (o := 0) (v := .bool false) rfl; have f0 := hb.free 0; have c1 := hb.cell (o := 1) (v := .slice none 0 0) rfl; have f1 := hb.free 1; go_simp
  intro hbx
  replace E := hid (E.out.keptG hk HGC1.out)
  replace C1 := hid hbx
  replace C2 := hid (C2.out.kept hk (by simpa using HNC2C1.out))
  replace R1 := hid (R1.out.kz hs)
  replace R2 := hid (R2.out.kz hs)
  clear hk hs hbx
  refine WE.store2 (g := gC2) (x := .bool true) (y := .slice A2 n2 c2) (t := 24) rfl rfl (by rfl) (fun w hb => ?_) C2.out (by rfl) fun ws hk hs => ?_
  · have c0 := hb.cell (o := 0) (v := .bool false) rfl; have f0 := hb.free 0; have c1 := hb.cell (o := 1) (v := .slice none 0 0) rfl; have f1 := hb.free 1; go_simp
  intro hbx
  replace E := hid (E.out.keptG hk HGC2.out)
  replace C1 := hid (C1.out.kept hk (by simpa using HNC2C1.out.symm))
  replace C2 := hid hbx
  replace R1 := hid (R1.out.kz hs)
  replace R2 := hid (R2.out.kz hs)
  clear hk hs hbx
  refine WE.done ?_
  go_upto_region 2 with (fail)
  refine wp_region_T [(0, 0), (1, 0), (2, 0), (3, 0), (4, 0), (5, 0), (6, 0), (7, 0)] (by kernel_rfl) fun wd hb => ?_
  replace E := hid (E.out.trans hb)
  replace C1 := hid (C1.out.up hb)
  replace C2 := hid (C2.out.up hb)
  replace R1 := hid (R1.out.up hb)
  replace R2 := hid (R2.out.up hb)
  clear hb
  refine WE.pure (d := some 12) rfl rfl (by rfl) (v := (.pointer (some ⟨gC1, 0, none⟩))) (fun w' hk => ?_) ?_
  · go_simp
  simp only [Act.put, pA, pB, pC]
  refine WE.pure (d := some 13) rfl rfl (by rfl) (v := (.bool true)) (fun w' hk => ?_) ?_
  · have c0 := hk.cell (C1.out.cell (o := 0) (v := .bool true) rfl); go_simp
  simp only [Act.put, pA, pB, pC]
  refine WE.pure (d := some 14) rfl rfl (by rfl) (v := (.bool true)) (fun w' hk => ?_) ?_
  · go_simp
  simp only [Act.put, pA, pB, pC]
  refine WE.pure (d := some 15) rfl rfl (by rfl) (v := (.pointer (some ⟨gC2, 0, none⟩))) (fun w' hk => ?_) ?_
  · go_simp
  simp only [Act.put, pA, pB, pC]
  refine WE.pure (d := some 16) rfl rfl (by rfl) (v := (.bool true)) (fun w' hk => ?_) ?_
  · have c0 := hk.cell (C2.out.cell (o := 0) (v := .bool true) rfl); go_simp
  simp only [Act.put, pA, pB, pC]
  refine WE.pure (d := some 17) rfl rfl (by rfl) (v := (.bool false)) (fun w' hk => ?_) ?_
  · go_simp
  simp only [Act.put, pA, pB, pC]
  refine WE.pure (d := some 18) rfl rfl (by rfl) (v := (.bool false)) (fun w' hk => ?_) ?_
  · go_simp
  simp only [Act.put, pA, pB, pC]
  refine WE.pure (d := some 11) rfl rfl (by rfl) (v := (.bool false)) (fun w' hk => ?_) ?_
  · go_simp
  simp only [Act.put, pA, pB, pC]
  refine WE.done ?_
  go_upto_region 4 with (fail)
  refine wp_region_T [(0, 0), (1, 0), (2, 0), (3, 0), (4, 0), (5, 0), (6, 0), (7, 0)] (by kernel_rfl) fun wd hb => ?_
  replace E := hid (E.out.trans hb)
  replace C1 := hid (C1.out.up hb)
  replace C2 := hid (C2.out.up hb)
  replace R1 := hid (R1.out.up hb)
  replace R2 := hid (R2.out.up hb)
  clear hb
  refine WE.pure (d := some 20) rfl rfl (by rfl) (v := (.pointer (some ⟨gC1, 0, none⟩))) (fun w' hk => ?_) ?_
  · go_simp
  simp only [Act.put, pA, pB, pC]
  refine WE.pure (d := some 21) rfl rfl (by rfl) (v := (.bool true)) (fun w' hk => ?_) ?_
  · have c0 := hk.cell (C1.out.cell (o := 0) (v := .bool true) rfl); go_simp
  simp only [Act.put, pA, pB, pC]
  refine WE.pure (d := some 22) rfl rfl (by rfl) (v := (.bool false)) (fun w' hk => ?_) ?_
  · go_simp
  simp only [Act.put, pA, pB, pC]
  refine WE.pure (d := some 23) rfl rfl (by rfl) (v := (.bool false)) (fun w' hk => ?_) ?_
  · go_simp
  simp only [Act.put, pA, pB, pC]
  refine WE.skip (d := some 24) rfl rfl (by rfl) ?_
  simp only [Act.put, pA, pB, pC]
  refine WE.skip (d := some 25) rfl rfl (by rfl) ?_
  simp only [Act.put, pA, pB, pC]
  refine WE.pure (d := some 26) rfl rfl (by rfl) (v := (.bool false)) (fun w' hk => ?_) ?_
  · go_simp
  simp only [Act.put, pA, pB, pC]
  refine WE.pure (d := some 19) rfl rfl (by rfl) (v := (.bool false)) (fun w' hk => ?_) ?_
  · go_simp
  simp only [Act.put, pA, pB, pC]
  refine WE.done ?_
  go_upto_region 6 with (fail)
  refine wp_region_T [(0, 0), (1, 0), (2, 0)] (by kernel_rfl) fun wd hb => ?_
  replace E := hid (E.out.trans hb)
  replace C1 := hid (C1.out.up hb)
  replace C2 := hid (C2.out.up hb)
  replace R1 := hid (R1.out.up hb)
  replace R2 := hid (R2.out.up hb)
  clear hb
  refine WE.pure (d := some 28) rfl rfl (by rfl) (v := (.pointer (some ⟨gC1, 0, none⟩))) (fun w' hk => ?_) ?_
  · go_simp
  simp only [Act.put, pA, pB, pC]
  refine WE.pure (d := some 29) rfl rfl (by rfl) (v := (.bool true)) (fun w' hk => ?_) ?_
  · have c0 := hk.cell (C1.out.cell (o := 0) (v := .bool true) rfl); go_simp
  simp only [Act.put, pA, pB, pC]
  refine WE.pure (d := some 27) rfl rfl (by rfl) (v := (.bool true)) (fun w' hk => ?_) ?_
  · go_simp
  simp only [Act.put, pA, pB, pC]
  refine WE.done ?_
  go_upto_region 7 with (fail)
  refine wp_region_T [(0, 0), (1, 0), (2, 0), (3, 0), (4, 1), (5, 0)] (by kernel_rfl) fun wd hb => ?_
  replace E := hid (E.out.trans hb)
  replace C1 := hid (C1.out.up hb)
  replace C2 := hid (C2.out.up hb)
  replace R1 := hid (R1.out.up hb)
  replace R2 := hid (R2.out.up hb)
  clear hb
  refine WE.pure (d := some 30) rfl rfl (by rfl) (v := (.pointer (some ⟨gC2, 1, none⟩))) (fun w' hk => ?_) ?_
  · go_simp
  simp only [Act.put, pA, pB, pC]
  refine WE.pure (d := some 31) rfl rfl (by rfl) (v := (.slice A2 n2 c2)) (fun w' hk => ?_) ?_
  · have c1 := hk.cell (C2.out.cell (o := 1) (v := .slice A2 n2 c2) rfl); go_simp
  simp only [Act.put, pA, pB, pC]
  refine WE.pure (d := some 32) rfl rfl (by rfl) (v := (.pointer (some ⟨gC1, 1, none⟩))) (fun w' hk => ?_) ?_
  · go_simp
  simp only [Act.put, pA, pB, pC]
  refine WE.pure (d := some 33) rfl rfl (by rfl) (v := (.slice A1 n1 c1)) (fun w' hk => ?_) ?_
  · have c1 := hk.cell (C1.out.cell (o := 1) (v := .slice A1 n1 c1) rfl); go_simp
  simp only [Act.put, pA, pB, pC]
  refine WE.call (d := some 34) rfl rfl (by rfl) (f := 81) (args := #[(.slice A2 n2 c2), (.slice A1 n1 c1)]) (by go_simp) ?_
  refine (rcmp_n R2.out R1.out HZ.out).mono ?_
  rintro e wn ⟨rfl, hb⟩
  refine ⟨_, rfl, hb, ?_⟩
  replace E := hid (E.out.trans hb)
  clear hb
  simp only [Act.put, pA, pB, pC]
  refine WE.pure (d := some 4) rfl rfl (by rfl) (v := (.int .i64 z)) (fun w' hk => ?_) ?_
  · go_simp
  simp only [Act.put, pA, pB, pC]
  refine WE.done ?_
  go_wp2
  go_ret
  exact ⟨rfl, E.out⟩

set_option maxHeartbeats 1000000 in
theorem rCmp_ff {w : World} {u v : Value} {Z Y : Int} {j k : Nat} (hu : Worth w u Z j) (hv : Worth w v Y k) {z : Int} (ha : decide (Z < 0) = false) (hb : decide (Y < 0) = false) (hz : M.cmp Z.natAbs Y.natAbs = z) :
    Calls Tryz.prog 59 #[u, v] w (fun e w' => e = .returned (.int .i64 z) ∧ Ext w w') := by
  obtain ⟨g, A, n, c, rfl⟩ := hu.shape
  obtain ⟨g', A', n', c', rfl⟩ := hv.shape
  have R := hid hu
  have R' := hid hv
  clear hu hv
  have HA := hid ha
  have HB := hid hb
  have HZ := hid hz
  clear ha hb hz
  go_enter Tryz.func59, Tryz.ntmps59
  go_upto_region 1 with (fail)
  have E := hid (((Ext.refl w).alloc' (.cells #[.bool g, .slice A n c] 24)).alloc' (.cells #[.bool g', .slice A' n' c'] 24))
  have B1 : Hid (Box ((w.alloc (.cells #[.bool g, .slice A n c] 24)).alloc (.cells #[.bool g', .slice A' n' c'] 24)) (w.heap.size) #[.bool g, .slice A n c] 24) := hid ((Box.at_ (w := w) #[.bool g, .slice A n c] 24 (by simp)).alloc (.cells #[.bool g', .slice A' n' c'] 24))
  have B2 : Hid (Box ((w.alloc (.cells #[.bool g, .slice A n c] 24)).alloc (.cells #[.bool g', .slice A' n' c'] 24)) (w.heap.size + 1) #[.bool g', .slice A' n' c'] 24) := hid (Box.at_ (w := (w.alloc (.cells #[.bool g, .slice A n c] 24))) #[.bool g', .slice A' n' c'] 24 (by simp))
  replace R := hid (R.out.up E.out)
  replace R' := hid (R'.out.up E.out)
  refine wp_region_E [(0, 0), (2, 0), (1, 2), (3, 2), (4, 3), (5, 3), (6, 4), (7, 4)] (fun _ => (24, #[.bool false, .slice none 0 0])) rfl (by kernel_rfl) (by intro j hj; simp [pend] at hj; rcases hj with rfl | rfl <;> exact ⟨_, rfl, rfl, rfl, fun w => by go_simp⟩) (fun _ _ d _ _ => by cases d <;> exact Iff.rfl) fun wd hb => ?_
  replace E := hid (E.out.trans hb)
  replace B1 := hid (B1.out.up hb)
  replace B2 := hid (B2.out.up hb)
  replace R := hid (R.out.up hb)
  replace R' := hid (R'.out.up hb)
  clear hb
  have HL1B1 := hid B1.out.lt
  have HL1B2 := hid B2.out.lt
  have HW1 := hid (show w.heap.size ≤ wd.heap.size from E.out.size)
  refine WE.pure (d := some 7) rfl rfl (by rfl) (v := (.agg #[.bool g, .slice A n c])) (fun w' hk => ?_) ?_
  · have c0 := hk.cell (B1.out.cell (o := 0) (v := .bool g) rfl); have c1 := hk.cell (B1.out.cell (o := 1) (v := .slice A n c) rfl); go_simp
  simp only [Act.put, pA, pB, pC]
  refine WE.pure (d := some 9) rfl rfl (by rfl) (v := (.agg #[.bool g', .slice A' n' c'])) (fun w' hk => ?_) ?_
  · have c0 := hk.cell (B2.out.cell (o := 0) (v := .bool g') rfl); have c1 := hk.cell (B2.out.cell (o := 1) (v := .slice A' n' c') rfl); go_simp
  simp only [Act.put, pA, pB, pC]
  refine WE.callR (d := some 8) rfl rfl (by rfl) (f := 57) (args := #[(.agg #[.bool g, .slice A n c])]) (fun w => by go_simp) (fun wx hx0 => ?_)
  replace E := hid (E.out.trans hx0)
  replace R := hid (R.out.up hx0)
  replace R' := hid (R'.out.up hx0)
  clear hx0
  refine (rMay_w R.out).mono ?_
  rintro e wn ⟨vx, rfl, hx, hb⟩
  obtain ⟨gg, A1, n1, c1, rfl, hs1, hr1⟩ := hx.form
  clear hx
  obtain rfl : gg = false := hs1.trans HA.out
  clear hs1
  refine ⟨_, rfl, hb, ?_⟩
  replace E := hid (E.out.trans hb)
  replace R' := hid (R'.out.up hb)
  have R1 := hid hr1
  clear hb hr1
  simp only [Act.put, pA, pB, pC]
  refine WE.callR (d := some 10) rfl rfl (by rfl) (f := 57) (args := #[(.agg #[.bool g', .slice A' n' c'])]) (fun w => by go_simp) (fun wx hx0 => ?_)
  replace E := hid (E.out.trans hx0)
  replace R' := hid (R'.out.up hx0)
  replace R1 := hid (R1.out.up hx0)
  clear hx0
  refine (rMay_w R'.out).mono ?_
  rintro e wn ⟨vx, rfl, hx, hb⟩
  obtain ⟨gg, A2, n2, c2, rfl, hs2, hr2⟩ := hx.form
  clear hx
  obtain rfl : gg = false := hs2.trans HB.out
  clear hs2
  refine ⟨_, rfl, hb, ?_⟩
  replace E := hid (E.out.trans hb)
  replace R1 := hid (R1.out.up hb)
  have R2 := hid hr2
  clear hb hr2
  simp only [Act.put, pA, pB, pC]
  refine WE.var (d := some 5) rfl fun gC1 wv hx0 hbox hge hng => ?_
  have HGC1 := hid (show w.heap.size ≤ gC1 by have := HW1.out; omega)
  replace E := hid (E.out.trans hx0)
  replace R1 := hid (R1.out.up hx0)
  replace R2 := hid (R2.out.up hx0)
  have C1 : Hid (Box wv gC1 #[.bool false, .slice none 0 0] 24) := hid hbox
  clear hx0 hbox hge hng
  simp only [Act.put, pA, pB, pC]
  refine WE.var (d := some 6) rfl fun gC2 wv hx0 hbox hge hng => ?_
  have HNC2C1 := hid (show gC2 ≠ gC1 by intro e; exact hng (by simp [e]))
  have HGC2 := hid (show w.heap.size ≤ gC2 by have := HW1.out; omega)
  replace E := hid (E.out.trans hx0)
  replace C1 := hid (C1.out.up hx0)
  replace R1 := hid (R1.out.up hx0)
  replace R2 := hid (R2.out.up hx0)
  have C2 : Hid (Box wv gC2 #[.bool false, .slice none 0 0] 24) := hid hbox
  clear hx0 hbox hge hng
  simp only [Act.put, pA, pB, pC]
  refine WE.store2 (g := gC1) (x := .bool false) (y := .slice A1 n1 c1) (t := 24) rfl rfl (by rfl) (fun w hb => ?_) C1.out (by rfl) fun ws hk hs => ?_
  · have c0 := hb.cell (o := 0) (v := .bool false) rfl; have f0 := hb.free 0; have c1 := hb.cell (o := 1) (v := .slice none 0 0) rfl; have f1 := hb.free 1; go_simp
  intro hbx
  replace E := hid (E.out.keptG hk HGC1.out)
  replace C1 := hid hbx
  replace C2 := hid (C2.out.kept hk (by simpa using HNC2C1.out))
  replace R1 := hid (R1.out.kz hs)
  replace R2 := hid (R2.out.kz hs)
  clear hk hs hbx
  refine WE.store2 (g := gC2) (x := .bool false) (y := .slice A2 n2 c2) (t := 24) rfl rfl (by rfl) (fun w hb => ?_) C2.out (by rfl) fun ws hk hs => ?_
  · have c0 := hb.cell (o := 0) (v := .bool false) rfl; have f0 := hb.free 0; have c1 := hb.cell (o := 1) (v := .slice none 0 0) rfl; have f1 := hb.free 1; go_simp
  intro hbx
  replace E := hid (E.out.keptG hk HGC2.out)
  replace C1 := hid (C1.out.kept hk (by simpa using HNC2C1.out.symm))
  replace C2 := hid hbx
  replace R1 := hid (R1.out.kz hs)
  replace R2 := hid (R2.out.kz hs)
  clear hk hs hbx
  refine WE.done ?_
  go_upto_region 2 with (fail)
  refine wp_region_T [(0, 0), (1, 0), (2, 0), (3, 0), (4, 0), (5, 0), (6, 0), (7, 0)] (by kernel_rfl) fun wd hb => ?_
  replace E := hid (E.out.trans hb)
  replace C1 := hid (C1.out.up hb)
  replace C2 := hid (C2.out.up hb)
  replace R1 := hid (R1.out.up hb)
  replace R2 := hid (R2.out.up hb)
  clear hb
  refine WE.pure (d := some 12) rfl rfl (by rfl) (v := (.pointer (some ⟨gC1, 0, none⟩))) (fun w' hk => ?_) ?_
  · go_simp
  simp only [Act.put, pA, pB, pC]
  refine WE.pure (d := some 13) rfl rfl (by rfl) (v := (.bool false)) (fun w' hk => ?_) ?_
  · have c0 := hk.cell (C1.out.cell (o := 0) (v := .bool false) rfl); go_simp
  simp only [Act.put, pA, pB, pC]
  refine WE.pure (d := some 14) rfl rfl (by rfl) (v := (.bool false)) (fun w' hk => ?_) ?_
  · go_simp
  simp only [Act.put, pA, pB, pC]
  refine WE.skip (d := some 15) rfl rfl (by rfl) ?_
  simp only [Act.put, pA, pB, pC]
  refine WE.skip (d := some 16) rfl rfl (by rfl) ?_
  simp only [Act.put, pA, pB, pC]
  refine WE.skip (d := some 17) rfl rfl (by rfl) ?_
  simp only [Act.put, pA, pB, pC]
  refine WE.pure (d := some 18) rfl rfl (by rfl) (v := (.bool false)) (fun w' hk => ?_) ?_
  · go_simp
  simp only [Act.put, pA, pB, pC]
  refine WE.pure (d := some 11) rfl rfl (by rfl) (v := (.bool false)) (fun w' hk => ?_) ?_
  · go_simp
  simp only [Act.put, pA, pB, pC]
  refine WE.done ?_
  go_upto_region 4 with (fail)
  refine wp_region_T [(0, 0), (1, 0), (2, 0), (3, 0), (4, 0), (5, 0), (6, 0), (7, 0)] (by kernel_rfl) fun wd hb => ?_
  replace E := hid (E.out.trans hb)
  replace C1 := hid (C1.out.up hb)
  replace C2 := hid (C2.out.up hb)
  replace R1 := hid (R1.out.up hb)
  replace R2 := hid (R2.out.up hb)
  clear hb
  refine WE.pure (d := some 20) rfl rfl (by rfl) (v := (.pointer (some ⟨gC1, 0, none⟩))) (fun w' hk => ?_) ?_
  · go_simp
  simp only [Act.put, pA, pB, pC]
  refine WE.pure (d := some 21) rfl rfl (by rfl) (v := (.bool false)) (fun w' hk => ?_) ?_
  · have c0 := hk.cell (C1.out.cell (o := 0) (v := .bool false) rfl); go_simp
  simp only [Act.put, pA, pB, pC]
  refine WE.pure (d := some 22) rfl rfl (by rfl) (v := (.bool true)) (fun w' hk => ?_) ?_
  · go_simp
  simp only [Act.put, pA, pB, pC]
  refine WE.pure (d := some 23) rfl rfl (by rfl) (v := (.bool true)) (fun w' hk => ?_) ?_
  · go_simp
  simp only [Act.put, pA, pB, pC]
  refine WE.pure (d := some 24) rfl rfl (by rfl) (v := (.pointer (some ⟨gC2, 0, none⟩))) (fun w' hk => ?_) ?_
  · go_simp
  simp only [Act.put, pA, pB, pC]
  refine WE.pure (d := some 25) rfl rfl (by rfl) (v := (.bool false)) (fun w' hk => ?_) ?_
  · have c0 := hk.cell (C2.out.cell (o := 0) (v := .bool false) rfl); go_simp
  simp only [Act.put, pA, pB, pC]
  refine WE.pure (d := some 26) rfl rfl (by rfl) (v := (.bool false)) (fun w' hk => ?_) ?_
  · go_simp
  simp only [Act.put, pA, pB, pC]
  refine WE.pure (d := some 19) rfl rfl (by rfl) (v := (.bool false)) (fun w' hk => ?_) ?_
  · go_simp
  simp only [Act.put, pA, pB, pC]
  refine WE.done ?_
  go_upto_region 6 with (fail)
  refine wp_region_T [(0, 0), (1, 0), (2, 0)] (by kernel_rfl) fun wd hb => ?_
  replace E := hid (E.out.trans hb)
  replace C1 := hid (C1.out.up hb)
  replace C2 := hid (C2.out.up hb)
  replace R1 := hid (R1.out.up hb)
  replace R2 := hid (R2.out.up hb)
  clear hb
  refine WE.pure (d := some 28) rfl rfl (by rfl) (v := (.pointer (some ⟨gC1, 0, none⟩))) (fun w' hk => ?_) ?_
  · go_simp
  simp only [Act.put, pA, pB, pC]
  refine WE.pure (d := some 29) rfl rfl (by rfl) (v := (.bool false)) (fun w' hk => ?_) ?_
  · have c0 := hk.cell (C1.out.cell (o := 0) (v := .bool false) rfl); go_simp
  simp only [Act.put, pA, pB, pC]
  refine WE.pure (d := some 27) rfl rfl (by rfl) (v := (.bool false)) (fun w' hk => ?_) ?_
  · go_simp
  simp only [Act.put, pA, pB, pC]
  refine WE.done ?_
  go_upto_region 8 with (fail)
  refine wp_region_T [(0, 0), (1, 0), (2, 0), (3, 0), (4, 1), (5, 0)] (by kernel_rfl) fun wd hb => ?_
  replace E := hid (E.out.trans hb)
  replace C1 := hid (C1.out.up hb)
  replace C2 := hid (C2.out.up hb)
  replace R1 := hid (R1.out.up hb)
  replace R2 := hid (R2.out.up hb)
  clear hb
  refine WE.pure (d := some 35) rfl rfl (by rfl) (v := (.pointer (some ⟨gC1, 1, none⟩))) (fun w' hk => ?_) ?_
  · go_simp
  simp only [Act.put, pA, pB, pC]
  refine WE.pure (d := some 36) rfl rfl (by rfl) (v := (.slice A1 n1 c1)) (fun w' hk => ?_) ?_
  · have c1 := hk.cell (C1.out.cell (o := 1) (v := .slice A1 n1 c1) rfl); go_simp
  simp only [Act.put, pA, pB, pC]
  refine WE.pure (d := some 37) rfl rfl (by rfl) (v := (.pointer (some ⟨gC2, 1, none⟩))) (fun w' hk => ?_) ?_
  · go_simp
  simp only [Act.put, pA, pB, pC]
  refine WE.pure (d := some 38) rfl rfl (by rfl) (v := (.slice A2 n2 c2)) (fun w' hk => ?_) ?_
  · have c1 := hk.cell (C2.out.cell (o := 1) (v := .slice A2 n2 c2) rfl); go_simp
  simp only [Act.put, pA, pB, pC]
  refine WE.call (d := some 39) rfl rfl (by rfl) (f := 81) (args := #[(.slice A1 n1 c1), (.slice A2 n2 c2)]) (by go_simp) ?_
  refine (rcmp_n R1.out R2.out HZ.out).mono ?_
  rintro e wn ⟨rfl, hb⟩
  refine ⟨_, rfl, hb, ?_⟩
  replace E := hid (E.out.trans hb)
  clear hb
  simp only [Act.put, pA, pB, pC]
  refine WE.pure (d := some 4) rfl rfl (by rfl) (v := (.int .i64 z)) (fun w' hk => ?_) ?_
  · go_simp
  simp only [Act.put, pA, pB, pC]
  refine WE.done ?_
  go_wp2
  go_ret
  exact ⟨rfl, E.out⟩

theorem M.zcmp_neg {a b : Int} (ha : a < 0) (hb : b < 0) : M.cmp b.natAbs a.natAbs = M.zcmp a b := by
  rcases (by omega : a < b ∨ b < a ∨ a = b) with h | h | h
  · rw [M.zcmp_lt h, M.cmp_lt (by omega)]
  · rw [M.zcmp_gt h, M.cmp_gt (by omega)]
  · subst h; rw [M.zcmp_same rfl, M.cmp_self]
theorem M.zcmp_pos {a b : Int} (ha : ¬ a < 0) (hb : ¬ b < 0) : M.cmp a.natAbs b.natAbs = M.zcmp a b := by
  rcases (by omega : a < b ∨ b < a ∨ a = b) with h | h | h
  · rw [M.zcmp_lt h, M.cmp_lt (by omega)]
  · rw [M.zcmp_gt h, M.cmp_gt (by omega)]
  · subst h; rw [M.zcmp_same rfl, M.cmp_self]
theorem rCmp_w {w : World} {u v : Value} {Z Y : Int} {j k : Nat} (hu : Worth w u Z j) (hv : Worth w v Y k) {z : Int} (hz : M.zcmp Z Y = z) : Calls Tryz.prog 59 #[u, v] w (fun e w' => e = .returned (.int .i64 z) ∧ Ext w w') := by
  subst hz
  by_cases ha : Z < 0 <;> by_cases hb : Y < 0
  · exact rCmp_tt hu hv (by simpa using ha) (by simpa using hb) (M.zcmp_neg ha hb)
  · rw [M.zcmp_lt (by omega)]; exact rCmp_tf (z := 0) hu hv (by simpa using ha) (by simpa using hb) trivial
  · rw [M.zcmp_gt (by omega)]; exact rCmp_ft (z := 0) hu hv (by simpa using ha) (by simpa using hb) trivial
  · exact rCmp_ff hu hv (by simpa using ha) (by simpa using hb) (M.zcmp_pos ha hb)

end Go.Proofs.YtkjfeedclaedfaaGreat
