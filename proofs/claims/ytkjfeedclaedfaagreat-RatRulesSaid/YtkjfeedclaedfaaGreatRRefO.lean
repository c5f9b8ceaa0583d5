/-
  Contract of the reference's fraction of two integers.
-/
import Derived.Test.YtkjfeedclaedfaaGreatRWords
import Derived.Test.YtkjfeedclaedfaaGreatGRef
import Derived.Test.YtkjfeedclaedfaaGreatRZD
namespace Go.Proofs.YtkjfeedclaedfaaGreat
open Go.RowKit
set_option linter.unusedSimpArgs false
set_option linter.unusedVariables false

theorem M.frac_posc {p q : Int} (hq : 0 < q) : (Rat.divInt p q).num = p.fdiv ((Int.gcd p q : Nat) : Int) ∧ ((Rat.divInt p q).den : Int) = q.fdiv ((Int.gcd p q : Nat) : Int) := by
  rw [Int.gcd_comm]; exact M.frac_pos hq
theorem M.frac_negc {p q : Int} (hq : q < 0) : (Rat.divInt p q).num = p.fdiv (-((Int.gcd p q : Nat) : Int)) ∧ ((Rat.divInt p q).den : Int) = q.fdiv (-((Int.gcd p q : Nat) : Int)) := by
  rw [Int.gcd_comm]; exact M.frac_neg hq

set_option maxHeartbeats 2000000 in
theorem rOfR_zero {w : World} {u v : Value} {Z Y : Int} {j : Nat} (h1 : Worth w u Z j) (h2 : Worth w v Y j) (hj : j ≤ 900) (hy : Y = 0) :
    Calls Tryz.prog 16 #[u, v] w (GivesR w (Rat.divInt Z Y) (max j 1 + 1)) := by
  obtain ⟨g1, A1, n1, c1, rfl⟩ := h1.shape
  obtain ⟨g2, A2, n2, c2, rfl⟩ := h2.shape
  have R2 := hid h2
  have HY := hid hy
  clear h1 h2 hj hy
  go_enter Tryz.func16, Tryz.ntmps16
  go_upto_region 1 with (fail)
  have E := hid ((((Ext.refl w).alloc' (.cells #[.bool g1, .slice A1 n1 c1] 24)).alloc' (.cells #[.bool g2, .slice A2 n2 c2] 24)).alloc' (.cells #[.bool false, .slice none 0 0, .slice none 0 0] 26))
  have BX1 : Hid (Box (((w.alloc (.cells #[.bool g1, .slice A1 n1 c1] 24)).alloc (.cells #[.bool g2, .slice A2 n2 c2] 24)).alloc (.cells #[.bool false, .slice none 0 0, .slice none 0 0] 26)) (w.heap.size + 1) #[.bool g2, .slice A2 n2 c2] 24) := hid ((Box.at_ (w := (w.alloc (.cells #[.bool g1, .slice A1 n1 c1] 24))) #[.bool g2, .slice A2 n2 c2] 24 (by simp)).alloc (.cells #[.bool false, .slice none 0 0, .slice none 0 0] 26))
  have BX2 : Hid (Box (((w.alloc (.cells #[.bool g1, .slice A1 n1 c1] 24)).alloc (.cells #[.bool g2, .slice A2 n2 c2] 24)).alloc (.cells #[.bool false, .slice none 0 0, .slice none 0 0] 26)) (w.heap.size + 2) #[.bool false, .slice none 0 0, .slice none 0 0] 26) := hid (Box.at_ (w := ((w.alloc (.cells #[.bool g1, .slice A1 n1 c1] 24)).alloc (.cells #[.bool g2, .slice A2 n2 c2] 24))) #[.bool false, .slice none 0 0, .slice none 0 0] 26 (by simp))
  replace R2 := hid (R2.out.up E.out)
  refine wp_region_T [(0, 0), (1, 1), (2, 0)] (by kernel_rfl) fun wd hb => ?_
  replace E := hid (E.out.trans hb)
  replace BX1 := hid (BX1.out.up hb)
  replace BX2 := hid (BX2.out.up hb)
  replace R2 := hid (R2.out.up hb)
  clear hb
  have EY := hid (Ext.refl wd)
  refine WE.pure (d := some 10) rfl rfl (by rfl) (v := (.agg #[.bool g2, .slice A2 n2 c2])) (fun w' hk => ?_) ?_
  · obtain ⟨ce0, ce1⟩ := ((BX1.out.up EY.out).up hk).c2; go_simp
  simp only [Act.put, pA, pB, pC]
  refine WE.call (d := some 11) rfl rfl (by rfl) (by go_simp) ((rSign_w (R2.out.up EY.out) (s := 0) (by rw [HY.out]; rfl)).mono ?_)
  rintro e wn ⟨rfl, hb⟩
  refine ⟨_, rfl, hb, ?_⟩
  replace EY := hid (EY.out.trans hb)
  clear hb
  simp only [Act.put, pA, pB, pC]
  refine WE.pure (d := some 12) rfl rfl (by rfl) (v := (.bool true)) (fun w' hk => by go_simp) ?_
  simp only [Act.put, pA, pB, pC]
  refine WE.done ?_
  go_upto_region 2 with (fail)
  refine wp_region_T [(0, 1), (1, 0), (2, 4)] (by kernel_rfl) fun wd hb => ?_
  replace EY := hid (EY.out.trans hb)
  clear hb
  refine WE.new (d := some 13) (cs := #[.int .u32 1]) (t := 32) (v := fun g => (.slice (some ⟨g, 0, none⟩) 1 1)) rfl rfl (by rfl) (fun w => by go_simp) fun gVL wv hx0 hbox hge => ?_
  have HNVLBX2 := hid (show gVL ≠ (w.heap.size + 2) by have := (BX2.out.up EY.out).lt; omega)
  replace EY := hid (EY.out.trans hx0)
  have VL : Hid (Box wv gVL #[.int .u32 1] 32) := hid hbox
  clear hx0 hbox hge
  simp only [Act.put, pA, pB, pC]
  refine WE.pure (d := some 14) rfl rfl (by rfl) (v := (.agg #[.bool false, .slice none 0 0, .slice (some ⟨gVL, 0, none⟩) 1 1])) (fun w' hk => by go_simp) ?_
  simp only [Act.put, pA, pB, pC]
  refine WE.store3 (g := (w.heap.size + 2)) (x := .bool false) (y := .slice none 0 0) (z := .slice (some ⟨gVL, 0, none⟩) 1 1) (t := 26) rfl rfl (by rfl) (fun w hb => ?_) (BX2.out.up EY.out) (by rfl) fun ws hk hs => ?_
  · obtain ⟨ce0, ce1, ce2⟩ := hb.c3; obtain ⟨f0, f1, f2⟩ := hb.f3; go_simp
  intro hbx
  replace E := hid ((E.out.trans EY.out).keptG hk (by simp))
  replace BX2 := hid hbx
  replace VL := hid (VL.out.kept hk (by simpa using HNVLBX2.out))
  clear hk hs hbx
  replace EY := hid (Ext.refl ws)
  refine WE.done ?_
  have r0 := (BX2.out.up EY.out).cell (o := 0) (v := .bool false) rfl
  have r1 := (BX2.out.up EY.out).cell (o := 1) (v := .slice none 0 0) rfl
  have r2 := (BX2.out.up EY.out).cell (o := 2) (v := .slice (some ⟨gVL, 0, none⟩) 1 1) rfl
  repeat go_step
  exact bodyPost_ret (v := .agg #[.bool false, .slice none 0 0, .slice (some ⟨gVL, 0, none⟩) 1 1]) (by simp [results, Tryz.results16, go_sem, r0, r1, r2]) rfl ⟨_, rfl, (IsR.mk (x := 0) (IsZ.nought.wide (Nat.zero_le _)) ((IsZ.mk (Z := 1) rfl (VL.out.up EY.out).row1).wide (by omega))).to (M.frac_none HY.out).symm, (E.out.trans EY.out)⟩

set_option maxHeartbeats 2000000 in
theorem rOfR_neg {w : World} {u v : Value} {Z Y : Int} {j : Nat} (h1 : Worth w u Z j) (h2 : Worth w v Y j) (hj : j ≤ 900) (hy : Y < 0) :
    Calls Tryz.prog 16 #[u, v] w (GivesR w (Rat.divInt Z Y) (max j 1 + 1)) := by
  obtain ⟨g1, A1, n1, c1, rfl⟩ := h1.shape
  have R1 := hid h1
  obtain ⟨g2, A2, n2, c2, rfl⟩ := h2.shape
  have R2 := hid h2
  have HJ := hid hj
  have HY := hid hy
  clear h1 h2 hj hy
  go_enter Tryz.func16, Tryz.ntmps16
  go_upto_region 1 with (fail)
  have E := hid ((((Ext.refl w).alloc' (.cells #[.bool g1, .slice A1 n1 c1] 24)).alloc' (.cells #[.bool g2, .slice A2 n2 c2] 24)).alloc' (.cells #[.bool false, .slice none 0 0, .slice none 0 0] 26))
  have BX0 : Hid (Box (((w.alloc (.cells #[.bool g1, .slice A1 n1 c1] 24)).alloc (.cells #[.bool g2, .slice A2 n2 c2] 24)).alloc (.cells #[.bool false, .slice none 0 0, .slice none 0 0] 26)) (w.heap.size) #[.bool g1, .slice A1 n1 c1] 24) := hid (((Box.at_ (w := w) #[.bool g1, .slice A1 n1 c1] 24 (by simp)).alloc (.cells #[.bool g2, .slice A2 n2 c2] 24)).alloc (.cells #[.bool false, .slice none 0 0, .slice none 0 0] 26))
  have BX1 : Hid (Box (((w.alloc (.cells #[.bool g1, .slice A1 n1 c1] 24)).alloc (.cells #[.bool g2, .slice A2 n2 c2] 24)).alloc (.cells #[.bool false, .slice none 0 0, .slice none 0 0] 26)) (w.heap.size + 1) #[.bool g2, .slice A2 n2 c2] 24) := hid ((Box.at_ (w := (w.alloc (.cells #[.bool g1, .slice A1 n1 c1] 24))) #[.bool g2, .slice A2 n2 c2] 24 (by simp)).alloc (.cells #[.bool false, .slice none 0 0, .slice none 0 0] 26))
  have BX2 : Hid (Box (((w.alloc (.cells #[.bool g1, .slice A1 n1 c1] 24)).alloc (.cells #[.bool g2, .slice A2 n2 c2] 24)).alloc (.cells #[.bool false, .slice none 0 0, .slice none 0 0] 26)) (w.heap.size + 2) #[.bool false, .slice none 0 0, .slice none 0 0] 26) := hid (Box.at_ (w := ((w.alloc (.cells #[.bool g1, .slice A1 n1 c1] 24)).alloc (.cells #[.bool g2, .slice A2 n2 c2] 24))) #[.bool false, .slice none 0 0, .slice none 0 0] 26 (by simp))
  replace R1 := hid (R1.out.up E.out)
  replace R2 := hid (R2.out.up E.out)
  refine wp_region_T [(0, 0), (1, 1), (2, 0)] (by kernel_rfl) fun wd hb => ?_
  replace E := hid (E.out.trans hb)
  replace BX0 := hid (BX0.out.up hb)
  replace BX1 := hid (BX1.out.up hb)
  replace BX2 := hid (BX2.out.up hb)
  replace R1 := hid (R1.out.up hb)
  replace R2 := hid (R2.out.up hb)
  clear hb
  have EY := hid (Ext.refl wd)
  refine WE.pure (d := some 10) rfl rfl (by rfl) (v := (.agg #[.bool g2, .slice A2 n2 c2])) (fun w' hk => ?_) ?_
  · obtain ⟨ce0, ce1⟩ := ((BX1.out.up EY.out).up hk).c2; go_simp
  simp only [Act.put, pA, pB, pC]
  refine WE.call (d := some 11) rfl rfl (by rfl) (by go_simp) ((rSign_w (R2.out.up EY.out) (s := (-1)) (Int.sign_eq_neg_one_of_neg HY.out)).mono ?_)
  rintro e wn ⟨rfl, hb⟩
  refine ⟨_, rfl, hb, ?_⟩
  replace EY := hid (EY.out.trans hb)
  clear hb
  simp only [Act.put, pA, pB, pC]
  refine WE.pure (d := some 12) rfl rfl (by rfl) (v := (.bool false)) (fun w' hk => by go_simp) ?_
  simp only [Act.put, pA, pB, pC]
  refine WE.done ?_
  go_upto_region 3 with (fail)
  refine wp_region_T [(0, 0), (1, 0), (2, 1), (3, 1), (4, 4)] (by kernel_rfl) fun wd hb => ?_
  replace EY := hid (EY.out.trans hb)
  clear hb
  refine WE.pure (d := some 15) rfl rfl (by rfl) (v := (.agg #[.bool g1, .slice A1 n1 c1])) (fun w' hk => ?_) ?_
  · obtain ⟨ce0, ce1⟩ := ((BX0.out.up EY.out).up hk).c2; go_simp
  simp only [Act.put, pA, pB, pC]
  refine WE.pure (d := some 16) rfl rfl (by rfl) (v := (.agg #[.bool g2, .slice A2 n2 c2])) (fun w' hk => ?_) ?_
  · obtain ⟨ce0, ce1⟩ := ((BX1.out.up EY.out).up hk).c2; go_simp
  simp only [Act.put, pA, pB, pC]
  refine WE.call (d := some 17) rfl rfl (by rfl) (by go_simp) ((rGcd_w (Worth.wide (R1.out.up EY.out) (k := j) (by have := HJ.out; omega)) (Worth.wide (R2.out.up EY.out) (k := j) (by have := HJ.out; omega)) (by have := HJ.out; omega)).mono ?_)
  rintro e wn ⟨v1, rfl, x1, hb⟩
  obtain ⟨g11, A11, n11, c11, rfl⟩ := x1.shape
  refine ⟨_, rfl, hb, ?_⟩
  replace EY := hid (EY.out.trans hb)
  have Q11 := hid x1
  clear hb x1
  simp only [Act.put, pA, pB, pC]
  refine WE.new (d := some 5) (cs := #[.bool false, .slice none 0 0]) (t := 24) (v := fun g => (.pointer (some ⟨g, 0, none⟩))) rfl rfl (by rfl) (fun w => by go_simp) fun gV5 wv hx0 hbox hge => ?_
  have HNV5BX0 := hid (show gV5 ≠ (w.heap.size) by have := (BX0.out.up EY.out).lt; omega)
  have HNV5BX1 := hid (show gV5 ≠ (w.heap.size + 1) by have := (BX1.out.up EY.out).lt; omega)
  have HNV5BX2 := hid (show gV5 ≠ (w.heap.size + 2) by have := (BX2.out.up EY.out).lt; omega)
  have HGV5 := hid (show w.heap.size ≤ gV5 by have := (E.out.trans EY.out).size; omega)
  replace EY := hid (EY.out.trans hx0)
  replace Q11 := hid (Q11.out.up hx0)
  have V5 : Hid (Box wv gV5 #[.bool false, .slice none 0 0] 24) := hid hbox
  clear hx0 hbox hge
  simp only [Act.put, pA, pB, pC]
  refine WE.store2 (g := gV5) (x := .bool g11) (y := .slice A11 n11 c11) (t := 24) rfl rfl (by rfl) (fun w hb => ?_) V5.out (by rfl) fun ws hk hs => ?_
  · obtain ⟨ce0, ce1⟩ := hb.c2; obtain ⟨f0, f1⟩ := hb.f2; go_simp
  intro hbx
  replace E := hid ((E.out.trans EY.out).keptG hk HGV5.out)
  replace BX0 := hid ((BX0.out.up EY.out).kept hk (by simpa using HNV5BX0.out.symm))
  replace BX1 := hid ((BX1.out.up EY.out).kept hk (by simpa using HNV5BX1.out.symm))
  replace BX2 := hid ((BX2.out.up EY.out).kept hk (by simpa using HNV5BX2.out.symm))
  replace V5 := hid hbx
  replace R1 := hid ((R1.out.up EY.out).kz hs)
  replace R2 := hid ((R2.out.up EY.out).kz hs)
  replace Q11 := hid (Q11.out.kz hs)
  clear hk hs hbx
  replace EY := hid (Ext.refl ws)
  refine WE.done ?_
  go_upto_region 4 with (fail)
  refine wp_region_T [(0, 0), (1, 1), (2, 0)] (by kernel_rfl) fun wd hb => ?_
  replace EY := hid (EY.out.trans hb)
  clear hb
  refine WE.pure (d := some 18) rfl rfl (by rfl) (v := (.agg #[.bool g2, .slice A2 n2 c2])) (fun w' hk => ?_) ?_
  · obtain ⟨ce0, ce1⟩ := ((BX1.out.up EY.out).up hk).c2; go_simp
  simp only [Act.put, pA, pB, pC]
  refine WE.call (d := some 19) rfl rfl (by rfl) (by go_simp) ((rSign_w (R2.out.up EY.out) (s := (-1)) (Int.sign_eq_neg_one_of_neg HY.out)).mono ?_)
  rintro e wn ⟨rfl, hb⟩
  refine ⟨_, rfl, hb, ?_⟩
  replace EY := hid (EY.out.trans hb)
  clear hb
  simp only [Act.put, pA, pB, pC]
  refine WE.pure (d := some 20) rfl rfl (by rfl) (v := (.bool true)) (fun w' hk => by go_simp) ?_
  simp only [Act.put, pA, pB, pC]
  refine WE.done ?_
  go_upto_region 5 with (fail)
  refine wp_region_T [(0, 0), (1, 1), (2, 4)] (by kernel_rfl) fun wd hb => ?_
  replace EY := hid (EY.out.trans hb)
  clear hb
  refine WE.pure (d := some 21) rfl rfl (by rfl) (v := (.agg #[.bool g11, .slice A11 n11 c11])) (fun w' hk => ?_) ?_
  · obtain ⟨ce0, ce1⟩ := ((V5.out.up EY.out).up hk).c2; go_simp
  simp only [Act.put, pA, pB, pC]
  refine WE.call (d := some 22) rfl rfl (by rfl) (by go_simp) ((rNeg_w (Q11.out.up EY.out).worth).mono ?_)
  rintro e wn ⟨v1, rfl, x1, hb⟩
  obtain ⟨g12, A12, n12, c12, rfl⟩ := x1.shape
  refine ⟨_, rfl, hb, ?_⟩
  replace EY := hid (EY.out.trans hb)
  have Q12 := hid x1
  clear hb x1
  simp only [Act.put, pA, pB, pC]
  refine WE.store2 (g := gV5) (x := .bool g12) (y := .slice A12 n12 c12) (t := 24) rfl rfl (by rfl) (fun w hb => ?_) (V5.out.up EY.out) (by rfl) fun ws hk hs => ?_
  · obtain ⟨ce0, ce1⟩ := hb.c2; obtain ⟨f0, f1⟩ := hb.f2; go_simp
  intro hbx
  replace E := hid ((E.out.trans EY.out).keptG hk HGV5.out)
  replace BX0 := hid ((BX0.out.up EY.out).kept hk (by simpa using HNV5BX0.out.symm))
  replace BX1 := hid ((BX1.out.up EY.out).kept hk (by simpa using HNV5BX1.out.symm))
  replace BX2 := hid ((BX2.out.up EY.out).kept hk (by simpa using HNV5BX2.out.symm))
  replace V5 := hid hbx
  replace R1 := hid ((R1.out.up EY.out).kz hs)
  replace R2 := hid ((R2.out.up EY.out).kz hs)
  replace Q12 := hid (Q12.out.kz hs)
  clear hk hs hbx
  replace EY := hid (Ext.refl ws)
  refine WE.done ?_
  go_upto_region 6 with (fail)
  refine wp_region_T [(0, 0), (1, 0), (2, 1), (3, 0), (4, 0), (5, 0), (6, 1), (7, 1), (8, 4), (9, 4)] (by kernel_rfl) fun wd hb => ?_
  replace EY := hid (EY.out.trans hb)
  clear hb
  refine WE.pure (d := some 24) rfl rfl (by rfl) (v := (.agg #[.bool g1, .slice A1 n1 c1])) (fun w' hk => ?_) ?_
  · obtain ⟨ce0, ce1⟩ := ((BX0.out.up EY.out).up hk).c2; go_simp
  simp only [Act.put, pA, pB, pC]
  refine WE.pure (d := some 25) rfl rfl (by rfl) (v := (.agg #[.bool g12, .slice A12 n12 c12])) (fun w' hk => ?_) ?_
  · obtain ⟨ce0, ce1⟩ := ((V5.out.up EY.out).up hk).c2; go_simp
  simp only [Act.put, pA, pB, pC]
  refine WE.call (d := some 26) rfl rfl (by rfl) (by go_simp) ((rFloor_w (R1.out.up EY.out) (Q12.out.up EY.out).worth (by have := HJ.out; omega) (by have := HJ.out; omega)).mono ?_)
  rintro e wn ⟨v1, v2, rfl, x1, x2, hb⟩
  obtain ⟨g13, A13, n13, c13, rfl⟩ := x1.shape
  obtain ⟨g14, A14, n14, c14, rfl⟩ := x2.shape
  replace x1 := x1.to ((M.frac_negc HY.out).1.symm)
  refine ⟨_, rfl, hb, ?_⟩
  replace EY := hid (EY.out.trans hb)
  have Q13 := hid x1
  clear hb x1 x2
  simp only [Act.put, pA, pB, pC]
  refine WE.pure (d := some 23) rfl rfl (by rfl) (v := (.tuple #[(.agg #[.bool g13, .slice A13 n13 c13]), (.agg #[.bool g14, .slice A14 n14 c14])])) (fun w' hk => by go_simp) ?_
  simp only [Act.put, pA, pB, pC]
  refine WE.pure (d := some 27) rfl rfl (by rfl) (v := (.agg #[.bool g13, .slice A13 n13 c13])) (fun w' hk => by go_simp) ?_
  simp only [Act.put, pA, pB, pC]
  refine WE.pure (d := some 28) rfl rfl (by rfl) (v := (.agg #[.bool g14, .slice A14 n14 c14])) (fun w' hk => by go_simp) ?_
  simp only [Act.put, pA, pB, pC]
  refine WE.new (d := some 6) (cs := #[.bool false, .slice none 0 0]) (t := 24) (v := fun g => (.pointer (some ⟨g, 0, none⟩))) rfl rfl (by rfl) (fun w => by go_simp) fun gV6 wv hx0 hbox hge => ?_
  have HNV6BX1 := hid (show gV6 ≠ (w.heap.size + 1) by have := (BX1.out.up EY.out).lt; omega)
  have HNV6BX2 := hid (show gV6 ≠ (w.heap.size + 2) by have := (BX2.out.up EY.out).lt; omega)
  have HNV6V5 := hid (show gV6 ≠ gV5 by have := (V5.out.up EY.out).lt; omega)
  have HGV6 := hid (show w.heap.size ≤ gV6 by have := (E.out.trans EY.out).size; omega)
  replace EY := hid (EY.out.trans hx0)
  replace Q13 := hid (Q13.out.up hx0)
  have V6 : Hid (Box wv gV6 #[.bool false, .slice none 0 0] 24) := hid hbox
  clear hx0 hbox hge
  simp only [Act.put, pA, pB, pC]
  refine WE.new (d := some 7) (cs := #[.bool false, .slice none 0 0]) (t := 24) (v := fun g => (.pointer (some ⟨g, 0, none⟩))) rfl rfl (by rfl) (fun w => by go_simp) fun gV7 wv hx0 hbox hge => ?_
  have HNV7BX1 := hid (show gV7 ≠ (w.heap.size + 1) by have := (BX1.out.up EY.out).lt; omega)
  have HNV7BX2 := hid (show gV7 ≠ (w.heap.size + 2) by have := (BX2.out.up EY.out).lt; omega)
  have HNV7V5 := hid (show gV7 ≠ gV5 by have := (V5.out.up EY.out).lt; omega)
  have HNV7V6 := hid (show gV7 ≠ gV6 by have := V6.out.lt; omega)
  have HGV7 := hid (show w.heap.size ≤ gV7 by have := (E.out.trans EY.out).size; omega)
  replace EY := hid (EY.out.trans hx0)
  replace V6 := hid (V6.out.up hx0)
  replace Q13 := hid (Q13.out.up hx0)
  have V7 : Hid (Box wv gV7 #[.bool false, .slice none 0 0] 24) := hid hbox
  clear hx0 hbox hge
  simp only [Act.put, pA, pB, pC]
  refine WE.store2 (g := gV6) (x := .bool g13) (y := .slice A13 n13 c13) (t := 24) rfl rfl (by rfl) (fun w hb => ?_) V6.out (by rfl) fun ws hk hs => ?_
  · obtain ⟨ce0, ce1⟩ := hb.c2; obtain ⟨f0, f1⟩ := hb.f2; go_simp
  intro hbx
  replace E := hid ((E.out.trans EY.out).keptG hk HGV6.out)
  replace BX1 := hid ((BX1.out.up EY.out).kept hk (by simpa using HNV6BX1.out.symm))
  replace BX2 := hid ((BX2.out.up EY.out).kept hk (by simpa using HNV6BX2.out.symm))
  replace V5 := hid ((V5.out.up EY.out).kept hk (by simpa using HNV6V5.out.symm))
  replace V6 := hid hbx
  replace V7 := hid (V7.out.kept hk (by simpa using HNV7V6.out))
  replace R2 := hid ((R2.out.up EY.out).kz hs)
  replace Q12 := hid ((Q12.out.up EY.out).kz hs)
  replace Q13 := hid (Q13.out.kz hs)
  clear hk hs hbx
  replace EY := hid (Ext.refl ws)
  refine WE.store2 (g := gV7) (x := .bool g14) (y := .slice A14 n14 c14) (t := 24) rfl rfl (by rfl) (fun w hb => ?_) (V7.out.up EY.out) (by rfl) fun ws hk hs => ?_
  · obtain ⟨ce0, ce1⟩ := hb.c2; obtain ⟨f0, f1⟩ := hb.f2; go_simp
  intro hbx
  replace E := hid ((E.out.trans EY.out).keptG hk HGV7.out)
  replace BX1 := hid ((BX1.out.up EY.out).kept hk (by simpa using HNV7BX1.out.symm))
  replace BX2 := hid ((BX2.out.up EY.out).kept hk (by simpa using HNV7BX2.out.symm))
  replace V5 := hid ((V5.out.up EY.out).kept hk (by simpa using HNV7V5.out.symm))
  replace V6 := hid ((V6.out.up EY.out).kept hk (by simpa using HNV7V6.out.symm))
  replace R2 := hid ((R2.out.up EY.out).kz hs)
  replace Q12 := hid ((Q12.out.up EY.out).kz hs)
  replace Q13 := hid ((Q13.out.up EY.out).kz hs)
  clear hk hs hbx
  replace EY := hid (Ext.refl ws)
  refine WE.done ?_
  go_upto_region 7 with (fail)
  refine wp_region_T [(0, 0), (1, 0), (2, 1), (3, 0), (4, 0), (5, 0), (6, 1), (7, 1), (8, 4), (9, 4)] (by kernel_rfl) fun wd hb => ?_
  replace EY := hid (EY.out.trans hb)
  clear hb
  refine WE.pure (d := some 30) rfl rfl (by rfl) (v := (.agg #[.bool g2, .slice A2 n2 c2])) (fun w' hk => ?_) ?_
  · obtain ⟨ce0, ce1⟩ := ((BX1.out.up EY.out).up hk).c2; go_simp
  simp only [Act.put, pA, pB, pC]
  refine WE.pure (d := some 31) rfl rfl (by rfl) (v := (.agg #[.bool g12, .slice A12 n12 c12])) (fun w' hk => ?_) ?_
  · obtain ⟨ce0, ce1⟩ := ((V5.out.up EY.out).up hk).c2; go_simp
  simp only [Act.put, pA, pB, pC]
  refine WE.call (d := some 32) rfl rfl (by rfl) (by go_simp) ((rFloor_w (R2.out.up EY.out) (Q12.out.up EY.out).worth (by have := HJ.out; omega) (by have := HJ.out; omega)).mono ?_)
  rintro e wn ⟨v1, v2, rfl, x1, x2, hb⟩
  obtain ⟨g15, A15, n15, c15, rfl⟩ := x1.shape
  obtain ⟨g16, A16, n16, c16, rfl⟩ := x2.shape
  replace x1 := x1.to ((M.frac_negc (p := Z) HY.out).2.symm)
  obtain rfl := x1.nat_side
  refine ⟨_, rfl, hb, ?_⟩
  replace EY := hid (EY.out.trans hb)
  have Q15 := hid x1
  clear hb x1 x2
  simp only [Act.put, pA, pB, pC]
  refine WE.pure (d := some 29) rfl rfl (by rfl) (v := (.tuple #[(.agg #[.bool false, .slice A15 n15 c15]), (.agg #[.bool g16, .slice A16 n16 c16])])) (fun w' hk => by go_simp) ?_
  simp only [Act.put, pA, pB, pC]
  refine WE.pure (d := some 33) rfl rfl (by rfl) (v := (.agg #[.bool false, .slice A15 n15 c15])) (fun w' hk => by go_simp) ?_
  simp only [Act.put, pA, pB, pC]
  refine WE.pure (d := some 34) rfl rfl (by rfl) (v := (.agg #[.bool g16, .slice A16 n16 c16])) (fun w' hk => by go_simp) ?_
  simp only [Act.put, pA, pB, pC]
  refine WE.new (d := some 8) (cs := #[.bool false, .slice none 0 0]) (t := 24) (v := fun g => (.pointer (some ⟨g, 0, none⟩))) rfl rfl (by rfl) (fun w => by go_simp) fun gV8 wv hx0 hbox hge => ?_
  have HNV8BX2 := hid (show gV8 ≠ (w.heap.size + 2) by have := (BX2.out.up EY.out).lt; omega)
  have HNV8V6 := hid (show gV8 ≠ gV6 by have := (V6.out.up EY.out).lt; omega)
  have HGV8 := hid (show w.heap.size ≤ gV8 by have := (E.out.trans EY.out).size; omega)
  replace EY := hid (EY.out.trans hx0)
  replace Q15 := hid (Q15.out.up hx0)
  have V8 : Hid (Box wv gV8 #[.bool false, .slice none 0 0] 24) := hid hbox
  clear hx0 hbox hge
  simp only [Act.put, pA, pB, pC]
  refine WE.new (d := some 9) (cs := #[.bool false, .slice none 0 0]) (t := 24) (v := fun g => (.pointer (some ⟨g, 0, none⟩))) rfl rfl (by rfl) (fun w => by go_simp) fun gV9 wv hx0 hbox hge => ?_
  have HNV9BX2 := hid (show gV9 ≠ (w.heap.size + 2) by have := (BX2.out.up EY.out).lt; omega)
  have HNV9V6 := hid (show gV9 ≠ gV6 by have := (V6.out.up EY.out).lt; omega)
  have HNV9V8 := hid (show gV9 ≠ gV8 by have := V8.out.lt; omega)
  have HGV9 := hid (show w.heap.size ≤ gV9 by have := (E.out.trans EY.out).size; omega)
  replace EY := hid (EY.out.trans hx0)
  replace V8 := hid (V8.out.up hx0)
  replace Q15 := hid (Q15.out.up hx0)
  have V9 : Hid (Box wv gV9 #[.bool false, .slice none 0 0] 24) := hid hbox
  clear hx0 hbox hge
  simp only [Act.put, pA, pB, pC]
  refine WE.store2 (g := gV8) (x := .bool false) (y := .slice A15 n15 c15) (t := 24) rfl rfl (by rfl) (fun w hb => ?_) V8.out (by rfl) fun ws hk hs => ?_
  · obtain ⟨ce0, ce1⟩ := hb.c2; obtain ⟨f0, f1⟩ := hb.f2; go_simp
  intro hbx
  replace E := hid ((E.out.trans EY.out).keptG hk HGV8.out)
  replace BX2 := hid ((BX2.out.up EY.out).kept hk (by simpa using HNV8BX2.out.symm))
  replace V6 := hid ((V6.out.up EY.out).kept hk (by simpa using HNV8V6.out.symm))
  replace V8 := hid hbx
  replace V9 := hid (V9.out.kept hk (by simpa using HNV9V8.out))
  replace Q13 := hid ((Q13.out.up EY.out).kz hs)
  replace Q15 := hid (Q15.out.kz hs)
  clear hk hs hbx
  replace EY := hid (Ext.refl ws)
  refine WE.store2 (g := gV9) (x := .bool g16) (y := .slice A16 n16 c16) (t := 24) rfl rfl (by rfl) (fun w hb => ?_) (V9.out.up EY.out) (by rfl) fun ws hk hs => ?_
  · obtain ⟨ce0, ce1⟩ := hb.c2; obtain ⟨f0, f1⟩ := hb.f2; go_simp
  intro hbx
  replace E := hid ((E.out.trans EY.out).keptG hk HGV9.out)
  replace BX2 := hid ((BX2.out.up EY.out).kept hk (by simpa using HNV9BX2.out.symm))
  replace V6 := hid ((V6.out.up EY.out).kept hk (by simpa using HNV9V6.out.symm))
  replace V8 := hid ((V8.out.up EY.out).kept hk (by simpa using HNV9V8.out.symm))
  replace Q13 := hid ((Q13.out.up EY.out).kz hs)
  replace Q15 := hid ((Q15.out.up EY.out).kz hs)
  clear hk hs hbx
  replace EY := hid (Ext.refl ws)
  refine WE.done ?_
  go_upto_region 8 with (fail)
  refine wp_region_T [(0, 0), (1, 0), (2, 0), (3, 0), (4, 4)] (by kernel_rfl) fun wd hb => ?_
  replace EY := hid (EY.out.trans hb)
  clear hb
  refine WE.pure (d := some 35) rfl rfl (by rfl) (v := (.agg #[.bool g13, .slice A13 n13 c13])) (fun w' hk => ?_) ?_
  · obtain ⟨ce0, ce1⟩ := ((V6.out.up EY.out).up hk).c2; go_simp
  simp only [Act.put, pA, pB, pC]
  refine WE.pure (d := some 36) rfl rfl (by rfl) (v := (.pointer (some ⟨gV8, 1, none⟩))) (fun w' hk => by go_simp) ?_
  simp only [Act.put, pA, pB, pC]
  refine WE.pure (d := some 37) rfl rfl (by rfl) (v := (.slice A15 n15 c15)) (fun w' hk => ?_) ?_
  · have ce1 := hk.cell ((V8.out.up EY.out).cell (o := 1) (v := .slice A15 n15 c15) rfl); go_simp
  simp only [Act.put, pA, pB, pC]
  refine WE.pure (d := some 38) rfl rfl (by rfl) (v := (.agg #[.bool g13, .slice A13 n13 c13, .slice A15 n15 c15])) (fun w' hk => by go_simp) ?_
  simp only [Act.put, pA, pB, pC]
  refine WE.store3 (g := (w.heap.size + 2)) (x := .bool g13) (y := .slice A13 n13 c13) (z := .slice A15 n15 c15) (t := 26) rfl rfl (by rfl) (fun w hb => ?_) (BX2.out.up EY.out) (by rfl) fun ws hk hs => ?_
  · obtain ⟨ce0, ce1, ce2⟩ := hb.c3; obtain ⟨f0, f1, f2⟩ := hb.f3; go_simp
  intro hbx
  replace E := hid ((E.out.trans EY.out).keptG hk (by simp))
  replace BX2 := hid hbx
  replace Q13 := hid ((Q13.out.up EY.out).kz hs)
  replace Q15 := hid ((Q15.out.up EY.out).kz hs)
  clear hk hs hbx
  replace EY := hid (Ext.refl ws)
  refine WE.done ?_
  have r0 := (BX2.out.up EY.out).cell (o := 0) (v := .bool g13) rfl
  have r1 := (BX2.out.up EY.out).cell (o := 1) (v := .slice A13 n13 c13) rfl
  have r2 := (BX2.out.up EY.out).cell (o := 2) (v := .slice A15 n15 c15) rfl
  repeat go_step
  exact bodyPost_ret (v := .agg #[.bool g13, .slice A13 n13 c13, .slice A15 n15 c15]) (by simp [results, Tryz.results16, go_sem, r0, r1, r2]) rfl ⟨_, rfl, (IsR.mk (Q13.out.up EY.out) (Q15.out.up EY.out)).wide (by omega), (E.out.trans EY.out)⟩

set_option maxHeartbeats 2000000 in
theorem rOfR_pos {w : World} {u v : Value} {Z Y : Int} {j : Nat} (h1 : Worth w u Z j) (h2 : Worth w v Y j) (hj : j ≤ 900) (hy : 0 < Y) :
    Calls Tryz.prog 16 #[u, v] w (GivesR w (Rat.divInt Z Y) (max j 1 + 1)) := by
  obtain ⟨g1, A1, n1, c1, rfl⟩ := h1.shape
  have R1 := hid h1
  obtain ⟨g2, A2, n2, c2, rfl⟩ := h2.shape
  have R2 := hid h2
  have HJ := hid hj
  have HY := hid hy
  clear h1 h2 hj hy
  go_enter Tryz.func16, Tryz.ntmps16
  go_upto_region 1 with (fail)
  have E := hid ((((Ext.refl w).alloc' (.cells #[.bool g1, .slice A1 n1 c1] 24)).alloc' (.cells #[.bool g2, .slice A2 n2 c2] 24)).alloc' (.cells #[.bool false, .slice none 0 0, .slice none 0 0] 26))
  have BX0 : Hid (Box (((w.alloc (.cells #[.bool g1, .slice A1 n1 c1] 24)).alloc (.cells #[.bool g2, .slice A2 n2 c2] 24)).alloc (.cells #[.bool false, .slice none 0 0, .slice none 0 0] 26)) (w.heap.size) #[.bool g1, .slice A1 n1 c1] 24) := hid (((Box.at_ (w := w) #[.bool g1, .slice A1 n1 c1] 24 (by simp)).alloc (.cells #[.bool g2, .slice A2 n2 c2] 24)).alloc (.cells #[.bool false, .slice none 0 0, .slice none 0 0] 26))
  have BX1 : Hid (Box (((w.alloc (.cells #[.bool g1, .slice A1 n1 c1] 24)).alloc (.cells #[.bool g2, .slice A2 n2 c2] 24)).alloc (.cells #[.bool false, .slice none 0 0, .slice none 0 0] 26)) (w.heap.size + 1) #[.bool g2, .slice A2 n2 c2] 24) := hid ((Box.at_ (w := (w.alloc (.cells #[.bool g1, .slice A1 n1 c1] 24))) #[.bool g2, .slice A2 n2 c2] 24 (by simp)).alloc (.cells #[.bool false, .slice none 0 0, .slice none 0 0] 26))
  have BX2 : Hid (Box (((w.alloc (.cells #[.bool g1, .slice A1 n1 c1] 24)).alloc (.cells #[.bool g2, .slice A2 n2 c2] 24)).alloc (.cells #[.bool false, .slice none 0 0, .slice none 0 0] 26)) (w.heap.size + 2) #[.bool false, .slice none 0 0, .slice none 0 0] 26) := hid (Box.at_ (w := ((w.alloc (.cells #[.bool g1, .slice A1 n1 c1] 24)).alloc (.cells #[.bool g2, .slice A2 n2 c2] 24))) #[.bool false, .slice none 0 0, .slice none 0 0] 26 (by simp))
  replace R1 := hid (R1.out.up E.out)
  replace R2 := hid (R2.out.up E.out)
  refine wp_region_T [(0, 0), (1, 1), (2, 0)] (by kernel_rfl) fun wd hb => ?_
  replace E := hid (E.out.trans hb)
  replace BX0 := hid (BX0.out.up hb)
  replace BX1 := hid (BX1.out.up hb)
  replace BX2 := hid (BX2.out.up hb)
  replace R1 := hid (R1.out.up hb)
  replace R2 := hid (R2.out.up hb)
  clear hb
  have EY := hid (Ext.refl wd)
  refine WE.pure (d := some 10) rfl rfl (by rfl) (v := (.agg #[.bool g2, .slice A2 n2 c2])) (fun w' hk => ?_) ?_
  · obtain ⟨ce0, ce1⟩ := ((BX1.out.up EY.out).up hk).c2; go_simp
  simp only [Act.put, pA, pB, pC]
  refine WE.call (d := some 11) rfl rfl (by rfl) (by go_simp) ((rSign_w (R2.out.up EY.out) (s := 1) (Int.sign_eq_one_of_pos HY.out)).mono ?_)
  rintro e wn ⟨rfl, hb⟩
  refine ⟨_, rfl, hb, ?_⟩
  replace EY := hid (EY.out.trans hb)
  clear hb
  simp only [Act.put, pA, pB, pC]
  refine WE.pure (d := some 12) rfl rfl (by rfl) (v := (.bool false)) (fun w' hk => by go_simp) ?_
  simp only [Act.put, pA, pB, pC]
  refine WE.done ?_
  go_upto_region 3 with (fail)
  refine wp_region_T [(0, 0), (1, 0), (2, 1), (3, 1), (4, 4)] (by kernel_rfl) fun wd hb => ?_
  replace EY := hid (EY.out.trans hb)
  clear hb
  refine WE.pure (d := some 15) rfl rfl (by rfl) (v := (.agg #[.bool g1, .slice A1 n1 c1])) (fun w' hk => ?_) ?_
  · obtain ⟨ce0, ce1⟩ := ((BX0.out.up EY.out).up hk).c2; go_simp
  simp only [Act.put, pA, pB, pC]
  refine WE.pure (d := some 16) rfl rfl (by rfl) (v := (.agg #[.bool g2, .slice A2 n2 c2])) (fun w' hk => ?_) ?_
  · obtain ⟨ce0, ce1⟩ := ((BX1.out.up EY.out).up hk).c2; go_simp
  simp only [Act.put, pA, pB, pC]
  refine WE.call (d := some 17) rfl rfl (by rfl) (by go_simp) ((rGcd_w (Worth.wide (R1.out.up EY.out) (k := j) (by have := HJ.out; omega)) (Worth.wide (R2.out.up EY.out) (k := j) (by have := HJ.out; omega)) (by have := HJ.out; omega)).mono ?_)
  rintro e wn ⟨v1, rfl, x1, hb⟩
  obtain ⟨g11, A11, n11, c11, rfl⟩ := x1.shape
  refine ⟨_, rfl, hb, ?_⟩
  replace EY := hid (EY.out.trans hb)
  have Q11 := hid x1
  clear hb x1
  simp only [Act.put, pA, pB, pC]
  refine WE.new (d := some 5) (cs := #[.bool false, .slice none 0 0]) (t := 24) (v := fun g => (.pointer (some ⟨g, 0, none⟩))) rfl rfl (by rfl) (fun w => by go_simp) fun gV5 wv hx0 hbox hge => ?_
  have HNV5BX0 := hid (show gV5 ≠ (w.heap.size) by have := (BX0.out.up EY.out).lt; omega)
  have HNV5BX1 := hid (show gV5 ≠ (w.heap.size + 1) by have := (BX1.out.up EY.out).lt; omega)
  have HNV5BX2 := hid (show gV5 ≠ (w.heap.size + 2) by have := (BX2.out.up EY.out).lt; omega)
  have HGV5 := hid (show w.heap.size ≤ gV5 by have := (E.out.trans EY.out).size; omega)
  replace EY := hid (EY.out.trans hx0)
  replace Q11 := hid (Q11.out.up hx0)
  have V5 : Hid (Box wv gV5 #[.bool false, .slice none 0 0] 24) := hid hbox
  clear hx0 hbox hge
  simp only [Act.put, pA, pB, pC]
  refine WE.store2 (g := gV5) (x := .bool g11) (y := .slice A11 n11 c11) (t := 24) rfl rfl (by rfl) (fun w hb => ?_) V5.out (by rfl) fun ws hk hs => ?_
  · obtain ⟨ce0, ce1⟩ := hb.c2; obtain ⟨f0, f1⟩ := hb.f2; go_simp
  intro hbx
  replace E := hid ((E.out.trans EY.out).keptG hk HGV5.out)
  replace BX0 := hid ((BX0.out.up EY.out).kept hk (by simpa using HNV5BX0.out.symm))
  replace BX1 := hid ((BX1.out.up EY.out).kept hk (by simpa using HNV5BX1.out.symm))
  replace BX2 := hid ((BX2.out.up EY.out).kept hk (by simpa using HNV5BX2.out.symm))
  replace V5 := hid hbx
  replace R1 := hid ((R1.out.up EY.out).kz hs)
  replace R2 := hid ((R2.out.up EY.out).kz hs)
  replace Q11 := hid (Q11.out.kz hs)
  clear hk hs hbx
  replace EY := hid (Ext.refl ws)
  refine WE.done ?_
  go_upto_region 4 with (fail)
  refine wp_region_T [(0, 0), (1, 1), (2, 0)] (by kernel_rfl) fun wd hb => ?_
  replace EY := hid (EY.out.trans hb)
  clear hb
  refine WE.pure (d := some 18) rfl rfl (by rfl) (v := (.agg #[.bool g2, .slice A2 n2 c2])) (fun w' hk => ?_) ?_
  · obtain ⟨ce0, ce1⟩ := ((BX1.out.up EY.out).up hk).c2; go_simp
  simp only [Act.put, pA, pB, pC]
  refine WE.call (d := some 19) rfl rfl (by rfl) (by go_simp) ((rSign_w (R2.out.up EY.out) (s := 1) (Int.sign_eq_one_of_pos HY.out)).mono ?_)
  rintro e wn ⟨rfl, hb⟩
  refine ⟨_, rfl, hb, ?_⟩
  replace EY := hid (EY.out.trans hb)
  clear hb
  simp only [Act.put, pA, pB, pC]
  refine WE.pure (d := some 20) rfl rfl (by rfl) (v := (.bool false)) (fun w' hk => by go_simp) ?_
  simp only [Act.put, pA, pB, pC]
  refine WE.done ?_
  go_upto_region 6 with (fail)
  refine wp_region_T [(0, 0), (1, 0), (2, 1), (3, 0), (4, 0), (5, 0), (6, 1), (7, 1), (8, 4), (9, 4)] (by kernel_rfl) fun wd hb => ?_
  replace EY := hid (EY.out.trans hb)
  clear hb
  refine WE.pure (d := some 24) rfl rfl (by rfl) (v := (.agg #[.bool g1, .slice A1 n1 c1])) (fun w' hk => ?_) ?_
  · obtain ⟨ce0, ce1⟩ := ((BX0.out.up EY.out).up hk).c2; go_simp
  simp only [Act.put, pA, pB, pC]
  refine WE.pure (d := some 25) rfl rfl (by rfl) (v := (.agg #[.bool g11, .slice A11 n11 c11])) (fun w' hk => ?_) ?_
  · obtain ⟨ce0, ce1⟩ := ((V5.out.up EY.out).up hk).c2; go_simp
  simp only [Act.put, pA, pB, pC]
  refine WE.call (d := some 26) rfl rfl (by rfl) (by go_simp) ((rFloor_w (R1.out.up EY.out) (Q11.out.up EY.out).worth (by have := HJ.out; omega) (by have := HJ.out; omega)).mono ?_)
  rintro e wn ⟨v1, v2, rfl, x1, x2, hb⟩
  obtain ⟨g12, A12, n12, c12, rfl⟩ := x1.shape
  obtain ⟨g13, A13, n13, c13, rfl⟩ := x2.shape
  replace x1 := x1.to ((M.frac_posc HY.out).1.symm)
  refine ⟨_, rfl, hb, ?_⟩
  replace EY := hid (EY.out.trans hb)
  have Q12 := hid x1
  clear hb x1 x2
  simp only [Act.put, pA, pB, pC]
  refine WE.pure (d := some 23) rfl rfl (by rfl) (v := (.tuple #[(.agg #[.bool g12, .slice A12 n12 c12]), (.agg #[.bool g13, .slice A13 n13 c13])])) (fun w' hk => by go_simp) ?_
  simp only [Act.put, pA, pB, pC]
  refine WE.pure (d := some 27) rfl rfl (by rfl) (v := (.agg #[.bool g12, .slice A12 n12 c12])) (fun w' hk => by go_simp) ?_
  simp only [Act.put, pA, pB, pC]
  refine WE.pure (d := some 28) rfl rfl (by rfl) (v := (.agg #[.bool g13, .slice A13 n13 c13])) (fun w' hk => by go_simp) ?_
  simp only [Act.put, pA, pB, pC]
  refine WE.new (d := some 6) (cs := #[.bool false, .slice none 0 0]) (t := 24) (v := fun g => (.pointer (some ⟨g, 0, none⟩))) rfl rfl (by rfl) (fun w => by go_simp) fun gV6 wv hx0 hbox hge => ?_
  have HNV6BX1 := hid (show gV6 ≠ (w.heap.size + 1) by have := (BX1.out.up EY.out).lt; omega)
  have HNV6BX2 := hid (show gV6 ≠ (w.heap.size + 2) by have := (BX2.out.up EY.out).lt; omega)
  have HNV6V5 := hid (show gV6 ≠ gV5 by have := (V5.out.up EY.out).lt; omega)
  have HGV6 := hid (show w.heap.size ≤ gV6 by have := (E.out.trans EY.out).size; omega)
  replace EY := hid (EY.out.trans hx0)
  replace Q12 := hid (Q12.out.up hx0)
  have V6 : Hid (Box wv gV6 #[.bool false, .slice none 0 0] 24) := hid hbox
  clear hx0 hbox hge
  simp only [Act.put, pA, pB, pC]
  refine WE.new (d := some 7) (cs := #[.bool false, .slice none 0 0]) (t := 24) (v := fun g => (.pointer (some ⟨g, 0, none⟩))) rfl rfl (by rfl) (fun w => by go_simp) fun gV7 wv hx0 hbox hge => ?_
  have HNV7BX1 := hid (show gV7 ≠ (w.heap.size + 1) by have := (BX1.out.up EY.out).lt; omega)
  have HNV7BX2 := hid (show gV7 ≠ (w.heap.size + 2) by have := (BX2.out.up EY.out).lt; omega)
  have HNV7V5 := hid (show gV7 ≠ gV5 by have := (V5.out.up EY.out).lt; omega)
  have HNV7V6 := hid (show gV7 ≠ gV6 by have := V6.out.lt; omega)
  have HGV7 := hid (show w.heap.size ≤ gV7 by have := (E.out.trans EY.out).size; omega)
  replace EY := hid (EY.out.trans hx0)
  replace V6 := hid (V6.out.up hx0)
  replace Q12 := hid (Q12.out.up hx0)
  have V7 : Hid (Box wv gV7 #[.bool false, .slice none 0 0] 24) := hid hbox
  clear hx0 hbox hge
  simp only [Act.put, pA, pB, pC]
  refine WE.store2 (g := gV6) (x := .bool g12) (y := .slice A12 n12 c12) (t := 24) rfl rfl (by rfl) (fun w hb => ?_) V6.out (by rfl) fun ws hk hs => ?_
  · obtain ⟨ce0, ce1⟩ := hb.c2; obtain ⟨f0, f1⟩ := hb.f2; go_simp
  intro hbx
  replace E := hid ((E.out.trans EY.out).keptG hk HGV6.out)
  replace BX1 := hid ((BX1.out.up EY.out).kept hk (by simpa using HNV6BX1.out.symm))
  replace BX2 := hid ((BX2.out.up EY.out).kept hk (by simpa using HNV6BX2.out.symm))
  replace V5 := hid ((V5.out.up EY.out).kept hk (by simpa using HNV6V5.out.symm))
  replace V6 := hid hbx
  replace V7 := hid (V7.out.kept hk (by simpa using HNV7V6.out))
  replace R2 := hid ((R2.out.up EY.out).kz hs)
  replace Q11 := hid ((Q11.out.up EY.out).kz hs)
  replace Q12 := hid (Q12.out.kz hs)
  clear hk hs hbx
  replace EY := hid (Ext.refl ws)
  refine WE.store2 (g := gV7) (x := .bool g13) (y := .slice A13 n13 c13) (t := 24) rfl rfl (by rfl) (fun w hb => ?_) (V7.out.up EY.out) (by rfl) fun ws hk hs => ?_
  · obtain ⟨ce0, ce1⟩ := hb.c2; obtain ⟨f0, f1⟩ := hb.f2; go_simp
  intro hbx
  replace E := hid ((E.out.trans EY.out).keptG hk HGV7.out)
  replace BX1 := hid ((BX1.out.up EY.out).kept hk (by simpa using HNV7BX1.out.symm))
  replace BX2 := hid ((BX2.out.up EY.out).kept hk (by simpa using HNV7BX2.out.symm))
  replace V5 := hid ((V5.out.up EY.out).kept hk (by simpa using HNV7V5.out.symm))
  replace V6 := hid ((V6.out.up EY.out).kept hk (by simpa using HNV7V6.out.symm))
  replace R2 := hid ((R2.out.up EY.out).kz hs)
  replace Q11 := hid ((Q11.out.up EY.out).kz hs)
  replace Q12 := hid ((Q12.out.up EY.out).kz hs)
  clear hk hs hbx
  replace EY := hid (Ext.refl ws)
  refine WE.done ?_
  go_upto_region 7 with (fail)
  refine wp_region_T [(0, 0), (1, 0), (2, 1), (3, 0), (4, 0), (5, 0), (6, 1), (7, 1), (8, 4), (9, 4)] (by kernel_rfl) fun wd hb => ?_
  replace EY := hid (EY.out.trans hb)
  clear hb
  refine WE.pure (d := some 30) rfl rfl (by rfl) (v := (.agg #[.bool g2, .slice A2 n2 c2])) (fun w' hk => ?_) ?_
  · obtain ⟨ce0, ce1⟩ := ((BX1.out.up EY.out).up hk).c2; go_simp
  simp only [Act.put, pA, pB, pC]
  refine WE.pure (d := some 31) rfl rfl (by rfl) (v := (.agg #[.bool g11, .slice A11 n11 c11])) (fun w' hk => ?_) ?_
  · obtain ⟨ce0, ce1⟩ := ((V5.out.up EY.out).up hk).c2; go_simp
  simp only [Act.put, pA, pB, pC]
  refine WE.call (d := some 32) rfl rfl (by rfl) (by go_simp) ((rFloor_w (R2.out.up EY.out) (Q11.out.up EY.out).worth (by have := HJ.out; omega) (by have := HJ.out; omega)).mono ?_)
  rintro e wn ⟨v1, v2, rfl, x1, x2, hb⟩
  obtain ⟨g14, A14, n14, c14, rfl⟩ := x1.shape
  obtain ⟨g15, A15, n15, c15, rfl⟩ := x2.shape
  replace x1 := x1.to ((M.frac_posc (p := Z) HY.out).2.symm)
  obtain rfl := x1.nat_side
  refine ⟨_, rfl, hb, ?_⟩
  replace EY := hid (EY.out.trans hb)
  have Q14 := hid x1
  clear hb x1 x2
  simp only [Act.put, pA, pB, pC]
  refine WE.pure (d := some 29) rfl rfl (by rfl) (v := (.tuple #[(.agg #[.bool false, .slice A14 n14 c14]), (.agg #[.bool g15, .slice A15 n15 c15])])) (fun w' hk => by go_simp) ?_
  simp only [Act.put, pA, pB, pC]
  refine WE.pure (d := some 33) rfl rfl (by rfl) (v := (.agg #[.bool false, .slice A14 n14 c14])) (fun w' hk => by go_simp) ?_
  simp only [Act.put, pA, pB, pC]
  refine WE.pure (d := some 34) rfl rfl (by rfl) (v := (.agg #[.bool g15, .slice A15 n15 c15])) (fun w' hk => by go_simp) ?_
  simp only [Act.put, pA, pB, pC]
  refine WE.new (d := some 8) (cs := #[.bool false, .slice none 0 0]) (t := 24) (v := fun g => (.pointer (some ⟨g, 0, none⟩))) rfl rfl (by rfl) (fun w => by go_simp) fun gV8 wv hx0 hbox hge => ?_
  have HNV8BX2 := hid (show gV8 ≠ (w.heap.size + 2) by have := (BX2.out.up EY.out).lt; omega)
  have HNV8V6 := hid (show gV8 ≠ gV6 by have := (V6.out.up EY.out).lt; omega)
  have HGV8 := hid (show w.heap.size ≤ gV8 by have := (E.out.trans EY.out).size; omega)
  replace EY := hid (EY.out.trans hx0)
  replace Q14 := hid (Q14.out.up hx0)
  have V8 : Hid (Box wv gV8 #[.bool false, .slice none 0 0] 24) := hid hbox
  clear hx0 hbox hge
  simp only [Act.put, pA, pB, pC]
  refine WE.new (d := some 9) (cs := #[.bool false, .slice none 0 0]) (t := 24) (v := fun g => (.pointer (some ⟨g, 0, none⟩))) rfl rfl (by rfl) (fun w => by go_simp) fun gV9 wv hx0 hbox hge => ?_
  have HNV9BX2 := hid (show gV9 ≠ (w.heap.size + 2) by have := (BX2.out.up EY.out).lt; omega)
  have HNV9V6 := hid (show gV9 ≠ gV6 by have := (V6.out.up EY.out).lt; omega)
  have HNV9V8 := hid (show gV9 ≠ gV8 by have := V8.out.lt; omega)
  have HGV9 := hid (show w.heap.size ≤ gV9 by have := (E.out.trans EY.out).size; omega)
  replace EY := hid (EY.out.trans hx0)
  replace V8 := hid (V8.out.up hx0)
  replace Q14 := hid (Q14.out.up hx0)
  have V9 : Hid (Box wv gV9 #[.bool false, .slice none 0 0] 24) := hid hbox
  clear hx0 hbox hge
  simp only [Act.put, pA, pB, pC]
  refine WE.store2 (g := gV8) (x := .bool false) (y := .slice A14 n14 c14) (t := 24) rfl rfl (by rfl) (fun w hb => ?_) V8.out (by rfl) fun ws hk hs => ?_
  · obtain ⟨ce0, ce1⟩ := hb.c2; obtain ⟨f0, f1⟩ := hb.f2; go_simp
  intro hbx
  replace E := hid ((E.out.trans EY.out).keptG hk HGV8.out)
  replace BX2 := hid ((BX2.out.up EY.out).kept hk (by simpa using HNV8BX2.out.symm))
  replace V6 := hid ((V6.out.up EY.out).kept hk (by simpa using HNV8V6.out.symm))
  replace V8 := hid hbx
  replace V9 := hid (V9.out.kept hk (by simpa using HNV9V8.out))
  replace Q12 := hid ((Q12.out.up EY.out).kz hs)
  replace Q14 := hid (Q14.out.kz hs)
  clear hk hs hbx
  replace EY := hid (Ext.refl ws)
  refine WE.store2 (g := gV9) (x := .bool g15) (y := .slice A15 n15 c15) (t := 24) rfl rfl (by rfl) (fun w hb => ?_) (V9.out.up EY.out) (by rfl) fun ws hk hs => ?_
  · obtain ⟨ce0, ce1⟩ := hb.c2; obtain ⟨f0, f1⟩ := hb.f2; go_simp
  intro hbx
  replace E := hid ((E.out.trans EY.out).keptG hk HGV9.out)
  replace BX2 := hid ((BX2.out.up EY.out).kept hk (by simpa using HNV9BX2.out.symm))
  replace V6 := hid ((V6.out.up EY.out).kept hk (by simpa using HNV9V6.out.symm))
  replace V8 := hid ((V8.out.up EY.out).kept hk (by simpa using HNV9V8.out.symm))
  replace Q12 := hid ((Q12.out.up EY.out).kz hs)
  replace Q14 := hid ((Q14.out.up EY.out).kz hs)
  clear hk hs hbx
  replace EY := hid (Ext.refl ws)
  refine WE.done ?_
  go_upto_region 8 with (fail)
  refine wp_region_T [(0, 0), (1, 0), (2, 0), (3, 0), (4, 4)] (by kernel_rfl) fun wd hb => ?_
  replace EY := hid (EY.out.trans hb)
  clear hb
  refine WE.pure (d := some 35) rfl rfl (by rfl) (v := (.agg #[.bool g12, .slice A12 n12 c12])) (fun w' hk => ?_) ?_
  · obtain ⟨ce0, ce1⟩ := ((V6.out.up EY.out).up hk).c2; go_simp
  simp only [Act.put, pA, pB, pC]
  refine WE.pure (d := some 36) rfl rfl (by rfl) (v := (.pointer (some ⟨gV8, 1, none⟩))) (fun w' hk => by go_simp) ?_
  simp only [Act.put, pA, pB, pC]
  refine WE.pure (d := some 37) rfl rfl (by rfl) (v := (.slice A14 n14 c14)) (fun w' hk => ?_) ?_
  · have ce1 := hk.cell ((V8.out.up EY.out).cell (o := 1) (v := .slice A14 n14 c14) rfl); go_simp
  simp only [Act.put, pA, pB, pC]
  refine WE.pure (d := some 38) rfl rfl (by rfl) (v := (.agg #[.bool g12, .slice A12 n12 c12, .slice A14 n14 c14])) (fun w' hk => by go_simp) ?_
  simp only [Act.put, pA, pB, pC]
  refine WE.store3 (g := (w.heap.size + 2)) (x := .bool g12) (y := .slice A12 n12 c12) (z := .slice A14 n14 c14) (t := 26) rfl rfl (by rfl) (fun w hb => ?_) (BX2.out.up EY.out) (by rfl) fun ws hk hs => ?_
  · obtain ⟨ce0, ce1, ce2⟩ := hb.c3; obtain ⟨f0, f1, f2⟩ := hb.f3; go_simp
  intro hbx
  replace E := hid ((E.out.trans EY.out).keptG hk (by simp))
  replace BX2 := hid hbx
  replace Q12 := hid ((Q12.out.up EY.out).kz hs)
  replace Q14 := hid ((Q14.out.up EY.out).kz hs)
  clear hk hs hbx
  replace EY := hid (Ext.refl ws)
  refine WE.done ?_
  have r0 := (BX2.out.up EY.out).cell (o := 0) (v := .bool g12) rfl
  have r1 := (BX2.out.up EY.out).cell (o := 1) (v := .slice A12 n12 c12) rfl
  have r2 := (BX2.out.up EY.out).cell (o := 2) (v := .slice A14 n14 c14) rfl
  repeat go_step
  exact bodyPost_ret (v := .agg #[.bool g12, .slice A12 n12 c12, .slice A14 n14 c14]) (by simp [results, Tryz.results16, go_sem, r0, r1, r2]) rfl ⟨_, rfl, (IsR.mk (Q12.out.up EY.out) (Q14.out.up EY.out)).wide (by omega), (E.out.trans EY.out)⟩

theorem rOfR_r {w : World} {u v : Value} {Z Y : Int} {j : Nat} (h1 : Worth w u Z j) (h2 : Worth w v Y j) (hj : j ≤ 900) :
    Calls Tryz.prog 16 #[u, v] w (GivesR w (Rat.divInt Z Y) (max j 1 + 1)) := by
  rcases (by omega : Y = 0 ∨ Y < 0 ∨ 0 < Y) with h | h | h
  · exact rOfR_zero h1 h2 hj h
  · exact rOfR_neg h1 h2 hj h
  · exact rOfR_pos h1 h2 hj h

end Go.Proofs.YtkjfeedclaedfaaGreat
