/-
  Contracts of package rat's integers.
-/
import Derived.Test.YtkjfeedclaedfaaGreatRWords
namespace Go.Proofs.YtkjfeedclaedfaaGreat
open Go.RowKit
set_option linter.unusedSimpArgs false
set_option linter.unusedVariables false

set_option maxHeartbeats 1000000 in
theorem times_r {w : World} {u v : Value} {Z Y : Int} {j k : Nat} (h1 : Worth w u Z j) (h2 : Worth w v Y k) (hj : j ≤ 1000) (hk : k ≤ 63) :
    Calls Tryz.prog 41 #[u, v] w (GivesZ w (Z * Y) (j + k)) := by
  obtain ⟨g1, A1, n1, c1, rfl⟩ := h1.shape
  have R1 := hid h1
  obtain ⟨g2, A2, n2, c2, rfl⟩ := h2.shape
  have R2 := hid h2
  have HJ := hid hj
  have HK := hid hk
  clear h1 h2 hj hk
  go_enter Tryz.func41, Tryz.ntmps41
  go_upto_region 1 with (fail)
  have E := hid ((((Ext.refl w).alloc' (.cells #[.bool g1, .slice A1 n1 c1] 49)).alloc' (.cells #[.bool g2, .slice A2 n2 c2] 49)).alloc' (.cells #[.bool false, .slice none 0 0] 49))
  have BX0 : Hid (Box (((w.alloc (.cells #[.bool g1, .slice A1 n1 c1] 49)).alloc (.cells #[.bool g2, .slice A2 n2 c2] 49)).alloc (.cells #[.bool false, .slice none 0 0] 49)) (w.heap.size) #[.bool g1, .slice A1 n1 c1] 49) := hid (((Box.at_ (w := w) #[.bool g1, .slice A1 n1 c1] 49 (by simp)).alloc (.cells #[.bool g2, .slice A2 n2 c2] 49)).alloc (.cells #[.bool false, .slice none 0 0] 49))
  have BX1 : Hid (Box (((w.alloc (.cells #[.bool g1, .slice A1 n1 c1] 49)).alloc (.cells #[.bool g2, .slice A2 n2 c2] 49)).alloc (.cells #[.bool false, .slice none 0 0] 49)) (w.heap.size + 1) #[.bool g2, .slice A2 n2 c2] 49) := hid ((Box.at_ (w := (w.alloc (.cells #[.bool g1, .slice A1 n1 c1] 49))) #[.bool g2, .slice A2 n2 c2] 49 (by simp)).alloc (.cells #[.bool false, .slice none 0 0] 49))
  have BX2 : Hid (Box (((w.alloc (.cells #[.bool g1, .slice A1 n1 c1] 49)).alloc (.cells #[.bool g2, .slice A2 n2 c2] 49)).alloc (.cells #[.bool false, .slice none 0 0] 49)) (w.heap.size + 2) #[.bool false, .slice none 0 0] 49) := hid (Box.at_ (w := ((w.alloc (.cells #[.bool g1, .slice A1 n1 c1] 49)).alloc (.cells #[.bool g2, .slice A2 n2 c2] 49))) #[.bool false, .slice none 0 0] 49 (by simp))
  replace R1 := hid (R1.out.up E.out)
  replace R2 := hid (R2.out.up E.out)
  refine wp_region_T [(0, 0), (1, 0), (2, 1), (3, 4)] (by kernel_rfl) fun wd hb => ?_
  replace E := hid (E.out.trans hb)
  replace BX0 := hid (BX0.out.up hb)
  replace BX1 := hid (BX1.out.up hb)
  replace BX2 := hid (BX2.out.up hb)
  replace R1 := hid (R1.out.up hb)
  replace R2 := hid (R2.out.up hb)
  clear hb
  have EY := hid (Ext.refl wd)
  refine WE.pure (d := some 5) rfl rfl (by rfl) (v := (.agg #[.bool g1, .slice A1 n1 c1])) (fun w' hk => ?_) ?_
  · obtain ⟨ce0, ce1⟩ := ((BX0.out.up EY.out).up hk).c2; go_simp
  simp only [Act.put, pA, pB, pC]
  refine WE.pure (d := some 6) rfl rfl (by rfl) (v := (.agg #[.bool g2, .slice A2 n2 c2])) (fun w' hk => ?_) ?_
  · obtain ⟨ce0, ce1⟩ := ((BX1.out.up EY.out).up hk).c2; go_simp
  simp only [Act.put, pA, pB, pC]
  refine WE.call (d := some 7) rfl rfl (by rfl) (by go_simp) ((mul_w (R1.out.up EY.out) (R2.out.up EY.out) (by have := HJ.out; have := HK.out; omega) (by have := HJ.out; have := HK.out; omega) (by have := HJ.out; have := HK.out; omega)).mono ?_)
  rintro e wn ⟨v1, rfl, x1, hb⟩
  obtain ⟨g11, A11, n11, c11, rfl⟩ := x1.shape
  refine ⟨_, rfl, hb, ?_⟩
  replace EY := hid (EY.out.trans hb)
  have Q11 := hid x1
  clear hb x1
  simp only [Act.put, pA, pB, pC]
  refine WE.store2 (g := (w.heap.size + 2)) (x := .bool g11) (y := .slice A11 n11 c11) (t := 49) rfl rfl (by rfl) (fun w hb => ?_) (BX2.out.up EY.out) (by rfl) fun ws hk hs => ?_
  · obtain ⟨ce0, ce1⟩ := hb.c2; obtain ⟨f0, f1⟩ := hb.f2; go_simp
  intro hbx
  replace E := hid ((E.out.trans EY.out).keptG hk (by simp))
  replace BX2 := hid hbx
  replace Q11 := hid (Q11.out.kz hs)
  clear hk hs hbx
  replace EY := hid (Ext.refl ws)
  refine WE.done ?_
  have r0 := (BX2.out.up EY.out).cell (o := 0) (v := .bool g11) rfl
  have r1 := (BX2.out.up EY.out).cell (o := 1) (v := .slice A11 n11 c11) rfl
  repeat go_step
  exact bodyPost_ret (v := .agg #[.bool g11, .slice A11 n11 c11]) (by simp [results, Tryz.results41, go_sem, r0, r1]) rfl ⟨_, rfl, (Q11.out.up EY.out), (E.out.trans EY.out)⟩

set_option maxHeartbeats 1000000 in
theorem plus_r {w : World} {u v : Value} {Z Y : Int} {j k : Nat} (h1 : Worth w u Z j) (h2 : Worth w v Y k) (hj : j ≤ 1000) (hk : k ≤ 1000) :
    Calls Tryz.prog 62 #[u, v] w (GivesZ w (Z + Y) (max j k + 1)) := by
  obtain ⟨g1, A1, n1, c1, rfl⟩ := h1.shape
  have R1 := hid h1
  obtain ⟨g2, A2, n2, c2, rfl⟩ := h2.shape
  have R2 := hid h2
  have HJ := hid hj
  have HK := hid hk
  clear h1 h2 hj hk
  go_enter Tryz.func62, Tryz.ntmps62
  go_upto_region 1 with (fail)
  have E := hid ((((Ext.refl w).alloc' (.cells #[.bool g1, .slice A1 n1 c1] 49)).alloc' (.cells #[.bool g2, .slice A2 n2 c2] 49)).alloc' (.cells #[.bool false, .slice none 0 0] 49))
  have BX0 : Hid (Box (((w.alloc (.cells #[.bool g1, .slice A1 n1 c1] 49)).alloc (.cells #[.bool g2, .slice A2 n2 c2] 49)).alloc (.cells #[.bool false, .slice none 0 0] 49)) (w.heap.size) #[.bool g1, .slice A1 n1 c1] 49) := hid (((Box.at_ (w := w) #[.bool g1, .slice A1 n1 c1] 49 (by simp)).alloc (.cells #[.bool g2, .slice A2 n2 c2] 49)).alloc (.cells #[.bool false, .slice none 0 0] 49))
  have BX1 : Hid (Box (((w.alloc (.cells #[.bool g1, .slice A1 n1 c1] 49)).alloc (.cells #[.bool g2, .slice A2 n2 c2] 49)).alloc (.cells #[.bool false, .slice none 0 0] 49)) (w.heap.size + 1) #[.bool g2, .slice A2 n2 c2] 49) := hid ((Box.at_ (w := (w.alloc (.cells #[.bool g1, .slice A1 n1 c1] 49))) #[.bool g2, .slice A2 n2 c2] 49 (by simp)).alloc (.cells #[.bool false, .slice none 0 0] 49))
  have BX2 : Hid (Box (((w.alloc (.cells #[.bool g1, .slice A1 n1 c1] 49)).alloc (.cells #[.bool g2, .slice A2 n2 c2] 49)).alloc (.cells #[.bool false, .slice none 0 0] 49)) (w.heap.size + 2) #[.bool false, .slice none 0 0] 49) := hid (Box.at_ (w := ((w.alloc (.cells #[.bool g1, .slice A1 n1 c1] 49)).alloc (.cells #[.bool g2, .slice A2 n2 c2] 49))) #[.bool false, .slice none 0 0] 49 (by simp))
  replace R1 := hid (R1.out.up E.out)
  replace R2 := hid (R2.out.up E.out)
  refine wp_region_T [(0, 0), (1, 0), (2, 1), (3, 4)] (by kernel_rfl) fun wd hb => ?_
  replace E := hid (E.out.trans hb)
  replace BX0 := hid (BX0.out.up hb)
  replace BX1 := hid (BX1.out.up hb)
  replace BX2 := hid (BX2.out.up hb)
  replace R1 := hid (R1.out.up hb)
  replace R2 := hid (R2.out.up hb)
  clear hb
  have EY := hid (Ext.refl wd)
  refine WE.pure (d := some 5) rfl rfl (by rfl) (v := (.agg #[.bool g1, .slice A1 n1 c1])) (fun w' hk => ?_) ?_
  · obtain ⟨ce0, ce1⟩ := ((BX0.out.up EY.out).up hk).c2; go_simp
  simp only [Act.put, pA, pB, pC]
  refine WE.pure (d := some 6) rfl rfl (by rfl) (v := (.agg #[.bool g2, .slice A2 n2 c2])) (fun w' hk => ?_) ?_
  · obtain ⟨ce0, ce1⟩ := ((BX1.out.up EY.out).up hk).c2; go_simp
  simp only [Act.put, pA, pB, pC]
  refine WE.call (d := some 7) rfl rfl (by rfl) (by go_simp) ((add_w (R1.out.up EY.out) (R2.out.up EY.out) (by have := HJ.out; have := HK.out; omega) (by have := HJ.out; have := HK.out; omega)).mono ?_)
  rintro e wn ⟨v1, rfl, x1, hb⟩
  obtain ⟨g11, A11, n11, c11, rfl⟩ := x1.shape
  refine ⟨_, rfl, hb, ?_⟩
  replace EY := hid (EY.out.trans hb)
  have Q11 := hid x1
  clear hb x1
  simp only [Act.put, pA, pB, pC]
  refine WE.store2 (g := (w.heap.size + 2)) (x := .bool g11) (y := .slice A11 n11 c11) (t := 49) rfl rfl (by rfl) (fun w hb => ?_) (BX2.out.up EY.out) (by rfl) fun ws hk hs => ?_
  · obtain ⟨ce0, ce1⟩ := hb.c2; obtain ⟨f0, f1⟩ := hb.f2; go_simp
  intro hbx
  replace E := hid ((E.out.trans EY.out).keptG hk (by simp))
  replace BX2 := hid hbx
  replace Q11 := hid (Q11.out.kz hs)
  clear hk hs hbx
  replace EY := hid (Ext.refl ws)
  refine WE.done ?_
  have r0 := (BX2.out.up EY.out).cell (o := 0) (v := .bool g11) rfl
  have r1 := (BX2.out.up EY.out).cell (o := 1) (v := .slice A11 n11 c11) rfl
  repeat go_step
  exact bodyPost_ret (v := .agg #[.bool g11, .slice A11 n11 c11]) (by simp [results, Tryz.results62, go_sem, r0, r1]) rfl ⟨_, rfl, (Q11.out.up EY.out), (E.out.trans EY.out)⟩

set_option maxHeartbeats 1000000 in
theorem less_r {w : World} {u v : Value} {Z Y : Int} {j k : Nat} (h1 : Worth w u Z j) (h2 : Worth w v Y k) (hj : j ≤ 1000) (hk : k ≤ 1000) :
    Calls Tryz.prog 64 #[u, v] w (GivesZ w (Z - Y) (max j k + 1)) := by
  obtain ⟨g1, A1, n1, c1, rfl⟩ := h1.shape
  have R1 := hid h1
  obtain ⟨g2, A2, n2, c2, rfl⟩ := h2.shape
  have R2 := hid h2
  have HJ := hid hj
  have HK := hid hk
  clear h1 h2 hj hk
  go_enter Tryz.func64, Tryz.ntmps64
  go_upto_region 1 with (fail)
  have E := hid ((((Ext.refl w).alloc' (.cells #[.bool g1, .slice A1 n1 c1] 49)).alloc' (.cells #[.bool g2, .slice A2 n2 c2] 49)).alloc' (.cells #[.bool false, .slice none 0 0] 49))
  have BX0 : Hid (Box (((w.alloc (.cells #[.bool g1, .slice A1 n1 c1] 49)).alloc (.cells #[.bool g2, .slice A2 n2 c2] 49)).alloc (.cells #[.bool false, .slice none 0 0] 49)) (w.heap.size) #[.bool g1, .slice A1 n1 c1] 49) := hid (((Box.at_ (w := w) #[.bool g1, .slice A1 n1 c1] 49 (by simp)).alloc (.cells #[.bool g2, .slice A2 n2 c2] 49)).alloc (.cells #[.bool false, .slice none 0 0] 49))
  have BX1 : Hid (Box (((w.alloc (.cells #[.bool g1, .slice A1 n1 c1] 49)).alloc (.cells #[.bool g2, .slice A2 n2 c2] 49)).alloc (.cells #[.bool false, .slice none 0 0] 49)) (w.heap.size + 1) #[.bool g2, .slice A2 n2 c2] 49) := hid ((Box.at_ (w := (w.alloc (.cells #[.bool g1, .slice A1 n1 c1] 49))) #[.bool g2, .slice A2 n2 c2] 49 (by simp)).alloc (.cells #[.bool false, .slice none 0 0] 49))
  have BX2 : Hid (Box (((w.alloc (.cells #[.bool g1, .slice A1 n1 c1] 49)).alloc (.cells #[.bool g2, .slice A2 n2 c2] 49)).alloc (.cells #[.bool false, .slice none 0 0] 49)) (w.heap.size + 2) #[.bool false, .slice none 0 0] 49) := hid (Box.at_ (w := ((w.alloc (.cells #[.bool g1, .slice A1 n1 c1] 49)).alloc (.cells #[.bool g2, .slice A2 n2 c2] 49))) #[.bool false, .slice none 0 0] 49 (by simp))
  replace R1 := hid (R1.out.up E.out)
  replace R2 := hid (R2.out.up E.out)
  refine wp_region_T [(0, 0), (1, 0), (2, 1), (3, 4)] (by kernel_rfl) fun wd hb => ?_
  replace E := hid (E.out.trans hb)
  replace BX0 := hid (BX0.out.up hb)
  replace BX1 := hid (BX1.out.up hb)
  replace BX2 := hid (BX2.out.up hb)
  replace R1 := hid (R1.out.up hb)
  replace R2 := hid (R2.out.up hb)
  clear hb
  have EY := hid (Ext.refl wd)
  refine WE.pure (d := some 5) rfl rfl (by rfl) (v := (.agg #[.bool g1, .slice A1 n1 c1])) (fun w' hk => ?_) ?_
  · obtain ⟨ce0, ce1⟩ := ((BX0.out.up EY.out).up hk).c2; go_simp
  simp only [Act.put, pA, pB, pC]
  refine WE.pure (d := some 6) rfl rfl (by rfl) (v := (.agg #[.bool g2, .slice A2 n2 c2])) (fun w' hk => ?_) ?_
  · obtain ⟨ce0, ce1⟩ := ((BX1.out.up EY.out).up hk).c2; go_simp
  simp only [Act.put, pA, pB, pC]
  refine WE.call (d := some 7) rfl rfl (by rfl) (by go_simp) ((sub_w (R1.out.up EY.out) (R2.out.up EY.out) (by have := HJ.out; have := HK.out; omega) (by have := HJ.out; have := HK.out; omega)).mono ?_)
  rintro e wn ⟨v1, rfl, x1, hb⟩
  obtain ⟨g11, A11, n11, c11, rfl⟩ := x1.shape
  refine ⟨_, rfl, hb, ?_⟩
  replace EY := hid (EY.out.trans hb)
  have Q11 := hid x1
  clear hb x1
  simp only [Act.put, pA, pB, pC]
  refine WE.store2 (g := (w.heap.size + 2)) (x := .bool g11) (y := .slice A11 n11 c11) (t := 49) rfl rfl (by rfl) (fun w hb => ?_) (BX2.out.up EY.out) (by rfl) fun ws hk hs => ?_
  · obtain ⟨ce0, ce1⟩ := hb.c2; obtain ⟨f0, f1⟩ := hb.f2; go_simp
  intro hbx
  replace E := hid ((E.out.trans EY.out).keptG hk (by simp))
  replace BX2 := hid hbx
  replace Q11 := hid (Q11.out.kz hs)
  clear hk hs hbx
  replace EY := hid (Ext.refl ws)
  refine WE.done ?_
  have r0 := (BX2.out.up EY.out).cell (o := 0) (v := .bool g11) rfl
  have r1 := (BX2.out.up EY.out).cell (o := 1) (v := .slice A11 n11 c11) rfl
  repeat go_step
  exact bodyPost_ret (v := .agg #[.bool g11, .slice A11 n11 c11]) (by simp [results, Tryz.results64, go_sem, r0, r1]) rfl ⟨_, rfl, (Q11.out.up EY.out), (E.out.trans EY.out)⟩

set_option maxHeartbeats 1000000 in
theorem negated_r {w : World} {u : Value} {Z : Int} {j : Nat} (h1 : Worth w u Z j) (hj : j ≤ 1000) :
    Calls Tryz.prog 60 #[u] w (GivesZ w (-Z) j) := by
  obtain ⟨g1, A1, n1, c1, rfl⟩ := h1.shape
  have R1 := hid h1
  have HJ := hid hj
  clear h1 hj
  go_enter Tryz.func60, Tryz.ntmps60
  go_upto_region 1 with (fail)
  have E := hid (((Ext.refl w).alloc' (.cells #[.bool g1, .slice A1 n1 c1] 49)).alloc' (.cells #[.bool false, .slice none 0 0] 49))
  have BX0 : Hid (Box ((w.alloc (.cells #[.bool g1, .slice A1 n1 c1] 49)).alloc (.cells #[.bool false, .slice none 0 0] 49)) (w.heap.size) #[.bool g1, .slice A1 n1 c1] 49) := hid ((Box.at_ (w := w) #[.bool g1, .slice A1 n1 c1] 49 (by simp)).alloc (.cells #[.bool false, .slice none 0 0] 49))
  have BX1 : Hid (Box ((w.alloc (.cells #[.bool g1, .slice A1 n1 c1] 49)).alloc (.cells #[.bool false, .slice none 0 0] 49)) (w.heap.size + 1) #[.bool false, .slice none 0 0] 49) := hid (Box.at_ (w := (w.alloc (.cells #[.bool g1, .slice A1 n1 c1] 49))) #[.bool false, .slice none 0 0] 49 (by simp))
  replace R1 := hid (R1.out.up E.out)
  refine wp_region_T [(0, 0), (1, 1), (2, 4)] (by kernel_rfl) fun wd hb => ?_
  replace E := hid (E.out.trans hb)
  replace BX0 := hid (BX0.out.up hb)
  replace BX1 := hid (BX1.out.up hb)
  replace R1 := hid (R1.out.up hb)
  clear hb
  have EY := hid (Ext.refl wd)
  refine WE.pure (d := some 3) rfl rfl (by rfl) (v := (.agg #[.bool g1, .slice A1 n1 c1])) (fun w' hk => ?_) ?_
  · obtain ⟨ce0, ce1⟩ := ((BX0.out.up EY.out).up hk).c2; go_simp
  simp only [Act.put, pA, pB, pC]
  refine WE.call (d := some 4) rfl rfl (by rfl) (by go_simp) ((neg_w (R1.out.up EY.out) (by have := HJ.out; omega)).mono ?_)
  rintro e wn ⟨v1, rfl, x1, hb⟩
  obtain ⟨g11, A11, n11, c11, rfl⟩ := x1.shape
  refine ⟨_, rfl, hb, ?_⟩
  replace EY := hid (EY.out.trans hb)
  have Q11 := hid x1
  clear hb x1
  simp only [Act.put, pA, pB, pC]
  refine WE.store2 (g := (w.heap.size + 1)) (x := .bool g11) (y := .slice A11 n11 c11) (t := 49) rfl rfl (by rfl) (fun w hb => ?_) (BX1.out.up EY.out) (by rfl) fun ws hk hs => ?_
  · obtain ⟨ce0, ce1⟩ := hb.c2; obtain ⟨f0, f1⟩ := hb.f2; go_simp
  intro hbx
  replace E := hid ((E.out.trans EY.out).keptG hk (by simp))
  replace BX1 := hid hbx
  replace Q11 := hid (Q11.out.kz hs)
  clear hk hs hbx
  replace EY := hid (Ext.refl ws)
  refine WE.done ?_
  have r0 := (BX1.out.up EY.out).cell (o := 0) (v := .bool g11) rfl
  have r1 := (BX1.out.up EY.out).cell (o := 1) (v := .slice A11 n11 c11) rfl
  repeat go_step
  exact bodyPost_ret (v := .agg #[.bool g11, .slice A11 n11 c11]) (by simp [results, Tryz.results60, go_sem, r0, r1]) rfl ⟨_, rfl, (Q11.out.up EY.out), (E.out.trans EY.out)⟩

set_option maxHeartbeats 1000000 in
theorem common_r {w : World} {u v : Value} {Z Y : Int} {j : Nat} (h1 : Worth w u Z j) (h2 : Worth w v Y j) (hj : j ≤ 1000) :
    Calls Tryz.prog 70 #[u, v] w (GivesZ w ((Int.gcd Z Y : Nat) : Int) j) := by
  obtain ⟨g1, A1, n1, c1, rfl⟩ := h1.shape
  have R1 := hid h1
  obtain ⟨g2, A2, n2, c2, rfl⟩ := h2.shape
  have R2 := hid h2
  have HJ := hid hj
  clear h1 h2 hj
  go_enter Tryz.func70, Tryz.ntmps70
  go_upto_region 1 with (fail)
  have E := hid ((((Ext.refl w).alloc' (.cells #[.bool g1, .slice A1 n1 c1] 49)).alloc' (.cells #[.bool g2, .slice A2 n2 c2] 49)).alloc' (.cells #[.bool false, .slice none 0 0] 49))
  have BX0 : Hid (Box (((w.alloc (.cells #[.bool g1, .slice A1 n1 c1] 49)).alloc (.cells #[.bool g2, .slice A2 n2 c2] 49)).alloc (.cells #[.bool false, .slice none 0 0] 49)) (w.heap.size) #[.bool g1, .slice A1 n1 c1] 49) := hid (((Box.at_ (w := w) #[.bool g1, .slice A1 n1 c1] 49 (by simp)).alloc (.cells #[.bool g2, .slice A2 n2 c2] 49)).alloc (.cells #[.bool false, .slice none 0 0] 49))
  have BX1 : Hid (Box (((w.alloc (.cells #[.bool g1, .slice A1 n1 c1] 49)).alloc (.cells #[.bool g2, .slice A2 n2 c2] 49)).alloc (.cells #[.bool false, .slice none 0 0] 49)) (w.heap.size + 1) #[.bool g2, .slice A2 n2 c2] 49) := hid ((Box.at_ (w := (w.alloc (.cells #[.bool g1, .slice A1 n1 c1] 49))) #[.bool g2, .slice A2 n2 c2] 49 (by simp)).alloc (.cells #[.bool false, .slice none 0 0] 49))
  have BX2 : Hid (Box (((w.alloc (.cells #[.bool g1, .slice A1 n1 c1] 49)).alloc (.cells #[.bool g2, .slice A2 n2 c2] 49)).alloc (.cells #[.bool false, .slice none 0 0] 49)) (w.heap.size + 2) #[.bool false, .slice none 0 0] 49) := hid (Box.at_ (w := ((w.alloc (.cells #[.bool g1, .slice A1 n1 c1] 49)).alloc (.cells #[.bool g2, .slice A2 n2 c2] 49))) #[.bool false, .slice none 0 0] 49 (by simp))
  replace R1 := hid (R1.out.up E.out)
  replace R2 := hid (R2.out.up E.out)
  refine wp_region_T [(0, 0), (1, 0), (2, 1), (3, 4)] (by kernel_rfl) fun wd hb => ?_
  replace E := hid (E.out.trans hb)
  replace BX0 := hid (BX0.out.up hb)
  replace BX1 := hid (BX1.out.up hb)
  replace BX2 := hid (BX2.out.up hb)
  replace R1 := hid (R1.out.up hb)
  replace R2 := hid (R2.out.up hb)
  clear hb
  have EY := hid (Ext.refl wd)
  refine WE.pure (d := some 5) rfl rfl (by rfl) (v := (.agg #[.bool g1, .slice A1 n1 c1])) (fun w' hk => ?_) ?_
  · obtain ⟨ce0, ce1⟩ := ((BX0.out.up EY.out).up hk).c2; go_simp
  simp only [Act.put, pA, pB, pC]
  refine WE.pure (d := some 6) rfl rfl (by rfl) (v := (.agg #[.bool g2, .slice A2 n2 c2])) (fun w' hk => ?_) ?_
  · obtain ⟨ce0, ce1⟩ := ((BX1.out.up EY.out).up hk).c2; go_simp
  simp only [Act.put, pA, pB, pC]
  refine WE.call (d := some 7) rfl rfl (by rfl) (by go_simp) ((gOf_w (Worth.wide (R1.out.up EY.out) (k := j) (by have := HJ.out; omega)) (Worth.wide (R2.out.up EY.out) (k := j) (by have := HJ.out; omega)) (by have := HJ.out; omega)).mono ?_)
  rintro e wn ⟨v1, rfl, x1, hb⟩
  obtain ⟨g11, A11, n11, c11, rfl⟩ := x1.shape
  refine ⟨_, rfl, hb, ?_⟩
  replace EY := hid (EY.out.trans hb)
  have Q11 := hid x1
  clear hb x1
  simp only [Act.put, pA, pB, pC]
  refine WE.store2 (g := (w.heap.size + 2)) (x := .bool g11) (y := .slice A11 n11 c11) (t := 49) rfl rfl (by rfl) (fun w hb => ?_) (BX2.out.up EY.out) (by rfl) fun ws hk hs => ?_
  · obtain ⟨ce0, ce1⟩ := hb.c2; obtain ⟨f0, f1⟩ := hb.f2; go_simp
  intro hbx
  replace E := hid ((E.out.trans EY.out).keptG hk (by simp))
  replace BX2 := hid hbx
  replace Q11 := hid (Q11.out.kz hs)
  clear hk hs hbx
  replace EY := hid (Ext.refl ws)
  refine WE.done ?_
  have r0 := (BX2.out.up EY.out).cell (o := 0) (v := .bool g11) rfl
  have r1 := (BX2.out.up EY.out).cell (o := 1) (v := .slice A11 n11 c11) rfl
  repeat go_step
  exact bodyPost_ret (v := .agg #[.bool g11, .slice A11 n11 c11]) (by simp [results, Tryz.results70, go_sem, r0, r1]) rfl ⟨_, rfl, (Q11.out.up EY.out), (E.out.trans EY.out)⟩

set_option maxHeartbeats 1000000 in
theorem rsgn_r {w : World} {u : Value} {Z : Int} {j : Nat} (h1 : Worth w u Z j) {s : Int} (hs : Z.sign = s) :
    Calls Tryz.prog 43 #[u] w (fun e w' => e = .returned (.int .i64 s) ∧ Ext w w') := by
  obtain ⟨g1, A1, n1, c1, rfl⟩ := h1.shape
  have R1 := hid h1
  have HS := hid hs
  clear h1 hs
  go_enter Tryz.func43, Tryz.ntmps43
  go_upto_region 1 with (fail)
  have E := hid ((Ext.refl w).alloc' (.cells #[.bool g1, .slice A1 n1 c1] 49))
  have BX0 : Hid (Box (w.alloc (.cells #[.bool g1, .slice A1 n1 c1] 49)) (w.heap.size) #[.bool g1, .slice A1 n1 c1] 49) := hid (Box.at_ (w := w) #[.bool g1, .slice A1 n1 c1] 49 (by simp))
  replace R1 := hid (R1.out.up E.out)
  refine wp_region_T [(0, 0), (1, 1), (2, 0)] (by kernel_rfl) fun wd hb => ?_
  replace E := hid (E.out.trans hb)
  replace BX0 := hid (BX0.out.up hb)
  replace R1 := hid (R1.out.up hb)
  clear hb
  have EY := hid (Ext.refl wd)
  refine WE.pure (d := some 3) rfl rfl (by rfl) (v := (.agg #[.bool g1, .slice A1 n1 c1])) (fun w' hk => ?_) ?_
  · obtain ⟨ce0, ce1⟩ := ((BX0.out.up EY.out).up hk).c2; go_simp
  simp only [Act.put, pA, pB, pC]
  refine WE.call (d := some 4) rfl rfl (by rfl) (by go_simp) ((sign_e (R1.out.up EY.out) (s := s) (HS.out)).mono ?_)
  rintro e wn ⟨rfl, hb⟩
  refine ⟨_, rfl, hb, ?_⟩
  replace EY := hid (EY.out.trans hb)
  clear hb
  simp only [Act.put, pA, pB, pC]
  refine WE.pure (d := some 2) rfl rfl (by rfl) (v := (.int .i64 s)) (fun w' hk => by go_simp) ?_
  simp only [Act.put, pA, pB, pC]
  refine WE.done ?_
  repeat go_step
  go_ret
  exact ⟨rfl, (E.out.trans EY.out)⟩

set_option maxHeartbeats 1000000 in
theorem compare_r {w : World} {u v : Value} {Z Y : Int} {j k : Nat} (h1 : Worth w u Z j) (h2 : Worth w v Y k) {z : Int} (hz : M.zcmp Z Y = z) :
    Calls Tryz.prog 66 #[u, v] w (fun e w' => e = .returned (.int .i64 z) ∧ Ext w w') := by
  obtain ⟨g1, A1, n1, c1, rfl⟩ := h1.shape
  have R1 := hid h1
  obtain ⟨g2, A2, n2, c2, rfl⟩ := h2.shape
  have R2 := hid h2
  have HZ := hid hz
  clear h1 h2 hz
  go_enter Tryz.func66, Tryz.ntmps66
  go_upto_region 1 with (fail)
  have E := hid (((Ext.refl w).alloc' (.cells #[.bool g1, .slice A1 n1 c1] 49)).alloc' (.cells #[.bool g2, .slice A2 n2 c2] 49))
  have BX0 : Hid (Box ((w.alloc (.cells #[.bool g1, .slice A1 n1 c1] 49)).alloc (.cells #[.bool g2, .slice A2 n2 c2] 49)) (w.heap.size) #[.bool g1, .slice A1 n1 c1] 49) := hid ((Box.at_ (w := w) #[.bool g1, .slice A1 n1 c1] 49 (by simp)).alloc (.cells #[.bool g2, .slice A2 n2 c2] 49))
  have BX1 : Hid (Box ((w.alloc (.cells #[.bool g1, .slice A1 n1 c1] 49)).alloc (.cells #[.bool g2, .slice A2 n2 c2] 49)) (w.heap.size + 1) #[.bool g2, .slice A2 n2 c2] 49) := hid (Box.at_ (w := (w.alloc (.cells #[.bool g1, .slice A1 n1 c1] 49))) #[.bool g2, .slice A2 n2 c2] 49 (by simp))
  replace R1 := hid (R1.out.up E.out)
  replace R2 := hid (R2.out.up E.out)
  refine wp_region_T [(0, 0), (1, 0), (2, 1), (3, 0)] (by kernel_rfl) fun wd hb => ?_
  replace E := hid (E.out.trans hb)
  replace BX0 := hid (BX0.out.up hb)
  replace BX1 := hid (BX1.out.up hb)
  replace R1 := hid (R1.out.up hb)
  replace R2 := hid (R2.out.up hb)
  clear hb
  have EY := hid (Ext.refl wd)
  refine WE.pure (d := some 5) rfl rfl (by rfl) (v := (.agg #[.bool g1, .slice A1 n1 c1])) (fun w' hk => ?_) ?_
  · obtain ⟨ce0, ce1⟩ := ((BX0.out.up EY.out).up hk).c2; go_simp
  simp only [Act.put, pA, pB, pC]
  refine WE.pure (d := some 6) rfl rfl (by rfl) (v := (.agg #[.bool g2, .slice A2 n2 c2])) (fun w' hk => ?_) ?_
  · obtain ⟨ce0, ce1⟩ := ((BX1.out.up EY.out).up hk).c2; go_simp
  simp only [Act.put, pA, pB, pC]
  refine WE.call (d := some 7) rfl rfl (by rfl) (by go_simp) ((cmp_w (R1.out.up EY.out) (R2.out.up EY.out) (z := z) (HZ.out)).mono ?_)
  rintro e wn ⟨rfl, hb⟩
  refine ⟨_, rfl, hb, ?_⟩
  replace EY := hid (EY.out.trans hb)
  clear hb
  simp only [Act.put, pA, pB, pC]
  refine WE.pure (d := some 4) rfl rfl (by rfl) (v := (.int .i64 z)) (fun w' hk => by go_simp) ?_
  simp only [Act.put, pA, pB, pC]
  refine WE.done ?_
  repeat go_step
  go_ret
  exact ⟨rfl, (E.out.trans EY.out)⟩

set_option maxHeartbeats 1000000 in
theorem by_r {w : World} {u v : Value} {Z Y : Int} {j k : Nat} (h1 : Worth w u Z j) (h2 : Worth w v Y k) (hj : j ≤ 1000) (hk : k ≤ 1000) :
    Calls Tryz.prog 65 #[u, v] w (GivesZ w (Z.fdiv Y) (max j 3 + 1)) := by
  obtain ⟨g1, A1, n1, c1, rfl⟩ := h1.shape
  have R1 := hid h1
  obtain ⟨g2, A2, n2, c2, rfl⟩ := h2.shape
  have R2 := hid h2
  have HJ := hid hj
  have HK := hid hk
  clear h1 h2 hj hk
  go_enter Tryz.func65, Tryz.ntmps65
  go_upto_region 1 with (fail)
  have E := hid ((((Ext.refl w).alloc' (.cells #[.bool g1, .slice A1 n1 c1] 49)).alloc' (.cells #[.bool g2, .slice A2 n2 c2] 49)).alloc' (.cells #[.bool false, .slice none 0 0] 49))
  have BX0 : Hid (Box (((w.alloc (.cells #[.bool g1, .slice A1 n1 c1] 49)).alloc (.cells #[.bool g2, .slice A2 n2 c2] 49)).alloc (.cells #[.bool false, .slice none 0 0] 49)) (w.heap.size) #[.bool g1, .slice A1 n1 c1] 49) := hid (((Box.at_ (w := w) #[.bool g1, .slice A1 n1 c1] 49 (by simp)).alloc (.cells #[.bool g2, .slice A2 n2 c2] 49)).alloc (.cells #[.bool false, .slice none 0 0] 49))
  have BX1 : Hid (Box (((w.alloc (.cells #[.bool g1, .slice A1 n1 c1] 49)).alloc (.cells #[.bool g2, .slice A2 n2 c2] 49)).alloc (.cells #[.bool false, .slice none 0 0] 49)) (w.heap.size + 1) #[.bool g2, .slice A2 n2 c2] 49) := hid ((Box.at_ (w := (w.alloc (.cells #[.bool g1, .slice A1 n1 c1] 49))) #[.bool g2, .slice A2 n2 c2] 49 (by simp)).alloc (.cells #[.bool false, .slice none 0 0] 49))
  have BX2 : Hid (Box (((w.alloc (.cells #[.bool g1, .slice A1 n1 c1] 49)).alloc (.cells #[.bool g2, .slice A2 n2 c2] 49)).alloc (.cells #[.bool false, .slice none 0 0] 49)) (w.heap.size + 2) #[.bool false, .slice none 0 0] 49) := hid (Box.at_ (w := ((w.alloc (.cells #[.bool g1, .slice A1 n1 c1] 49)).alloc (.cells #[.bool g2, .slice A2 n2 c2] 49))) #[.bool false, .slice none 0 0] 49 (by simp))
  replace R1 := hid (R1.out.up E.out)
  replace R2 := hid (R2.out.up E.out)
  refine wp_region_T [(0, 0), (1, 0), (2, 1), (3, 0), (4, 0), (5, 0), (6, 1), (7, 1), (8, 4), (9, 4)] (by kernel_rfl) fun wd hb => ?_
  replace E := hid (E.out.trans hb)
  replace BX0 := hid (BX0.out.up hb)
  replace BX1 := hid (BX1.out.up hb)
  replace BX2 := hid (BX2.out.up hb)
  replace R1 := hid (R1.out.up hb)
  replace R2 := hid (R2.out.up hb)
  clear hb
  have EY := hid (Ext.refl wd)
  refine WE.pure (d := some 8) rfl rfl (by rfl) (v := (.agg #[.bool g1, .slice A1 n1 c1])) (fun w' hk => ?_) ?_
  · obtain ⟨ce0, ce1⟩ := ((BX0.out.up EY.out).up hk).c2; go_simp
  simp only [Act.put, pA, pB, pC]
  refine WE.pure (d := some 9) rfl rfl (by rfl) (v := (.agg #[.bool g2, .slice A2 n2 c2])) (fun w' hk => ?_) ?_
  · obtain ⟨ce0, ce1⟩ := ((BX1.out.up EY.out).up hk).c2; go_simp
  simp only [Act.put, pA, pB, pC]
  refine WE.call (d := some 10) rfl rfl (by rfl) (by go_simp) ((floor_w (R1.out.up EY.out) (R2.out.up EY.out) (by have := HJ.out; have := HK.out; omega) (by have := HJ.out; have := HK.out; omega)).mono ?_)
  rintro e wn ⟨v1, v2, rfl, x1, x2, hb⟩
  obtain ⟨g11, A11, n11, c11, rfl⟩ := x1.shape
  obtain ⟨g12, A12, n12, c12, rfl⟩ := x2.shape
  refine ⟨_, rfl, hb, ?_⟩
  replace EY := hid (EY.out.trans hb)
  have Q11 := hid x1
  clear hb x1 x2
  simp only [Act.put, pA, pB, pC]
  refine WE.pure (d := some 7) rfl rfl (by rfl) (v := (.tuple #[(.agg #[.bool g11, .slice A11 n11 c11]), (.agg #[.bool g12, .slice A12 n12 c12])])) (fun w' hk => by go_simp) ?_
  simp only [Act.put, pA, pB, pC]
  refine WE.pure (d := some 11) rfl rfl (by rfl) (v := (.agg #[.bool g11, .slice A11 n11 c11])) (fun w' hk => by go_simp) ?_
  simp only [Act.put, pA, pB, pC]
  refine WE.pure (d := some 12) rfl rfl (by rfl) (v := (.agg #[.bool g12, .slice A12 n12 c12])) (fun w' hk => by go_simp) ?_
  simp only [Act.put, pA, pB, pC]
  refine WE.new (d := some 5) (cs := #[.bool false, .slice none 0 0]) (t := 24) (v := fun g => (.pointer (some ⟨g, 0, none⟩))) rfl rfl (by rfl) (fun w => by go_simp) fun gV5 wv hx0 hbox hge => ?_
  have HNV5BX2 := hid (show gV5 ≠ (w.heap.size + 2) by have := (BX2.out.up EY.out).lt; omega)
  have HGV5 := hid (show w.heap.size ≤ gV5 by have := (E.out.trans EY.out).size; omega)
  replace EY := hid (EY.out.trans hx0)
  replace Q11 := hid (Q11.out.up hx0)
  have V5 : Hid (Box wv gV5 #[.bool false, .slice none 0 0] 24) := hid hbox
  clear hx0 hbox hge
  simp only [Act.put, pA, pB, pC]
  refine WE.new (d := some 6) (cs := #[.bool false, .slice none 0 0]) (t := 24) (v := fun g => (.pointer (some ⟨g, 0, none⟩))) rfl rfl (by rfl) (fun w => by go_simp) fun gV6 wv hx0 hbox hge => ?_
  have HNV6BX2 := hid (show gV6 ≠ (w.heap.size + 2) by have := (BX2.out.up EY.out).lt; omega)
  have HNV6V5 := hid (show gV6 ≠ gV5 by have := V5.out.lt; omega)
  have HGV6 := hid (show w.heap.size ≤ gV6 by have := (E.out.trans EY.out).size; omega)
  replace EY := hid (EY.out.trans hx0)
  replace V5 := hid (V5.out.up hx0)
  replace Q11 := hid (Q11.out.up hx0)
  have V6 : Hid (Box wv gV6 #[.bool false, .slice none 0 0] 24) := hid hbox
  clear hx0 hbox hge
  simp only [Act.put, pA, pB, pC]
  refine WE.store2 (g := gV5) (x := .bool g11) (y := .slice A11 n11 c11) (t := 24) rfl rfl (by rfl) (fun w hb => ?_) V5.out (by rfl) fun ws hk hs => ?_
  · obtain ⟨ce0, ce1⟩ := hb.c2; obtain ⟨f0, f1⟩ := hb.f2; go_simp
  intro hbx
  replace E := hid ((E.out.trans EY.out).keptG hk HGV5.out)
  replace BX2 := hid ((BX2.out.up EY.out).kept hk (by simpa using HNV5BX2.out.symm))
  replace V5 := hid hbx
  replace V6 := hid (V6.out.kept hk (by simpa using HNV6V5.out))
  replace Q11 := hid (Q11.out.kz hs)
  clear hk hs hbx
  replace EY := hid (Ext.refl ws)
  refine WE.store2 (g := gV6) (x := .bool g12) (y := .slice A12 n12 c12) (t := 24) rfl rfl (by rfl) (fun w hb => ?_) (V6.out.up EY.out) (by rfl) fun ws hk hs => ?_
  · obtain ⟨ce0, ce1⟩ := hb.c2; obtain ⟨f0, f1⟩ := hb.f2; go_simp
  intro hbx
  replace E := hid ((E.out.trans EY.out).keptG hk HGV6.out)
  replace BX2 := hid ((BX2.out.up EY.out).kept hk (by simpa using HNV6BX2.out.symm))
  replace V5 := hid ((V5.out.up EY.out).kept hk (by simpa using HNV6V5.out.symm))
  replace Q11 := hid ((Q11.out.up EY.out).kz hs)
  clear hk hs hbx
  replace EY := hid (Ext.refl ws)
  refine WE.done ?_
  go_upto_region 2 with (fail)
  refine wp_region_T [(0, 0), (1, 4)] (by kernel_rfl) fun wd hb => ?_
  replace EY := hid (EY.out.trans hb)
  clear hb
  refine WE.pure (d := some 13) rfl rfl (by rfl) (v := (.agg #[.bool g11, .slice A11 n11 c11])) (fun w' hk => ?_) ?_
  · obtain ⟨ce0, ce1⟩ := ((V5.out.up EY.out).up hk).c2; go_simp
  simp only [Act.put, pA, pB, pC]
  refine WE.store2 (g := (w.heap.size + 2)) (x := .bool g11) (y := .slice A11 n11 c11) (t := 49) rfl rfl (by rfl) (fun w hb => ?_) (BX2.out.up EY.out) (by rfl) fun ws hk hs => ?_
  · obtain ⟨ce0, ce1⟩ := hb.c2; obtain ⟨f0, f1⟩ := hb.f2; go_simp
  intro hbx
  replace E := hid ((E.out.trans EY.out).keptG hk (by simp))
  replace BX2 := hid hbx
  replace Q11 := hid ((Q11.out.up EY.out).kz hs)
  clear hk hs hbx
  replace EY := hid (Ext.refl ws)
  refine WE.done ?_
  have r0 := (BX2.out.up EY.out).cell (o := 0) (v := .bool g11) rfl
  have r1 := (BX2.out.up EY.out).cell (o := 1) (v := .slice A11 n11 c11) rfl
  repeat go_step
  exact bodyPost_ret (v := .agg #[.bool g11, .slice A11 n11 c11]) (by simp [results, Tryz.results65, go_sem, r0, r1]) rfl ⟨_, rfl, (Q11.out.up EY.out), (E.out.trans EY.out)⟩

set_option maxHeartbeats 1000000 in
theorem one_r (w : World) :
    Calls Tryz.prog 67 #[] w (GivesZ w 1 1) := by
  go_enter Tryz.func67, Tryz.ntmps67
  go_upto_region 1 with (fail)
  have E := hid ((Ext.refl w).alloc' (.cells #[.bool false, .slice none 0 0] 49))
  have BX0 : Hid (Box (w.alloc (.cells #[.bool false, .slice none 0 0] 49)) (w.heap.size) #[.bool false, .slice none 0 0] 49) := hid (Box.at_ (w := w) #[.bool false, .slice none 0 0] 49 (by simp))
  refine wp_region_T [(0, 1), (1, 4)] (by kernel_rfl) fun wd hb => ?_
  replace E := hid (E.out.trans hb)
  replace BX0 := hid (BX0.out.up hb)
  clear hb
  have EY := hid (Ext.refl wd)
  refine WE.call (d := some 1) rfl rfl (by rfl) (by go_simp) ((of_z (n := (1)) (by decide) (by decide) _).mono ?_)
  rintro e wn ⟨v1, rfl, x1, hb⟩
  obtain ⟨g11, A11, n11, c11, rfl⟩ := x1.shape
  refine ⟨_, rfl, hb, ?_⟩
  replace EY := hid (EY.out.trans hb)
  have Q11 := hid x1
  clear hb x1
  simp only [Act.put, pA, pB, pC]
  refine WE.store2 (g := (w.heap.size)) (x := .bool g11) (y := .slice A11 n11 c11) (t := 49) rfl rfl (by rfl) (fun w hb => ?_) (BX0.out.up EY.out) (by rfl) fun ws hk hs => ?_
  · obtain ⟨ce0, ce1⟩ := hb.c2; obtain ⟨f0, f1⟩ := hb.f2; go_simp
  intro hbx
  replace E := hid ((E.out.trans EY.out).keptG hk (by simp))
  replace BX0 := hid hbx
  replace Q11 := hid (Q11.out.kz hs)
  clear hk hs hbx
  replace EY := hid (Ext.refl ws)
  refine WE.done ?_
  have r0 := (BX0.out.up EY.out).cell (o := 0) (v := .bool g11) rfl
  have r1 := (BX0.out.up EY.out).cell (o := 1) (v := .slice A11 n11 c11) rfl
  repeat go_step
  exact bodyPost_ret (v := .agg #[.bool g11, .slice A11 n11 c11]) (by simp [results, Tryz.results67, go_sem, r0, r1]) rfl ⟨_, rfl, (Q11.out.up EY.out).one rfl, (E.out.trans EY.out)⟩

set_option maxHeartbeats 1000000 in
theorem told_r {w : World} {u : Value} {x : Rat} {k : Nat} (h1 : InR w u x k) :
    Calls Tryz.prog 42 #[u] w (GivesR w x k) := by
  obtain ⟨g1, A1, n1, c1, B1, m1, d1, rfl, p1, q1⟩ := h1
  have P1 := hid p1
  have D1 := hid q1
  clear p1 q1
  go_enter Tryz.func42, Tryz.ntmps42
  go_upto_region 1 with (fail)
  have E := hid (((Ext.refl w).alloc' (.cells #[.bool g1, .slice A1 n1 c1, .bool false, .slice B1 m1 d1] 51)).alloc' (.cells #[.bool false, .slice none 0 0, .slice none 0 0] 26))
  have BX0 : Hid (Box ((w.alloc (.cells #[.bool g1, .slice A1 n1 c1, .bool false, .slice B1 m1 d1] 51)).alloc (.cells #[.bool false, .slice none 0 0, .slice none 0 0] 26)) (w.heap.size) #[.bool g1, .slice A1 n1 c1, .bool false, .slice B1 m1 d1] 51) := hid ((Box.at_ (w := w) #[.bool g1, .slice A1 n1 c1, .bool false, .slice B1 m1 d1] 51 (by simp)).alloc (.cells #[.bool false, .slice none 0 0, .slice none 0 0] 26))
  have BX1 : Hid (Box ((w.alloc (.cells #[.bool g1, .slice A1 n1 c1, .bool false, .slice B1 m1 d1] 51)).alloc (.cells #[.bool false, .slice none 0 0, .slice none 0 0] 26)) (w.heap.size + 1) #[.bool false, .slice none 0 0, .slice none 0 0] 26) := hid (Box.at_ (w := (w.alloc (.cells #[.bool g1, .slice A1 n1 c1, .bool false, .slice B1 m1 d1] 51))) #[.bool false, .slice none 0 0, .slice none 0 0] 26 (by simp))
  replace P1 := hid (P1.out.up E.out)
  replace D1 := hid (D1.out.up E.out)
  refine wp_region_T [(0, 0), (1, 0), (2, 0), (3, 0), (4, 0), (5, 0), (6, 4)] (by kernel_rfl) fun wd hb => ?_
  replace E := hid (E.out.trans hb)
  replace BX0 := hid (BX0.out.up hb)
  replace BX1 := hid (BX1.out.up hb)
  replace P1 := hid (P1.out.up hb)
  replace D1 := hid (D1.out.up hb)
  clear hb
  have EY := hid (Ext.refl wd)
  refine WE.pure (d := some 3) rfl rfl (by rfl) (v := (.pointer (some ⟨(w.heap.size), 0, none⟩))) (fun w' hk => by go_simp) ?_
  simp only [Act.put, pA, pB, pC]
  refine WE.pure (d := some 4) rfl rfl (by rfl) (v := (.agg #[.bool g1, .slice A1 n1 c1])) (fun w' hk => ?_) ?_
  · obtain ⟨ce0, ce1, ce2, ce3⟩ := ((BX0.out.up EY.out).up hk).c4; go_simp
  simp only [Act.put, pA, pB, pC]
  refine WE.pure (d := some 5) rfl rfl (by rfl) (v := (.pointer (some ⟨(w.heap.size), 2, none⟩))) (fun w' hk => by go_simp) ?_
  simp only [Act.put, pA, pB, pC]
  refine WE.pure (d := some 6) rfl rfl (by rfl) (v := (.pointer (some ⟨(w.heap.size), 3, none⟩))) (fun w' hk => by go_simp) ?_
  simp only [Act.put, pA, pB, pC]
  refine WE.pure (d := some 7) rfl rfl (by rfl) (v := (.slice B1 m1 d1)) (fun w' hk => ?_) ?_
  · have ce3 := hk.cell ((BX0.out.up EY.out).cell (o := 3) (v := .slice B1 m1 d1) rfl); go_simp
  simp only [Act.put, pA, pB, pC]
  refine WE.pure (d := some 8) rfl rfl (by rfl) (v := (.agg #[.bool g1, .slice A1 n1 c1, .slice B1 m1 d1])) (fun w' hk => by go_simp) ?_
  simp only [Act.put, pA, pB, pC]
  refine WE.store3 (g := (w.heap.size + 1)) (x := .bool g1) (y := .slice A1 n1 c1) (z := .slice B1 m1 d1) (t := 26) rfl rfl (by rfl) (fun w hb => ?_) (BX1.out.up EY.out) (by rfl) fun ws hk hs => ?_
  · obtain ⟨ce0, ce1, ce2⟩ := hb.c3; obtain ⟨f0, f1, f2⟩ := hb.f3; go_simp
  intro hbx
  replace E := hid ((E.out.trans EY.out).keptG hk (by simp))
  replace BX1 := hid hbx
  replace P1 := hid ((P1.out.up EY.out).kz hs)
  replace D1 := hid ((D1.out.up EY.out).kz hs)
  clear hk hs hbx
  replace EY := hid (Ext.refl ws)
  refine WE.done ?_
  have r0 := (BX1.out.up EY.out).cell (o := 0) (v := .bool g1) rfl
  have r1 := (BX1.out.up EY.out).cell (o := 1) (v := .slice A1 n1 c1) rfl
  have r2 := (BX1.out.up EY.out).cell (o := 2) (v := .slice B1 m1 d1) rfl
  repeat go_step
  exact bodyPost_ret (v := .agg #[.bool g1, .slice A1 n1 c1, .slice B1 m1 d1]) (by simp [results, Tryz.results42, go_sem, r0, r1, r2]) rfl ⟨_, rfl, IsR.mk (P1.out.up EY.out) (D1.out.up EY.out), (E.out.trans EY.out)⟩

set_option maxHeartbeats 1000000 in
theorem fcompare_unlike {w : World} {u v : Value} {x y : Rat} {k : Nat} (h1 : InR w u x k) (h2 : InR w v y k) (hk : k ≤ 63) (hn : x.num.sign ≠ y.num.sign) {z : Int} (hz : M.rcmp x y = z) :
    Calls Tryz.prog 58 #[u, v] w (fun e w' => e = .returned (.int .i64 z) ∧ Ext w w') := by
  obtain ⟨g1, A1, n1, c1, B1, m1, d1, rfl, p1, q1⟩ := h1
  have P1 := hid p1
  obtain ⟨g2, A2, n2, c2, B2, m2, d2, rfl, p2, q2⟩ := h2
  have P2 := hid p2
  have HN := hid hn
  have HZ := hid hz
  obtain ⟨s1, hs1⟩ : ∃ s : Int, x.num.sign = s := ⟨_, rfl⟩
  obtain ⟨s2, hs2⟩ : ∃ s : Int, y.num.sign = s := ⟨_, rfl⟩
  have hne : (s1 != s2) = true := by rw [← hs1, ← hs2]; simpa using hn
  have HS1 := hid hs1
  have HS2 := hid hs2
  clear hs1 hs2
  clear p1 q1 p2 q2 hk hn hz
  go_enter Tryz.func58, Tryz.ntmps58
  go_upto_region 1 with (fail)
  have E := hid (((Ext.refl w).alloc' (.cells #[.bool g1, .slice A1 n1 c1, .bool false, .slice B1 m1 d1] 51)).alloc' (.cells #[.bool g2, .slice A2 n2 c2, .bool false, .slice B2 m2 d2] 51))
  have BX0 : Hid (Box ((w.alloc (.cells #[.bool g1, .slice A1 n1 c1, .bool false, .slice B1 m1 d1] 51)).alloc (.cells #[.bool g2, .slice A2 n2 c2, .bool false, .slice B2 m2 d2] 51)) (w.heap.size) #[.bool g1, .slice A1 n1 c1, .bool false, .slice B1 m1 d1] 51) := hid ((Box.at_ (w := w) #[.bool g1, .slice A1 n1 c1, .bool false, .slice B1 m1 d1] 51 (by simp)).alloc (.cells #[.bool g2, .slice A2 n2 c2, .bool false, .slice B2 m2 d2] 51))
  have BX1 : Hid (Box ((w.alloc (.cells #[.bool g1, .slice A1 n1 c1, .bool false, .slice B1 m1 d1] 51)).alloc (.cells #[.bool g2, .slice A2 n2 c2, .bool false, .slice B2 m2 d2] 51)) (w.heap.size + 1) #[.bool g2, .slice A2 n2 c2, .bool false, .slice B2 m2 d2] 51) := hid (Box.at_ (w := (w.alloc (.cells #[.bool g1, .slice A1 n1 c1, .bool false, .slice B1 m1 d1] 51))) #[.bool g2, .slice A2 n2 c2, .bool false, .slice B2 m2 d2] 51 (by simp))
  replace P1 := hid (P1.out.up E.out)
  replace P2 := hid (P2.out.up E.out)
  refine wp_region_E [(0, 0), (1, 0), (3, 0), (4, 0), (2, 1), (5, 1), (6, 0)] (fun _ => (0, #[])) rfl (by kernel_rfl) (by intro j hj; cases hj) (fun _ _ d _ _ => by cases d <;> exact Iff.rfl) fun wd hb => ?_
  replace E := hid (E.out.trans hb)
  replace BX0 := hid (BX0.out.up hb)
  replace BX1 := hid (BX1.out.up hb)
  replace P1 := hid (P1.out.up hb)
  replace P2 := hid (P2.out.up hb)
  clear hb
  have EY := hid (Ext.refl wd)
  refine WE.pure (d := some 5) rfl rfl (by rfl) (v := (.pointer (some ⟨(w.heap.size), 0, none⟩))) (fun w' hk => by go_simp) ?_
  simp only [Act.put, pA, pB, pC]
  refine WE.pure (d := some 6) rfl rfl (by rfl) (v := (.agg #[.bool g1, .slice A1 n1 c1])) (fun w' hk => ?_) ?_
  · obtain ⟨ce0, ce1, ce2, ce3⟩ := ((BX0.out.up EY.out).up hk).c4; go_simp
  simp only [Act.put, pA, pB, pC]
  refine WE.pure (d := some 8) rfl rfl (by rfl) (v := (.pointer (some ⟨(w.heap.size + 1), 0, none⟩))) (fun w' hk => by go_simp) ?_
  simp only [Act.put, pA, pB, pC]
  refine WE.pure (d := some 9) rfl rfl (by rfl) (v := (.agg #[.bool g2, .slice A2 n2 c2])) (fun w' hk => ?_) ?_
  · obtain ⟨ce0, ce1, ce2, ce3⟩ := ((BX1.out.up EY.out).up hk).c4; go_simp
  simp only [Act.put, pA, pB, pC]
  refine WE.call (d := some 7) rfl rfl (by rfl) (by go_simp) ((rsgn_r (P1.out.up EY.out).worth (s := s1) (HS1.out)).mono ?_)
  rintro e wn ⟨rfl, hb⟩
  refine ⟨_, rfl, hb, ?_⟩
  replace EY := hid (EY.out.trans hb)
  clear hb
  simp only [Act.put, pA, pB, pC]
  refine WE.call (d := some 10) rfl rfl (by rfl) (by go_simp) ((rsgn_r (P2.out.up EY.out).worth (s := s2) (HS2.out)).mono ?_)
  rintro e wn ⟨rfl, hb⟩
  refine ⟨_, rfl, hb, ?_⟩
  replace EY := hid (EY.out.trans hb)
  clear hb
  simp only [Act.put, pA, pB, pC]
  refine WE.pure (d := some 11) rfl rfl (by rfl) (v := (.bool true)) (fun w' hk => by go_simp) ?_
  simp only [Act.put, pA, pB, pC]
  refine WE.done ?_
  go_upto_region 2 with (fail)
  refine wp_region_T [(0, 0), (1, 0), (2, 0), (3, 0), (4, 1), (5, 0)] (by kernel_rfl) fun wd hb => ?_
  replace EY := hid (EY.out.trans hb)
  clear hb
  refine WE.pure (d := some 12) rfl rfl (by rfl) (v := (.pointer (some ⟨(w.heap.size), 0, none⟩))) (fun w' hk => by go_simp) ?_
  simp only [Act.put, pA, pB, pC]
  refine WE.pure (d := some 13) rfl rfl (by rfl) (v := (.agg #[.bool g1, .slice A1 n1 c1])) (fun w' hk => ?_) ?_
  · obtain ⟨ce0, ce1, ce2, ce3⟩ := ((BX0.out.up EY.out).up hk).c4; go_simp
  simp only [Act.put, pA, pB, pC]
  refine WE.pure (d := some 14) rfl rfl (by rfl) (v := (.pointer (some ⟨(w.heap.size + 1), 0, none⟩))) (fun w' hk => by go_simp) ?_
  simp only [Act.put, pA, pB, pC]
  refine WE.pure (d := some 15) rfl rfl (by rfl) (v := (.agg #[.bool g2, .slice A2 n2 c2])) (fun w' hk => ?_) ?_
  · obtain ⟨ce0, ce1, ce2, ce3⟩ := ((BX1.out.up EY.out).up hk).c4; go_simp
  simp only [Act.put, pA, pB, pC]
  refine WE.call (d := some 16) rfl rfl (by rfl) (by go_simp) ((compare_r (P1.out.up EY.out).worth (P2.out.up EY.out).worth (z := z) (by rw [M.rcmp_unlike HN.out]; exact HZ.out)).mono ?_)
  rintro e wn ⟨rfl, hb⟩
  refine ⟨_, rfl, hb, ?_⟩
  replace EY := hid (EY.out.trans hb)
  clear hb
  simp only [Act.put, pA, pB, pC]
  refine WE.pure (d := some 4) rfl rfl (by rfl) (v := (.int .i64 z)) (fun w' hk => by go_simp) ?_
  simp only [Act.put, pA, pB, pC]
  refine WE.done ?_
  repeat go_step
  go_ret
  exact ⟨rfl, (E.out.trans EY.out)⟩

set_option maxHeartbeats 1000000 in
theorem fcompare_like {w : World} {u v : Value} {x y : Rat} {k : Nat} (h1 : InR w u x k) (h2 : InR w v y k) (hk : k ≤ 63) (hn : x.num.sign = y.num.sign) {z : Int} (hz : M.rcmp x y = z) :
    Calls Tryz.prog 58 #[u, v] w (fun e w' => e = .returned (.int .i64 z) ∧ Ext w w') := by
  obtain ⟨g1, A1, n1, c1, B1, m1, d1, rfl, p1, q1⟩ := h1
  have P1 := hid p1
  have D1 := hid q1
  obtain ⟨g2, A2, n2, c2, B2, m2, d2, rfl, p2, q2⟩ := h2
  have P2 := hid p2
  have D2 := hid q2
  have HK := hid hk
  have HZ := hid hz
  obtain ⟨s1, hs1⟩ : ∃ s : Int, x.num.sign = s := ⟨_, rfl⟩
  obtain ⟨s2, hs2⟩ : ∃ s : Int, y.num.sign = s := ⟨_, rfl⟩
  have hne : (s1 != s2) = false := by rw [← hs1, ← hs2]; simpa using hn
  have HS1 := hid hs1
  have HS2 := hid hs2
  clear hs1 hs2
  clear p1 q1 p2 q2 hk hn hz
  go_enter Tryz.func58, Tryz.ntmps58
  go_upto_region 1 with (fail)
  have E := hid (((Ext.refl w).alloc' (.cells #[.bool g1, .slice A1 n1 c1, .bool false, .slice B1 m1 d1] 51)).alloc' (.cells #[.bool g2, .slice A2 n2 c2, .bool false, .slice B2 m2 d2] 51))
  have BX0 : Hid (Box ((w.alloc (.cells #[.bool g1, .slice A1 n1 c1, .bool false, .slice B1 m1 d1] 51)).alloc (.cells #[.bool g2, .slice A2 n2 c2, .bool false, .slice B2 m2 d2] 51)) (w.heap.size) #[.bool g1, .slice A1 n1 c1, .bool false, .slice B1 m1 d1] 51) := hid ((Box.at_ (w := w) #[.bool g1, .slice A1 n1 c1, .bool false, .slice B1 m1 d1] 51 (by simp)).alloc (.cells #[.bool g2, .slice A2 n2 c2, .bool false, .slice B2 m2 d2] 51))
  have BX1 : Hid (Box ((w.alloc (.cells #[.bool g1, .slice A1 n1 c1, .bool false, .slice B1 m1 d1] 51)).alloc (.cells #[.bool g2, .slice A2 n2 c2, .bool false, .slice B2 m2 d2] 51)) (w.heap.size + 1) #[.bool g2, .slice A2 n2 c2, .bool false, .slice B2 m2 d2] 51) := hid (Box.at_ (w := (w.alloc (.cells #[.bool g1, .slice A1 n1 c1, .bool false, .slice B1 m1 d1] 51))) #[.bool g2, .slice A2 n2 c2, .bool false, .slice B2 m2 d2] 51 (by simp))
  replace P1 := hid (P1.out.up E.out)
  replace D1 := hid (D1.out.up E.out)
  replace P2 := hid (P2.out.up E.out)
  replace D2 := hid (D2.out.up E.out)
  refine wp_region_E [(0, 0), (1, 0), (3, 0), (4, 0), (2, 1), (5, 1), (6, 0)] (fun _ => (0, #[])) rfl (by kernel_rfl) (by intro j hj; cases hj) (fun _ _ d _ _ => by cases d <;> exact Iff.rfl) fun wd hb => ?_
  replace E := hid (E.out.trans hb)
  replace BX0 := hid (BX0.out.up hb)
  replace BX1 := hid (BX1.out.up hb)
  replace P1 := hid (P1.out.up hb)
  replace D1 := hid (D1.out.up hb)
  replace P2 := hid (P2.out.up hb)
  replace D2 := hid (D2.out.up hb)
  clear hb
  have EY := hid (Ext.refl wd)
  refine WE.pure (d := some 5) rfl rfl (by rfl) (v := (.pointer (some ⟨(w.heap.size), 0, none⟩))) (fun w' hk => by go_simp) ?_
  simp only [Act.put, pA, pB, pC]
  refine WE.pure (d := some 6) rfl rfl (by rfl) (v := (.agg #[.bool g1, .slice A1 n1 c1])) (fun w' hk => ?_) ?_
  · obtain ⟨ce0, ce1, ce2, ce3⟩ := ((BX0.out.up EY.out).up hk).c4; go_simp
  simp only [Act.put, pA, pB, pC]
  refine WE.pure (d := some 8) rfl rfl (by rfl) (v := (.pointer (some ⟨(w.heap.size + 1), 0, none⟩))) (fun w' hk => by go_simp) ?_
  simp only [Act.put, pA, pB, pC]
  refine WE.pure (d := some 9) rfl rfl (by rfl) (v := (.agg #[.bool g2, .slice A2 n2 c2])) (fun w' hk => ?_) ?_
  · obtain ⟨ce0, ce1, ce2, ce3⟩ := ((BX1.out.up EY.out).up hk).c4; go_simp
  simp only [Act.put, pA, pB, pC]
  refine WE.call (d := some 7) rfl rfl (by rfl) (by go_simp) ((rsgn_r (P1.out.up EY.out).worth (s := s1) (HS1.out)).mono ?_)
  rintro e wn ⟨rfl, hb⟩
  refine ⟨_, rfl, hb, ?_⟩
  replace EY := hid (EY.out.trans hb)
  clear hb
  simp only [Act.put, pA, pB, pC]
  refine WE.call (d := some 10) rfl rfl (by rfl) (by go_simp) ((rsgn_r (P2.out.up EY.out).worth (s := s2) (HS2.out)).mono ?_)
  rintro e wn ⟨rfl, hb⟩
  refine ⟨_, rfl, hb, ?_⟩
  replace EY := hid (EY.out.trans hb)
  clear hb
  simp only [Act.put, pA, pB, pC]
  refine WE.pure (d := some 11) rfl rfl (by rfl) (v := (.bool false)) (fun w' hk => by go_simp) ?_
  simp only [Act.put, pA, pB, pC]
  refine WE.done ?_
  go_upto_region 3 with (fail)
  refine wp_region_E [(0, 0), (1, 0), (2, 0), (3, 0), (5, 0), (6, 0), (7, 0), (8, 0), (4, 1), (9, 1), (10, 1), (11, 0)] (fun _ => (0, #[])) rfl (by kernel_rfl) (by intro j hj; cases hj) (fun _ _ d _ _ => by cases d <;> exact Iff.rfl) fun wd hb => ?_
  replace EY := hid (EY.out.trans hb)
  clear hb
  refine WE.pure (d := some 17) rfl rfl (by rfl) (v := (.pointer (some ⟨(w.heap.size), 0, none⟩))) (fun w' hk => by go_simp) ?_
  simp only [Act.put, pA, pB, pC]
  refine WE.pure (d := some 18) rfl rfl (by rfl) (v := (.agg #[.bool g1, .slice A1 n1 c1])) (fun w' hk => ?_) ?_
  · obtain ⟨ce0, ce1, ce2, ce3⟩ := ((BX0.out.up EY.out).up hk).c4; go_simp
  simp only [Act.put, pA, pB, pC]
  refine WE.pure (d := some 19) rfl rfl (by rfl) (v := (.pointer (some ⟨(w.heap.size + 1), 2, none⟩))) (fun w' hk => by go_simp) ?_
  simp only [Act.put, pA, pB, pC]
  refine WE.pure (d := some 20) rfl rfl (by rfl) (v := (.agg #[.bool false, .slice B2 m2 d2])) (fun w' hk => ?_) ?_
  · obtain ⟨ce0, ce1, ce2, ce3⟩ := ((BX1.out.up EY.out).up hk).c4; go_simp
  simp only [Act.put, pA, pB, pC]
  refine WE.pure (d := some 22) rfl rfl (by rfl) (v := (.pointer (some ⟨(w.heap.size + 1), 0, none⟩))) (fun w' hk => by go_simp) ?_
  simp only [Act.put, pA, pB, pC]
  refine WE.pure (d := some 23) rfl rfl (by rfl) (v := (.agg #[.bool g2, .slice A2 n2 c2])) (fun w' hk => ?_) ?_
  · obtain ⟨ce0, ce1, ce2, ce3⟩ := ((BX1.out.up EY.out).up hk).c4; go_simp
  simp only [Act.put, pA, pB, pC]
  refine WE.pure (d := some 24) rfl rfl (by rfl) (v := (.pointer (some ⟨(w.heap.size), 2, none⟩))) (fun w' hk => by go_simp) ?_
  simp only [Act.put, pA, pB, pC]
  refine WE.pure (d := some 25) rfl rfl (by rfl) (v := (.agg #[.bool false, .slice B1 m1 d1])) (fun w' hk => ?_) ?_
  · obtain ⟨ce0, ce1, ce2, ce3⟩ := ((BX0.out.up EY.out).up hk).c4; go_simp
  simp only [Act.put, pA, pB, pC]
  refine WE.call (d := some 21) rfl rfl (by rfl) (by go_simp) ((times_r (P1.out.up EY.out).worth (D2.out.up EY.out).worth (by have := HK.out; omega) (by have := HK.out; omega)).mono ?_)
  rintro e wn ⟨v1, rfl, x1, hb⟩
  obtain ⟨g11, A11, n11, c11, rfl⟩ := x1.shape
  refine ⟨_, rfl, hb, ?_⟩
  replace EY := hid (EY.out.trans hb)
  have Q11 := hid x1
  clear hb x1
  simp only [Act.put, pA, pB, pC]
  refine WE.call (d := some 26) rfl rfl (by rfl) (by go_simp) ((times_r (P2.out.up EY.out).worth (D1.out.up EY.out).worth (by have := HK.out; omega) (by have := HK.out; omega)).mono ?_)
  rintro e wn ⟨v1, rfl, x1, hb⟩
  obtain ⟨g12, A12, n12, c12, rfl⟩ := x1.shape
  refine ⟨_, rfl, hb, ?_⟩
  replace EY := hid (EY.out.trans hb)
  replace Q11 := hid (Q11.out.up hb)
  have Q12 := hid x1
  clear hb x1
  simp only [Act.put, pA, pB, pC]
  refine WE.call (d := some 27) rfl rfl (by rfl) (by go_simp) ((compare_r Q11.out.worth Q12.out.worth (z := z) (HZ.out)).mono ?_)
  rintro e wn ⟨rfl, hb⟩
  refine ⟨_, rfl, hb, ?_⟩
  replace EY := hid (EY.out.trans hb)
  clear hb
  simp only [Act.put, pA, pB, pC]
  clear Q11
  clear Q12
  refine WE.pure (d := some 4) rfl rfl (by rfl) (v := (.int .i64 z)) (fun w' hk => by go_simp) ?_
  simp only [Act.put, pA, pB, pC]
  refine WE.done ?_
  repeat go_step
  go_ret
  exact ⟨rfl, (E.out.trans EY.out)⟩

theorem fcompare_r {w : World} {u v : Value} {x y : Rat} {k : Nat} (h1 : InR w u x k) (h2 : InR w v y k) (hk : k ≤ 63) {z : Int} (hz : M.rcmp x y = z) :
    Calls Tryz.prog 58 #[u, v] w (fun e w' => e = .returned (.int .i64 z) ∧ Ext w w') := by
  by_cases hn : x.num.sign = y.num.sign
  · exact fcompare_like h1 h2 hk hn hz
  · exact fcompare_unlike h1 h2 hk hn hz

set_option maxHeartbeats 2000000 in
theorem shortened_zero {w : World} {u v : Value} {Z Y : Int} {j : Nat} (h1 : Worth w u Z j) (h2 : Worth w v Y j) (hj : j ≤ 900) (hy : Y = 0) :
    Calls Tryz.prog 40 #[u, v] w (GivesIn w (Rat.divInt Z Y) (max j 3 + 1)) := by
  obtain ⟨g1, A1, n1, c1, rfl⟩ := h1.shape
  have R1 := hid h1
  obtain ⟨g2, A2, n2, c2, rfl⟩ := h2.shape
  have R2 := hid h2
  have HJ := hid hj
  have HY := hid hy
  clear h1 h2 hj hy
  go_enter Tryz.func40, Tryz.ntmps40
  go_upto_region 1 with (fail)
  have E := hid ((((Ext.refl w).alloc' (.cells #[.bool g1, .slice A1 n1 c1] 49)).alloc' (.cells #[.bool g2, .slice A2 n2 c2] 49)).alloc' (.cells #[.bool false, .slice none 0 0, .bool false, .slice none 0 0] 51))
  have BX0 : Hid (Box (((w.alloc (.cells #[.bool g1, .slice A1 n1 c1] 49)).alloc (.cells #[.bool g2, .slice A2 n2 c2] 49)).alloc (.cells #[.bool false, .slice none 0 0, .bool false, .slice none 0 0] 51)) (w.heap.size) #[.bool g1, .slice A1 n1 c1] 49) := hid (((Box.at_ (w := w) #[.bool g1, .slice A1 n1 c1] 49 (by simp)).alloc (.cells #[.bool g2, .slice A2 n2 c2] 49)).alloc (.cells #[.bool false, .slice none 0 0, .bool false, .slice none 0 0] 51))
  have BX1 : Hid (Box (((w.alloc (.cells #[.bool g1, .slice A1 n1 c1] 49)).alloc (.cells #[.bool g2, .slice A2 n2 c2] 49)).alloc (.cells #[.bool false, .slice none 0 0, .bool false, .slice none 0 0] 51)) (w.heap.size + 1) #[.bool g2, .slice A2 n2 c2] 49) := hid ((Box.at_ (w := (w.alloc (.cells #[.bool g1, .slice A1 n1 c1] 49))) #[.bool g2, .slice A2 n2 c2] 49 (by simp)).alloc (.cells #[.bool false, .slice none 0 0, .bool false, .slice none 0 0] 51))
  have BX2 : Hid (Box (((w.alloc (.cells #[.bool g1, .slice A1 n1 c1] 49)).alloc (.cells #[.bool g2, .slice A2 n2 c2] 49)).alloc (.cells #[.bool false, .slice none 0 0, .bool false, .slice none 0 0] 51)) (w.heap.size + 2) #[.bool false, .slice none 0 0, .bool false, .slice none 0 0] 51) := hid (Box.at_ (w := ((w.alloc (.cells #[.bool g1, .slice A1 n1 c1] 49)).alloc (.cells #[.bool g2, .slice A2 n2 c2] 49))) #[.bool false, .slice none 0 0, .bool false, .slice none 0 0] 51 (by simp))
  replace R1 := hid (R1.out.up E.out)
  replace R2 := hid (R2.out.up E.out)
  refine wp_region_T [(0, 0), (1, 0), (2, 1), (3, 1), (4, 4)] (by kernel_rfl) fun wd hb => ?_
  replace E := hid (E.out.trans hb)
  replace BX0 := hid (BX0.out.up hb)
  replace BX1 := hid (BX1.out.up hb)
  replace BX2 := hid (BX2.out.up hb)
  replace R1 := hid (R1.out.up hb)
  replace R2 := hid (R2.out.up hb)
  clear hb
  have EY := hid (Ext.refl wd)
  refine WE.pure (d := some 6) rfl rfl (by rfl) (v := (.agg #[.bool g2, .slice A2 n2 c2])) (fun w' hk => ?_) ?_
  · obtain ⟨ce0, ce1⟩ := ((BX1.out.up EY.out).up hk).c2; go_simp
  simp only [Act.put, pA, pB, pC]
  refine WE.pure (d := some 7) rfl rfl (by rfl) (v := (.agg #[.bool g1, .slice A1 n1 c1])) (fun w' hk => ?_) ?_
  · obtain ⟨ce0, ce1⟩ := ((BX0.out.up EY.out).up hk).c2; go_simp
  simp only [Act.put, pA, pB, pC]
  refine WE.call (d := some 8) rfl rfl (by rfl) (by go_simp) ((common_r (Worth.wide (R2.out.up EY.out) (k := j) (by have := HJ.out; omega)) (Worth.wide (R1.out.up EY.out) (k := j) (by have := HJ.out; omega)) (by have := HJ.out; omega)).mono ?_)
  rintro e wn ⟨v1, rfl, x1, hb⟩
  obtain ⟨g11, A11, n11, c11, rfl⟩ := x1.shape
  refine ⟨_, rfl, hb, ?_⟩
  replace EY := hid (EY.out.trans hb)
  clear hb x1
  simp only [Act.put, pA, pB, pC]
  refine WE.new (d := some 5) (cs := #[.bool false, .slice none 0 0]) (t := 49) (v := fun g => (.pointer (some ⟨g, 0, none⟩))) rfl rfl (by rfl) (fun w => by go_simp) fun gV5 wv hx0 hbox hge => ?_
  have HNV5BX1 := hid (show gV5 ≠ (w.heap.size + 1) by have := (BX1.out.up EY.out).lt; omega)
  have HNV5BX2 := hid (show gV5 ≠ (w.heap.size + 2) by have := (BX2.out.up EY.out).lt; omega)
  have HGV5 := hid (show w.heap.size ≤ gV5 by have := (E.out.trans EY.out).size; omega)
  replace EY := hid (EY.out.trans hx0)
  have V5 : Hid (Box wv gV5 #[.bool false, .slice none 0 0] 49) := hid hbox
  clear hx0 hbox hge
  simp only [Act.put, pA, pB, pC]
  refine WE.store2 (g := gV5) (x := .bool g11) (y := .slice A11 n11 c11) (t := 49) rfl rfl (by rfl) (fun w hb => ?_) V5.out (by rfl) fun ws hk hs => ?_
  · obtain ⟨ce0, ce1⟩ := hb.c2; obtain ⟨f0, f1⟩ := hb.f2; go_simp
  intro hbx
  replace E := hid ((E.out.trans EY.out).keptG hk HGV5.out)
  replace BX1 := hid ((BX1.out.up EY.out).kept hk (by simpa using HNV5BX1.out.symm))
  replace BX2 := hid ((BX2.out.up EY.out).kept hk (by simpa using HNV5BX2.out.symm))
  replace R2 := hid ((R2.out.up EY.out).kz hs)
  clear hk hs hbx
  replace EY := hid (Ext.refl ws)
  refine WE.done ?_
  go_upto_region 2 with (fail)
  refine wp_region_T [(0, 0), (1, 1)] (by kernel_rfl) fun wd hb => ?_
  replace EY := hid (EY.out.trans hb)
  clear hb
  refine WE.pure (d := some 9) rfl rfl (by rfl) (v := (.agg #[.bool g2, .slice A2 n2 c2])) (fun w' hk => ?_) ?_
  · obtain ⟨ce0, ce1⟩ := ((BX1.out.up EY.out).up hk).c2; go_simp
  simp only [Act.put, pA, pB, pC]
  refine WE.call (d := some 10) rfl rfl (by rfl) (by go_simp) ((rsgn_r (R2.out.up EY.out) (s := 0) (by rw [HY.out]; rfl)).mono ?_)
  rintro e wn ⟨rfl, hb⟩
  refine ⟨_, rfl, hb, ?_⟩
  replace EY := hid (EY.out.trans hb)
  clear hb
  simp only [Act.put, pA, pB, pC]
  refine WE.done ?_
  go_upto_region 3 with (fail)
  refine wp_region_T [(0, 0), (1, 0)] (by kernel_rfl) fun wd hb => ?_
  replace EY := hid (EY.out.trans hb)
  clear hb
  refine WE.pure (d := some 12) rfl rfl (by rfl) (v := (.bool true)) (fun w' hk => by go_simp) ?_
  simp only [Act.put, pA, pB, pC]
  refine WE.pure (d := some 11) rfl rfl (by rfl) (v := (.bool true)) (fun w' hk => by go_simp) ?_
  simp only [Act.put, pA, pB, pC]
  refine WE.done ?_
  go_upto_region 4 with (fail)
  refine wp_region_T [(0, 1), (1, 0), (2, 4)] (by kernel_rfl) fun wd hb => ?_
  replace EY := hid (EY.out.trans hb)
  clear hb
  refine WE.call (d := some 13) rfl rfl (by rfl) (by go_simp) ((one_r _).mono ?_)
  rintro e wn ⟨v1, rfl, x1, hb⟩
  obtain ⟨g12, A12, n12, c12, rfl⟩ := x1.shape
  obtain rfl := (x1.to (show (1 : Int) = ((1 : Nat) : Int) from rfl)).nat_side
  refine ⟨_, rfl, hb, ?_⟩
  replace EY := hid (EY.out.trans hb)
  have Q12 := hid x1
  clear hb x1
  simp only [Act.put, pA, pB, pC]
  refine WE.pure (d := some 14) rfl rfl (by rfl) (v := (.agg #[.bool false, .slice none 0 0, .bool false, .slice A12 n12 c12])) (fun w' hk => by go_simp) ?_
  simp only [Act.put, pA, pB, pC]
  refine WE.store4 (g := (w.heap.size + 2)) (x := .bool false) (y := .slice none 0 0) (z := .bool false) (q := .slice A12 n12 c12) (t := 51) rfl rfl (by rfl) (fun w hb => ?_) (BX2.out.up EY.out) (by rfl) fun ws hk hs => ?_
  · obtain ⟨ce0, ce1, ce2, ce3⟩ := hb.c4; obtain ⟨f0, f1, f2, f3⟩ := hb.f4; go_simp
  intro hbx
  replace E := hid ((E.out.trans EY.out).keptG hk (by simp))
  replace BX2 := hid hbx
  replace Q12 := hid (Q12.out.kz hs)
  clear hk hs hbx
  replace EY := hid (Ext.refl ws)
  refine WE.done ?_
  have r0 := (BX2.out.up EY.out).cell (o := 0) (v := .bool false) rfl
  have r1 := (BX2.out.up EY.out).cell (o := 1) (v := .slice none 0 0) rfl
  have r2 := (BX2.out.up EY.out).cell (o := 2) (v := .bool false) rfl
  have r3 := (BX2.out.up EY.out).cell (o := 3) (v := .slice A12 n12 c12) rfl
  repeat go_step
  exact bodyPost_ret (v := .agg #[.bool false, .slice none 0 0, .bool false, .slice A12 n12 c12]) (by simp [results, Tryz.results40, go_sem, r0, r1, r2, r3]) rfl ⟨_, rfl, (InR.mk (x := 0) (IsZ.nought.wide (Nat.zero_le _)) ((Q12.out.up EY.out).wide (by omega))).to (M.frac_none HY.out).symm, (E.out.trans EY.out)⟩

set_option maxHeartbeats 2000000 in
theorem shortened_neg {w : World} {u v : Value} {Z Y : Int} {j : Nat} (h1 : Worth w u Z j) (h2 : Worth w v Y j) (hj : j ≤ 900) (hy : Y < 0) :
    Calls Tryz.prog 40 #[u, v] w (GivesIn w (Rat.divInt Z Y) (max j 3 + 1)) := by
  obtain ⟨g1, A1, n1, c1, rfl⟩ := h1.shape
  have R1 := hid h1
  obtain ⟨g2, A2, n2, c2, rfl⟩ := h2.shape
  have R2 := hid h2
  have HJ := hid hj
  have HY := hid hy
  clear h1 h2 hj hy
  go_enter Tryz.func40, Tryz.ntmps40
  go_upto_region 1 with (fail)
  have E := hid ((((Ext.refl w).alloc' (.cells #[.bool g1, .slice A1 n1 c1] 49)).alloc' (.cells #[.bool g2, .slice A2 n2 c2] 49)).alloc' (.cells #[.bool false, .slice none 0 0, .bool false, .slice none 0 0] 51))
  have BX0 : Hid (Box (((w.alloc (.cells #[.bool g1, .slice A1 n1 c1] 49)).alloc (.cells #[.bool g2, .slice A2 n2 c2] 49)).alloc (.cells #[.bool false, .slice none 0 0, .bool false, .slice none 0 0] 51)) (w.heap.size) #[.bool g1, .slice A1 n1 c1] 49) := hid (((Box.at_ (w := w) #[.bool g1, .slice A1 n1 c1] 49 (by simp)).alloc (.cells #[.bool g2, .slice A2 n2 c2] 49)).alloc (.cells #[.bool false, .slice none 0 0, .bool false, .slice none 0 0] 51))
  have BX1 : Hid (Box (((w.alloc (.cells #[.bool g1, .slice A1 n1 c1] 49)).alloc (.cells #[.bool g2, .slice A2 n2 c2] 49)).alloc (.cells #[.bool false, .slice none 0 0, .bool false, .slice none 0 0] 51)) (w.heap.size + 1) #[.bool g2, .slice A2 n2 c2] 49) := hid ((Box.at_ (w := (w.alloc (.cells #[.bool g1, .slice A1 n1 c1] 49))) #[.bool g2, .slice A2 n2 c2] 49 (by simp)).alloc (.cells #[.bool false, .slice none 0 0, .bool false, .slice none 0 0] 51))
  have BX2 : Hid (Box (((w.alloc (.cells #[.bool g1, .slice A1 n1 c1] 49)).alloc (.cells #[.bool g2, .slice A2 n2 c2] 49)).alloc (.cells #[.bool false, .slice none 0 0, .bool false, .slice none 0 0] 51)) (w.heap.size + 2) #[.bool false, .slice none 0 0, .bool false, .slice none 0 0] 51) := hid (Box.at_ (w := ((w.alloc (.cells #[.bool g1, .slice A1 n1 c1] 49)).alloc (.cells #[.bool g2, .slice A2 n2 c2] 49))) #[.bool false, .slice none 0 0, .bool false, .slice none 0 0] 51 (by simp))
  replace R1 := hid (R1.out.up E.out)
  replace R2 := hid (R2.out.up E.out)
  refine wp_region_T [(0, 0), (1, 0), (2, 1), (3, 1), (4, 4)] (by kernel_rfl) fun wd hb => ?_
  replace E := hid (E.out.trans hb)
  replace BX0 := hid (BX0.out.up hb)
  replace BX1 := hid (BX1.out.up hb)
  replace BX2 := hid (BX2.out.up hb)
  replace R1 := hid (R1.out.up hb)
  replace R2 := hid (R2.out.up hb)
  clear hb
  have EY := hid (Ext.refl wd)
  refine WE.pure (d := some 6) rfl rfl (by rfl) (v := (.agg #[.bool g2, .slice A2 n2 c2])) (fun w' hk => ?_) ?_
  · obtain ⟨ce0, ce1⟩ := ((BX1.out.up EY.out).up hk).c2; go_simp
  simp only [Act.put, pA, pB, pC]
  refine WE.pure (d := some 7) rfl rfl (by rfl) (v := (.agg #[.bool g1, .slice A1 n1 c1])) (fun w' hk => ?_) ?_
  · obtain ⟨ce0, ce1⟩ := ((BX0.out.up EY.out).up hk).c2; go_simp
  simp only [Act.put, pA, pB, pC]
  refine WE.call (d := some 8) rfl rfl (by rfl) (by go_simp) ((common_r (Worth.wide (R2.out.up EY.out) (k := j) (by have := HJ.out; omega)) (Worth.wide (R1.out.up EY.out) (k := j) (by have := HJ.out; omega)) (by have := HJ.out; omega)).mono ?_)
  rintro e wn ⟨v1, rfl, x1, hb⟩
  obtain ⟨g11, A11, n11, c11, rfl⟩ := x1.shape
  refine ⟨_, rfl, hb, ?_⟩
  replace EY := hid (EY.out.trans hb)
  have Q11 := hid x1
  clear hb x1
  simp only [Act.put, pA, pB, pC]
  refine WE.new (d := some 5) (cs := #[.bool false, .slice none 0 0]) (t := 49) (v := fun g => (.pointer (some ⟨g, 0, none⟩))) rfl rfl (by rfl) (fun w => by go_simp) fun gV5 wv hx0 hbox hge => ?_
  have HNV5BX0 := hid (show gV5 ≠ (w.heap.size) by have := (BX0.out.up EY.out).lt; omega)
  have HNV5BX1 := hid (show gV5 ≠ (w.heap.size + 1) by have := (BX1.out.up EY.out).lt; omega)
  have HNV5BX2 := hid (show gV5 ≠ (w.heap.size + 2) by have := (BX2.out.up EY.out).lt; omega)
  have HGV5 := hid (show w.heap.size ≤ gV5 by have := (E.out.trans EY.out).size; omega)
  replace EY := hid (EY.out.trans hx0)
  replace Q11 := hid (Q11.out.up hx0)
  have V5 : Hid (Box wv gV5 #[.bool false, .slice none 0 0] 49) := hid hbox
  clear hx0 hbox hge
  simp only [Act.put, pA, pB, pC]
  refine WE.store2 (g := gV5) (x := .bool g11) (y := .slice A11 n11 c11) (t := 49) rfl rfl (by rfl) (fun w hb => ?_) V5.out (by rfl) fun ws hk hs => ?_
  · obtain ⟨ce0, ce1⟩ := hb.c2; obtain ⟨f0, f1⟩ := hb.f2; go_simp
  intro hbx
  replace E := hid ((E.out.trans EY.out).keptG hk HGV5.out)
  replace BX0 := hid ((BX0.out.up EY.out).kept hk (by simpa using HNV5BX0.out.symm))
  replace BX1 := hid ((BX1.out.up EY.out).kept hk (by simpa using HNV5BX1.out.symm))
  replace BX2 := hid ((BX2.out.up EY.out).kept hk (by simpa using HNV5BX2.out.symm))
  replace V5 := hid hbx
  replace R1 := hid ((R1.out.up EY.out).kz hs)
  replace R2 := hid ((R2.out.up EY.out).kz hs)
  replace Q11 := hid (Q11.out.kz hs)
  clear hk hs hbx
  replace EY := hid (Ext.refl ws)
  refine WE.done ?_
  go_upto_region 2 with (fail)
  refine wp_region_T [(0, 0), (1, 1)] (by kernel_rfl) fun wd hb => ?_
  replace EY := hid (EY.out.trans hb)
  clear hb
  refine WE.pure (d := some 9) rfl rfl (by rfl) (v := (.agg #[.bool g2, .slice A2 n2 c2])) (fun w' hk => ?_) ?_
  · obtain ⟨ce0, ce1⟩ := ((BX1.out.up EY.out).up hk).c2; go_simp
  simp only [Act.put, pA, pB, pC]
  refine WE.call (d := some 10) rfl rfl (by rfl) (by go_simp) ((rsgn_r (R2.out.up EY.out) (s := (-1)) (Int.sign_eq_neg_one_of_neg HY.out)).mono ?_)
  rintro e wn ⟨rfl, hb⟩
  refine ⟨_, rfl, hb, ?_⟩
  replace EY := hid (EY.out.trans hb)
  clear hb
  simp only [Act.put, pA, pB, pC]
  refine WE.done ?_
  go_upto_region 3 with (fail)
  refine wp_region_T [(0, 0), (1, 0)] (by kernel_rfl) fun wd hb => ?_
  replace EY := hid (EY.out.trans hb)
  clear hb
  refine WE.pure (d := some 12) rfl rfl (by rfl) (v := (.bool false)) (fun w' hk => by go_simp) ?_
  simp only [Act.put, pA, pB, pC]
  refine WE.pure (d := some 11) rfl rfl (by rfl) (v := (.bool false)) (fun w' hk => by go_simp) ?_
  simp only [Act.put, pA, pB, pC]
  refine WE.done ?_
  go_upto_region 5 with (fail)
  refine wp_region_T [(0, 0), (1, 0)] (by kernel_rfl) fun wd hb => ?_
  replace EY := hid (EY.out.trans hb)
  clear hb
  refine WE.pure (d := some 16) rfl rfl (by rfl) (v := (.bool true)) (fun w' hk => by go_simp) ?_
  simp only [Act.put, pA, pB, pC]
  refine WE.pure (d := some 15) rfl rfl (by rfl) (v := (.bool true)) (fun w' hk => by go_simp) ?_
  simp only [Act.put, pA, pB, pC]
  refine WE.done ?_
  go_upto_region 6 with (fail)
  refine wp_region_T [(0, 0), (1, 1), (2, 4)] (by kernel_rfl) fun wd hb => ?_
  replace EY := hid (EY.out.trans hb)
  clear hb
  refine WE.pure (d := some 17) rfl rfl (by rfl) (v := (.agg #[.bool g11, .slice A11 n11 c11])) (fun w' hk => ?_) ?_
  · obtain ⟨ce0, ce1⟩ := ((V5.out.up EY.out).up hk).c2; go_simp
  simp only [Act.put, pA, pB, pC]
  refine WE.call (d := some 18) rfl rfl (by rfl) (by go_simp) ((negated_r (Q11.out.up EY.out).worth (by have := HJ.out; omega)).mono ?_)
  rintro e wn ⟨v1, rfl, x1, hb⟩
  obtain ⟨g12, A12, n12, c12, rfl⟩ := x1.shape
  refine ⟨_, rfl, hb, ?_⟩
  replace EY := hid (EY.out.trans hb)
  have Q12 := hid x1
  clear hb x1
  simp only [Act.put, pA, pB, pC]
  refine WE.store2 (g := gV5) (x := .bool g12) (y := .slice A12 n12 c12) (t := 49) rfl rfl (by rfl) (fun w hb => ?_) (V5.out.up EY.out) (by rfl) fun ws hk hs => ?_
  · obtain ⟨ce0, ce1⟩ := hb.c2; obtain ⟨f0, f1⟩ := hb.f2; go_simp
  intro hbx
  replace E := hid ((E.out.trans EY.out).keptG hk HGV5.out)
  replace BX0 := hid ((BX0.out.up EY.out).kept hk (by simpa using HNV5BX0.out.symm))
  replace BX1 := hid ((BX1.out.up EY.out).kept hk (by simpa using HNV5BX1.out.symm))
  replace BX2 := hid ((BX2.out.up EY.out).kept hk (by simpa using HNV5BX2.out.symm))
  replace V5 := hid hbx
  replace R1 := hid ((R1.out.up EY.out).kz hs)
  replace R2 := hid ((R2.out.up EY.out).kz hs)
  replace Q12 := hid (Q12.out.kz hs)
  clear hk hs hbx
  replace EY := hid (Ext.refl ws)
  clear Q11
  refine WE.done ?_
  go_upto_region 7 with (fail)
  refine wp_region_E [(0, 0), (1, 0), (3, 0), (4, 0), (2, 1), (5, 1), (6, 0), (7, 4)] (fun _ => (0, #[])) rfl (by kernel_rfl) (by intro j hj; cases hj) (fun _ _ d _ _ => by cases d <;> exact Iff.rfl) fun wd hb => ?_
  replace EY := hid (EY.out.trans hb)
  clear hb
  refine WE.pure (d := some 19) rfl rfl (by rfl) (v := (.agg #[.bool g1, .slice A1 n1 c1])) (fun w' hk => ?_) ?_
  · obtain ⟨ce0, ce1⟩ := ((BX0.out.up EY.out).up hk).c2; go_simp
  simp only [Act.put, pA, pB, pC]
  refine WE.pure (d := some 20) rfl rfl (by rfl) (v := (.agg #[.bool g12, .slice A12 n12 c12])) (fun w' hk => ?_) ?_
  · obtain ⟨ce0, ce1⟩ := ((V5.out.up EY.out).up hk).c2; go_simp
  simp only [Act.put, pA, pB, pC]
  refine WE.pure (d := some 22) rfl rfl (by rfl) (v := (.agg #[.bool g2, .slice A2 n2 c2])) (fun w' hk => ?_) ?_
  · obtain ⟨ce0, ce1⟩ := ((BX1.out.up EY.out).up hk).c2; go_simp
  simp only [Act.put, pA, pB, pC]
  refine WE.pure (d := some 23) rfl rfl (by rfl) (v := (.agg #[.bool g12, .slice A12 n12 c12])) (fun w' hk => ?_) ?_
  · obtain ⟨ce0, ce1⟩ := ((V5.out.up EY.out).up hk).c2; go_simp
  simp only [Act.put, pA, pB, pC]
  refine WE.call (d := some 21) rfl rfl (by rfl) (by go_simp) ((by_r (R1.out.up EY.out) (Q12.out.up EY.out).worth (by have := HJ.out; omega) (by have := HJ.out; omega)).mono ?_)
  rintro e wn ⟨v1, rfl, x1, hb⟩
  obtain ⟨g13, A13, n13, c13, rfl⟩ := x1.shape
  replace x1 := x1.to (M.frac_neg HY.out).1.symm
  refine ⟨_, rfl, hb, ?_⟩
  replace EY := hid (EY.out.trans hb)
  have Q13 := hid x1
  clear hb x1
  simp only [Act.put, pA, pB, pC]
  refine WE.call (d := some 24) rfl rfl (by rfl) (by go_simp) ((by_r (R2.out.up EY.out) (Q12.out.up EY.out).worth (by have := HJ.out; omega) (by have := HJ.out; omega)).mono ?_)
  rintro e wn ⟨v1, rfl, x1, hb⟩
  obtain ⟨g14, A14, n14, c14, rfl⟩ := x1.shape
  obtain rfl := (x1.to (M.frac_neg (p := Z) HY.out).2.symm).nat_side
  refine ⟨_, rfl, hb, ?_⟩
  replace EY := hid (EY.out.trans hb)
  replace Q13 := hid (Q13.out.up hb)
  have Q14 := hid (x1.to (M.frac_neg (p := Z) HY.out).2.symm)
  clear hb x1
  simp only [Act.put, pA, pB, pC]
  refine WE.pure (d := some 25) rfl rfl (by rfl) (v := (.agg #[.bool g13, .slice A13 n13 c13, .bool false, .slice A14 n14 c14])) (fun w' hk => by go_simp) ?_
  simp only [Act.put, pA, pB, pC]
  refine WE.store4 (g := (w.heap.size + 2)) (x := .bool g13) (y := .slice A13 n13 c13) (z := .bool false) (q := .slice A14 n14 c14) (t := 51) rfl rfl (by rfl) (fun w hb => ?_) (BX2.out.up EY.out) (by rfl) fun ws hk hs => ?_
  · obtain ⟨ce0, ce1, ce2, ce3⟩ := hb.c4; obtain ⟨f0, f1, f2, f3⟩ := hb.f4; go_simp
  intro hbx
  replace E := hid ((E.out.trans EY.out).keptG hk (by simp))
  replace BX2 := hid hbx
  replace Q13 := hid (Q13.out.kz hs)
  replace Q14 := hid (Q14.out.kz hs)
  clear hk hs hbx
  replace EY := hid (Ext.refl ws)
  refine WE.done ?_
  have r0 := (BX2.out.up EY.out).cell (o := 0) (v := .bool g13) rfl
  have r1 := (BX2.out.up EY.out).cell (o := 1) (v := .slice A13 n13 c13) rfl
  have r2 := (BX2.out.up EY.out).cell (o := 2) (v := .bool false) rfl
  have r3 := (BX2.out.up EY.out).cell (o := 3) (v := .slice A14 n14 c14) rfl
  repeat go_step
  exact bodyPost_ret (v := .agg #[.bool g13, .slice A13 n13 c13, .bool false, .slice A14 n14 c14]) (by simp [results, Tryz.results40, go_sem, r0, r1, r2, r3]) rfl ⟨_, rfl, InR.mk (Q13.out.up EY.out) (Q14.out.up EY.out), (E.out.trans EY.out)⟩

set_option maxHeartbeats 2000000 in
theorem shortened_pos {w : World} {u v : Value} {Z Y : Int} {j : Nat} (h1 : Worth w u Z j) (h2 : Worth w v Y j) (hj : j ≤ 900) (hy : 0 < Y) :
    Calls Tryz.prog 40 #[u, v] w (GivesIn w (Rat.divInt Z Y) (max j 3 + 1)) := by
  obtain ⟨g1, A1, n1, c1, rfl⟩ := h1.shape
  have R1 := hid h1
  obtain ⟨g2, A2, n2, c2, rfl⟩ := h2.shape
  have R2 := hid h2
  have HJ := hid hj
  have HY := hid hy
  clear h1 h2 hj hy
  go_enter Tryz.func40, Tryz.ntmps40
  go_upto_region 1 with (fail)
  have E := hid ((((Ext.refl w).alloc' (.cells #[.bool g1, .slice A1 n1 c1] 49)).alloc' (.cells #[.bool g2, .slice A2 n2 c2] 49)).alloc' (.cells #[.bool false, .slice none 0 0, .bool false, .slice none 0 0] 51))
  have BX0 : Hid (Box (((w.alloc (.cells #[.bool g1, .slice A1 n1 c1] 49)).alloc (.cells #[.bool g2, .slice A2 n2 c2] 49)).alloc (.cells #[.bool false, .slice none 0 0, .bool false, .slice none 0 0] 51)) (w.heap.size) #[.bool g1, .slice A1 n1 c1] 49) := hid (((Box.at_ (w := w) #[.bool g1, .slice A1 n1 c1] 49 (by simp)).alloc (.cells #[.bool g2, .slice A2 n2 c2] 49)).alloc (.cells #[.bool false, .slice none 0 0, .bool false, .slice none 0 0] 51))
  have BX1 : Hid (Box (((w.alloc (.cells #[.bool g1, .slice A1 n1 c1] 49)).alloc (.cells #[.bool g2, .slice A2 n2 c2] 49)).alloc (.cells #[.bool false, .slice none 0 0, .bool false, .slice none 0 0] 51)) (w.heap.size + 1) #[.bool g2, .slice A2 n2 c2] 49) := hid ((Box.at_ (w := (w.alloc (.cells #[.bool g1, .slice A1 n1 c1] 49))) #[.bool g2, .slice A2 n2 c2] 49 (by simp)).alloc (.cells #[.bool false, .slice none 0 0, .bool false, .slice none 0 0] 51))
  have BX2 : Hid (Box (((w.alloc (.cells #[.bool g1, .slice A1 n1 c1] 49)).alloc (.cells #[.bool g2, .slice A2 n2 c2] 49)).alloc (.cells #[.bool false, .slice none 0 0, .bool false, .slice none 0 0] 51)) (w.heap.size + 2) #[.bool false, .slice none 0 0, .bool false, .slice none 0 0] 51) := hid (Box.at_ (w := ((w.alloc (.cells #[.bool g1, .slice A1 n1 c1] 49)).alloc (.cells #[.bool g2, .slice A2 n2 c2] 49))) #[.bool false, .slice none 0 0, .bool false, .slice none 0 0] 51 (by simp))
  replace R1 := hid (R1.out.up E.out)
  replace R2 := hid (R2.out.up E.out)
  refine wp_region_T [(0, 0), (1, 0), (2, 1), (3, 1), (4, 4)] (by kernel_rfl) fun wd hb => ?_
  replace E := hid (E.out.trans hb)
  replace BX0 := hid (BX0.out.up hb)
  replace BX1 := hid (BX1.out.up hb)
  replace BX2 := hid (BX2.out.up hb)
  replace R1 := hid (R1.out.up hb)
  replace R2 := hid (R2.out.up hb)
  clear hb
  have EY := hid (Ext.refl wd)
  refine WE.pure (d := some 6) rfl rfl (by rfl) (v := (.agg #[.bool g2, .slice A2 n2 c2])) (fun w' hk => ?_) ?_
  · obtain ⟨ce0, ce1⟩ := ((BX1.out.up EY.out).up hk).c2; go_simp
  simp only [Act.put, pA, pB, pC]
  refine WE.pure (d := some 7) rfl rfl (by rfl) (v := (.agg #[.bool g1, .slice A1 n1 c1])) (fun w' hk => ?_) ?_
  · obtain ⟨ce0, ce1⟩ := ((BX0.out.up EY.out).up hk).c2; go_simp
  simp only [Act.put, pA, pB, pC]
  refine WE.call (d := some 8) rfl rfl (by rfl) (by go_simp) ((common_r (Worth.wide (R2.out.up EY.out) (k := j) (by have := HJ.out; omega)) (Worth.wide (R1.out.up EY.out) (k := j) (by have := HJ.out; omega)) (by have := HJ.out; omega)).mono ?_)
  rintro e wn ⟨v1, rfl, x1, hb⟩
  obtain ⟨g11, A11, n11, c11, rfl⟩ := x1.shape
  refine ⟨_, rfl, hb, ?_⟩
  replace EY := hid (EY.out.trans hb)
  have Q11 := hid x1
  clear hb x1
  simp only [Act.put, pA, pB, pC]
  refine WE.new (d := some 5) (cs := #[.bool false, .slice none 0 0]) (t := 49) (v := fun g => (.pointer (some ⟨g, 0, none⟩))) rfl rfl (by rfl) (fun w => by go_simp) fun gV5 wv hx0 hbox hge => ?_
  have HNV5BX0 := hid (show gV5 ≠ (w.heap.size) by have := (BX0.out.up EY.out).lt; omega)
  have HNV5BX1 := hid (show gV5 ≠ (w.heap.size + 1) by have := (BX1.out.up EY.out).lt; omega)
  have HNV5BX2 := hid (show gV5 ≠ (w.heap.size + 2) by have := (BX2.out.up EY.out).lt; omega)
  have HGV5 := hid (show w.heap.size ≤ gV5 by have := (E.out.trans EY.out).size; omega)
  replace EY := hid (EY.out.trans hx0)
  replace Q11 := hid (Q11.out.up hx0)
  have V5 : Hid (Box wv gV5 #[.bool false, .slice none 0 0] 49) := hid hbox
  clear hx0 hbox hge
  simp only [Act.put, pA, pB, pC]
  refine WE.store2 (g := gV5) (x := .bool g11) (y := .slice A11 n11 c11) (t := 49) rfl rfl (by rfl) (fun w hb => ?_) V5.out (by rfl) fun ws hk hs => ?_
  · obtain ⟨ce0, ce1⟩ := hb.c2; obtain ⟨f0, f1⟩ := hb.f2; go_simp
  intro hbx
  replace E := hid ((E.out.trans EY.out).keptG hk HGV5.out)
  replace BX0 := hid ((BX0.out.up EY.out).kept hk (by simpa using HNV5BX0.out.symm))
  replace BX1 := hid ((BX1.out.up EY.out).kept hk (by simpa using HNV5BX1.out.symm))
  replace BX2 := hid ((BX2.out.up EY.out).kept hk (by simpa using HNV5BX2.out.symm))
  replace V5 := hid hbx
  replace R1 := hid ((R1.out.up EY.out).kz hs)
  replace R2 := hid ((R2.out.up EY.out).kz hs)
  replace Q11 := hid (Q11.out.kz hs)
  clear hk hs hbx
  replace EY := hid (Ext.refl ws)
  refine WE.done ?_
  go_upto_region 2 with (fail)
  refine wp_region_T [(0, 0), (1, 1)] (by kernel_rfl) fun wd hb => ?_
  replace EY := hid (EY.out.trans hb)
  clear hb
  refine WE.pure (d := some 9) rfl rfl (by rfl) (v := (.agg #[.bool g2, .slice A2 n2 c2])) (fun w' hk => ?_) ?_
  · obtain ⟨ce0, ce1⟩ := ((BX1.out.up EY.out).up hk).c2; go_simp
  simp only [Act.put, pA, pB, pC]
  refine WE.call (d := some 10) rfl rfl (by rfl) (by go_simp) ((rsgn_r (R2.out.up EY.out) (s := 1) (Int.sign_eq_one_of_pos HY.out)).mono ?_)
  rintro e wn ⟨rfl, hb⟩
  refine ⟨_, rfl, hb, ?_⟩
  replace EY := hid (EY.out.trans hb)
  clear hb
  simp only [Act.put, pA, pB, pC]
  refine WE.done ?_
  go_upto_region 3 with (fail)
  refine wp_region_T [(0, 0), (1, 0)] (by kernel_rfl) fun wd hb => ?_
  replace EY := hid (EY.out.trans hb)
  clear hb
  refine WE.pure (d := some 12) rfl rfl (by rfl) (v := (.bool false)) (fun w' hk => by go_simp) ?_
  simp only [Act.put, pA, pB, pC]
  refine WE.pure (d := some 11) rfl rfl (by rfl) (v := (.bool false)) (fun w' hk => by go_simp) ?_
  simp only [Act.put, pA, pB, pC]
  refine WE.done ?_
  go_upto_region 5 with (fail)
  refine wp_region_T [(0, 0), (1, 0)] (by kernel_rfl) fun wd hb => ?_
  replace EY := hid (EY.out.trans hb)
  clear hb
  refine WE.pure (d := some 16) rfl rfl (by rfl) (v := (.bool false)) (fun w' hk => by go_simp) ?_
  simp only [Act.put, pA, pB, pC]
  refine WE.pure (d := some 15) rfl rfl (by rfl) (v := (.bool false)) (fun w' hk => by go_simp) ?_
  simp only [Act.put, pA, pB, pC]
  refine WE.done ?_
  go_upto_region 7 with (fail)
  refine wp_region_E [(0, 0), (1, 0), (3, 0), (4, 0), (2, 1), (5, 1), (6, 0), (7, 4)] (fun _ => (0, #[])) rfl (by kernel_rfl) (by intro j hj; cases hj) (fun _ _ d _ _ => by cases d <;> exact Iff.rfl) fun wd hb => ?_
  replace EY := hid (EY.out.trans hb)
  clear hb
  refine WE.pure (d := some 19) rfl rfl (by rfl) (v := (.agg #[.bool g1, .slice A1 n1 c1])) (fun w' hk => ?_) ?_
  · obtain ⟨ce0, ce1⟩ := ((BX0.out.up EY.out).up hk).c2; go_simp
  simp only [Act.put, pA, pB, pC]
  refine WE.pure (d := some 20) rfl rfl (by rfl) (v := (.agg #[.bool g11, .slice A11 n11 c11])) (fun w' hk => ?_) ?_
  · obtain ⟨ce0, ce1⟩ := ((V5.out.up EY.out).up hk).c2; go_simp
  simp only [Act.put, pA, pB, pC]
  refine WE.pure (d := some 22) rfl rfl (by rfl) (v := (.agg #[.bool g2, .slice A2 n2 c2])) (fun w' hk => ?_) ?_
  · obtain ⟨ce0, ce1⟩ := ((BX1.out.up EY.out).up hk).c2; go_simp
  simp only [Act.put, pA, pB, pC]
  refine WE.pure (d := some 23) rfl rfl (by rfl) (v := (.agg #[.bool g11, .slice A11 n11 c11])) (fun w' hk => ?_) ?_
  · obtain ⟨ce0, ce1⟩ := ((V5.out.up EY.out).up hk).c2; go_simp
  simp only [Act.put, pA, pB, pC]
  refine WE.call (d := some 21) rfl rfl (by rfl) (by go_simp) ((by_r (R1.out.up EY.out) (Q11.out.up EY.out).worth (by have := HJ.out; omega) (by have := HJ.out; omega)).mono ?_)
  rintro e wn ⟨v1, rfl, x1, hb⟩
  obtain ⟨g12, A12, n12, c12, rfl⟩ := x1.shape
  replace x1 := x1.to (M.frac_pos HY.out).1.symm
  refine ⟨_, rfl, hb, ?_⟩
  replace EY := hid (EY.out.trans hb)
  have Q12 := hid x1
  clear hb x1
  simp only [Act.put, pA, pB, pC]
  refine WE.call (d := some 24) rfl rfl (by rfl) (by go_simp) ((by_r (R2.out.up EY.out) (Q11.out.up EY.out).worth (by have := HJ.out; omega) (by have := HJ.out; omega)).mono ?_)
  rintro e wn ⟨v1, rfl, x1, hb⟩
  obtain ⟨g13, A13, n13, c13, rfl⟩ := x1.shape
  obtain rfl := (x1.to (M.frac_pos (p := Z) HY.out).2.symm).nat_side
  refine ⟨_, rfl, hb, ?_⟩
  replace EY := hid (EY.out.trans hb)
  replace Q12 := hid (Q12.out.up hb)
  have Q13 := hid (x1.to (M.frac_pos (p := Z) HY.out).2.symm)
  clear hb x1
  simp only [Act.put, pA, pB, pC]
  refine WE.pure (d := some 25) rfl rfl (by rfl) (v := (.agg #[.bool g12, .slice A12 n12 c12, .bool false, .slice A13 n13 c13])) (fun w' hk => by go_simp) ?_
  simp only [Act.put, pA, pB, pC]
  refine WE.store4 (g := (w.heap.size + 2)) (x := .bool g12) (y := .slice A12 n12 c12) (z := .bool false) (q := .slice A13 n13 c13) (t := 51) rfl rfl (by rfl) (fun w hb => ?_) (BX2.out.up EY.out) (by rfl) fun ws hk hs => ?_
  · obtain ⟨ce0, ce1, ce2, ce3⟩ := hb.c4; obtain ⟨f0, f1, f2, f3⟩ := hb.f4; go_simp
  intro hbx
  replace E := hid ((E.out.trans EY.out).keptG hk (by simp))
  replace BX2 := hid hbx
  replace Q12 := hid (Q12.out.kz hs)
  replace Q13 := hid (Q13.out.kz hs)
  clear hk hs hbx
  replace EY := hid (Ext.refl ws)
  refine WE.done ?_
  have r0 := (BX2.out.up EY.out).cell (o := 0) (v := .bool g12) rfl
  have r1 := (BX2.out.up EY.out).cell (o := 1) (v := .slice A12 n12 c12) rfl
  have r2 := (BX2.out.up EY.out).cell (o := 2) (v := .bool false) rfl
  have r3 := (BX2.out.up EY.out).cell (o := 3) (v := .slice A13 n13 c13) rfl
  repeat go_step
  exact bodyPost_ret (v := .agg #[.bool g12, .slice A12 n12 c12, .bool false, .slice A13 n13 c13]) (by simp [results, Tryz.results40, go_sem, r0, r1, r2, r3]) rfl ⟨_, rfl, InR.mk (Q12.out.up EY.out) (Q13.out.up EY.out), (E.out.trans EY.out)⟩

theorem shortened_r {w : World} {u v : Value} {Z Y : Int} {j : Nat} (h1 : Worth w u Z j) (h2 : Worth w v Y j) (hj : j ≤ 900) :
    Calls Tryz.prog 40 #[u, v] w (GivesIn w (Rat.divInt Z Y) (max j 3 + 1)) := by
  rcases (by omega : Y = 0 ∨ Y < 0 ∨ 0 < Y) with h | h | h
  · exact shortened_zero h1 h2 hj h
  · exact shortened_neg h1 h2 hj h
  · exact shortened_pos h1 h2 hj h

end Go.Proofs.YtkjfeedclaedfaaGreat
