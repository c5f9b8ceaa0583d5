/-
  Contracts of the reference's integers, over what values are worth.
-/
import Derived.Test.YtklmnmkmpkobhaaGreatRZA
namespace Go.Proofs.YtklmnmkmpkobhaaGreat
open Go.RowKit
set_option linter.unusedSimpArgs false
set_option linter.unusedVariables false

set_option maxHeartbeats 1000000 in
theorem rAdd_like {w : World} {u v : Value} {Z Y : Int} {j k : Nat} (hu : Worth w u Z j) (hv : Worth w v Y k) (hj : j ≤ 100000000) (hk : k ≤ 100000000) (hc : (decide (Z < 0) == decide (Y < 0)) = true) :
 Calls Tryz.prog 36 #[u, v] w (GivesZ w (Z + Y) (max j k + 1)) := by
 obtain ⟨g, A, n, c, rfl⟩ := hu.shape
 obtain ⟨g', A', n', c', rfl⟩ := hv.shape
 have R := hid hu
 have R' := hid hv
 clear hu hv
 have HJ := hid hj
 have HK := hid hk
 clear hj hk
 have HC := hid hc
 clear hc
 go_enter Tryz.func36, Tryz.ntmps36
 go_upto_region 1 with (fail)
 obtain ⟨E, B1, B2, B3⟩ := open3 w #[.bool g, .slice A n c] 25 #[.bool g', .slice A' n' c'] 25 #[.bool false, .slice none 0 0] 25
 replace R := hid (R.out.up E.out)
 replace R' := hid (R'.out.up E.out)
 refine wp_region_L [(0, 0), (2, 0), (1, 2), (3, 2), (4, 3), (5, 3), (6, 4), (7, 4)] 25 #[.bool false, .slice none 0 0] fun wd hb => ?_
 replace E := hid (E.out.trans hb)
 replace B1 := hid (B1.out.up hb)
 replace B2 := hid (B2.out.up hb)
 replace B3 := hid (B3.out.up hb)
 replace R := hid (R.out.up hb)
 replace R' := hid (R'.out.up hb)
 clear hb
 have HL1B1 := hid B1.out.lt
 have HL1B2 := hid B2.out.lt
 have HL1B3 := hid B3.out.lt
 have HW1 := hid (show w.heap.size ≤ wd.heap.size from E.out.size)
 refine WE.q 7 (.agg #[.bool g, .slice A n c]) rfl (fun w' hk => by have c0 := (B1.out.up hk).k 0; have c1 := (B1.out.up hk).k 1; go_simp) ?_
 refine WE.q 9 (.agg #[.bool g', .slice A' n' c']) rfl (fun w' hk => by have c0 := (B2.out.up hk).k 0; have c1 := (B2.out.up hk).k 1; go_simp) ?_
 refine WE.callR (d := some 8) rfl rfl (by rfl) (f := 60) (args := #[(.agg #[.bool g, .slice A n c])]) (fun w => by go_simp) (fun wx hx0 => ?_)
 replace E := hid (E.out.trans hx0)
 replace B3 := hid (B3.out.up hx0)
 replace R := hid (R.out.up hx0)
 replace R' := hid (R'.out.up hx0)
 clear hx0
 refine (rMay_w R.out).mono ?_
 rintro e wn ⟨vx, rfl, hx, hb⟩
 obtain ⟨g1, A1, n1, c1, rfl, hs1, hr1⟩ := hx.form
 clear hx
 refine ⟨_, rfl, hb, ?_⟩
 replace E := hid (E.out.trans hb)
 replace B3 := hid (B3.out.up hb)
 replace R' := hid (R'.out.up hb)
 have HS1 := hid hs1
 have R1 := hid hr1
 clear hb hs1 hr1
 refine WE.callR (d := some 10) rfl rfl (by rfl) (f := 60) (args := #[(.agg #[.bool g', .slice A' n' c'])]) (fun w => by go_simp) (fun wx hx0 => ?_)
 replace E := hid (E.out.trans hx0)
 replace B3 := hid (B3.out.up hx0)
 replace R' := hid (R'.out.up hx0)
 replace R1 := hid (R1.out.up hx0)
 clear hx0
 refine (rMay_w R'.out).mono ?_
 rintro e wn ⟨vx, rfl, hx, hb⟩
 obtain ⟨g2, A2, n2, c2, rfl, hs2, hr2⟩ := hx.form
 clear hx
 refine ⟨_, rfl, hb, ?_⟩
 replace E := hid (E.out.trans hb)
 replace B3 := hid (B3.out.up hb)
 replace R1 := hid (R1.out.up hb)
 have HS2 := hid hs2
 have R2 := hid hr2
 clear hb hs2 hr2
 simp only [Act.put, pA, pB, pC]
 refine WE.var (d := some 5) rfl fun gC1 wv hx0 hbox hge hng => ?_
 have HNC1B3 := hid (show gC1 ≠ (w.heap.size + 2) by have := HL1B3.out; omega)
 have HGC1 := hid (show w.heap.size ≤ gC1 by have := HW1.out; omega)
 replace E := hid (E.out.trans hx0)
 replace B3 := hid (B3.out.up hx0)
 replace R1 := hid (R1.out.up hx0)
 replace R2 := hid (R2.out.up hx0)
 have C1 : Hid (Box wv gC1 #[.bool false, .slice none 0 0] 25) := hid hbox
 clear hx0 hbox hge hng
 simp only [Act.put, pA, pB, pC]
 refine WE.var (d := some 6) rfl fun gC2 wv hx0 hbox hge hng => ?_
 have HNC2B3 := hid (show gC2 ≠ (w.heap.size + 2) by have := HL1B3.out; omega)
 have HNC2C1 := hid (show gC2 ≠ gC1 by intro e; exact hng (by simp [e]))
 have HGC2 := hid (show w.heap.size ≤ gC2 by have := HW1.out; omega)
 replace E := hid (E.out.trans hx0)
 replace B3 := hid (B3.out.up hx0)
 replace C1 := hid (C1.out.up hx0)
 replace R1 := hid (R1.out.up hx0)
 replace R2 := hid (R2.out.up hx0)
 have C2 : Hid (Box wv gC2 #[.bool false, .slice none 0 0] 25) := hid hbox
 clear hx0 hbox hge hng
 simp only [Act.put, pA, pB, pC]
 refine WE.store2 (g := gC1) (x := .bool g1) (y := .slice A1 n1 c1) (t := 25) rfl rfl (by rfl) (fun w hb => ?_) C1.out (by rfl) fun ws hk hs => ?_
 ·have c0 := hb.k 0; have f0 := hb.free 0; have c1 := hb.k 1; have f1 := hb.free 1; go_simp
 intro hbx
 replace E := hid (E.out.keptG hk HGC1.out)
 replace B3 := hid (B3.out.kept hk (by simpa using HNC1B3.out.symm))
 replace C1 := hid hbx
 replace C2 := hid (C2.out.kept hk (by simpa using HNC2C1.out))
 replace R1 := hid (R1.out.kz hs)
 replace R2 := hid (R2.out.kz hs)
 clear hk hs hbx
 refine WE.store2 (g := gC2) (x := .bool g2) (y := .slice A2 n2 c2) (t := 25) rfl rfl (by rfl) (fun w hb => ?_) C2.out (by rfl) fun ws hk hs => ?_
 ·have c0 := hb.k 0; have f0 := hb.free 0; have c1 := hb.k 1; have f1 := hb.free 1; go_simp
 intro hbx
 replace E := hid (E.out.keptG hk HGC2.out)
 replace B3 := hid (B3.out.kept hk (by simpa using HNC2B3.out.symm))
 replace C1 := hid (C1.out.kept hk (by simpa using HNC2C1.out.symm))
 replace C2 := hid hbx
 replace R1 := hid (R1.out.kz hs)
 replace R2 := hid (R2.out.kz hs)
 clear hk hs hbx
 refine WE.done ?_
 have hgg : (g1 == g2) = true := by rw [HS1.out, HS2.out]; exact HC.out
 go_upto_region 2 with (fail)
 refine wp_region_S [(0, 0), (1, 0), (2, 0), (3, 0), (4, 0)] fun wd hb => ?_
 replace E := hid (E.out.trans hb)
 replace B3 := hid (B3.out.up hb)
 replace C1 := hid (C1.out.up hb)
 replace C2 := hid (C2.out.up hb)
 replace R1 := hid (R1.out.up hb)
 replace R2 := hid (R2.out.up hb)
 clear hb
 refine WE.p 11 (.pointer (some ⟨gC1, 0, none⟩)) ?_
 refine WE.q 12 (.bool g1) rfl (fun w' hk => by have c0 := (C1.out.up hk).k 0; go_simp) ?_
 refine WE.p 13 (.pointer (some ⟨gC2, 0, none⟩)) ?_
 refine WE.q 14 (.bool g2) rfl (fun w' hk => by have c0 := (C2.out.up hk).k 0; go_simp) ?_
 refine WE.p 15 (.bool true) ?_
 simp only [Act.put, pA, pB, pC]
 refine WE.done ?_
 go_upto_region 3 with (fail)
 refine wp_region_D [(0, 0), (1, 0), (2, 0), (3, 0), (4, 0), (5, 0), (6, 1), (7, 1), (8, 4)] fun wd hb => ?_
 replace E := hid (E.out.trans hb)
 replace B3 := hid (B3.out.up hb)
 replace C1 := hid (C1.out.up hb)
 replace C2 := hid (C2.out.up hb)
 replace R1 := hid (R1.out.up hb)
 replace R2 := hid (R2.out.up hb)
 clear hb
 refine WE.p 16 (.pointer (some ⟨gC1, 0, none⟩)) ?_
 refine WE.q 17 (.bool g1) rfl (fun w' hk => by have c0 := (C1.out.up hk).k 0; go_simp) ?_
 refine WE.p 18 (.pointer (some ⟨gC1, 1, none⟩)) ?_
 refine WE.q 19 (.slice A1 n1 c1) rfl (fun w' hk => by have c1 := (C1.out.up hk).k 1; go_simp) ?_
 refine WE.p 20 (.pointer (some ⟨gC2, 1, none⟩)) ?_
 refine WE.q 21 (.slice A2 n2 c2) rfl (fun w' hk => by have c1 := (C2.out.up hk).k 1; go_simp) ?_
 simp only [Act.put, pA, pB, pC]
 refine WE.call (d := some 22) rfl rfl (by rfl) (f := 70) (args := #[(.slice A1 n1 c1), (.slice A2 n2 c2)]) (by go_simp) ?_
 refine (radd_n R1.out R2.out HJ.out HK.out).mono ?_
 rintro e wn ⟨vx, rfl, hx, hb⟩
 obtain ⟨A3, n3, c3, rfl⟩ := hx.1.slice
 refine ⟨_, rfl, hb, ?_⟩
 replace E := hid (E.out.trans hb)
 replace B3 := hid (B3.out.up hb)
 have R3 := hid hx
 clear hb hx
 refine WE.call (d := some 23) rfl rfl (by rfl) (f := 69) (args := #[(.bool g1), (.slice A3 n3 c3)]) (by go_simp) ?_
 refine (rsign_n R3.out (Z := Z + Y) (by have hc := HC.out; simp only [beq_iff_eq, decide_eq_decide] at hc; omega) (fun h => by have hc := HC.out; rw [HS1.out]; simp only [beq_iff_eq, decide_eq_decide] at hc ⊢; omega)).mono ?_
 rintro e wn ⟨vx, rfl, hx, hb⟩
 obtain ⟨g4, A4, n4, c4, rfl, hs4, hr4⟩ := hx.form
 clear hx
 refine ⟨_, rfl, hb, ?_⟩
 replace E := hid (E.out.trans hb)
 replace B3 := hid (B3.out.up hb)
 have HS4 := hid hs4
 have R4 := hid hr4
 clear hb hs4 hr4
 simp only [Act.put, pA, pB, pC]
 refine WE.store2 (g := (w.heap.size + 2)) (x := .bool g4) (y := .slice A4 n4 c4) (t := 25) rfl rfl (by rfl) (fun w hb => ?_) B3.out (by rfl) fun ws hk hs => ?_
 ·have c0 := hb.k 0; have f0 := hb.free 0; have c1 := hb.k 1; have f1 := hb.free 1; go_simp
 intro hbx
 replace E := hid (E.out.keptG hk (by simp))
 replace B3 := hid hbx
 replace R4 := hid (R4.out.kz hs)
 clear hk hs hbx
 refine WE.done ?_
 have r0 := B3.out.cell (o := 0) (v := .bool g4) rfl
 have r1 := B3.out.cell (o := 1) (v := .slice A4 n4 c4) rfl
 go_wp2
 exact bodyPost_ret (v := .agg #[.bool g4, .slice A4 n4 c4]) (by simp [results, Tryz.results36, go_sem, r0, r1]) rfl ⟨_, rfl, IsZ.mk HS4.out (R4.out.wide (by omega)), E.out⟩

set_option maxHeartbeats 1000000 in
theorem rAdd_more {w : World} {u v : Value} {Z Y : Int} {j k : Nat} (hu : Worth w u Z j) (hv : Worth w v Y k) (hj : j ≤ 100000000) (hk : k ≤ 100000000) (hc : (decide (Z < 0) == decide (Y < 0)) = false) (hm : Y.natAbs ≤ Z.natAbs) :
 Calls Tryz.prog 36 #[u, v] w (GivesZ w (Z + Y) (max j k + 1)) := by
 obtain ⟨g, A, n, c, rfl⟩ := hu.shape
 obtain ⟨g', A', n', c', rfl⟩ := hv.shape
 have R := hid hu
 have R' := hid hv
 clear hu hv
 have HJ := hid hj
 clear hj hk
 have HC := hid hc
 clear hc
 have HM := hid hm
 clear hm
 go_enter Tryz.func36, Tryz.ntmps36
 go_upto_region 1 with (fail)
 obtain ⟨E, B1, B2, B3⟩ := open3 w #[.bool g, .slice A n c] 25 #[.bool g', .slice A' n' c'] 25 #[.bool false, .slice none 0 0] 25
 replace R := hid (R.out.up E.out)
 replace R' := hid (R'.out.up E.out)
 refine wp_region_L [(0, 0), (2, 0), (1, 2), (3, 2), (4, 3), (5, 3), (6, 4), (7, 4)] 25 #[.bool false, .slice none 0 0] fun wd hb => ?_
 replace E := hid (E.out.trans hb)
 replace B1 := hid (B1.out.up hb)
 replace B2 := hid (B2.out.up hb)
 replace B3 := hid (B3.out.up hb)
 replace R := hid (R.out.up hb)
 replace R' := hid (R'.out.up hb)
 clear hb
 have HL1B1 := hid B1.out.lt
 have HL1B2 := hid B2.out.lt
 have HL1B3 := hid B3.out.lt
 have HW1 := hid (show w.heap.size ≤ wd.heap.size from E.out.size)
 refine WE.q 7 (.agg #[.bool g, .slice A n c]) rfl (fun w' hk => by have c0 := (B1.out.up hk).k 0; have c1 := (B1.out.up hk).k 1; go_simp) ?_
 refine WE.q 9 (.agg #[.bool g', .slice A' n' c']) rfl (fun w' hk => by have c0 := (B2.out.up hk).k 0; have c1 := (B2.out.up hk).k 1; go_simp) ?_
 refine WE.callR (d := some 8) rfl rfl (by rfl) (f := 60) (args := #[(.agg #[.bool g, .slice A n c])]) (fun w => by go_simp) (fun wx hx0 => ?_)
 replace E := hid (E.out.trans hx0)
 replace B3 := hid (B3.out.up hx0)
 replace R := hid (R.out.up hx0)
 replace R' := hid (R'.out.up hx0)
 clear hx0
 refine (rMay_w R.out).mono ?_
 rintro e wn ⟨vx, rfl, hx, hb⟩
 obtain ⟨g1, A1, n1, c1, rfl, hs1, hr1⟩ := hx.form
 clear hx
 refine ⟨_, rfl, hb, ?_⟩
 replace E := hid (E.out.trans hb)
 replace B3 := hid (B3.out.up hb)
 replace R' := hid (R'.out.up hb)
 have HS1 := hid hs1
 have R1 := hid hr1
 clear hb hs1 hr1
 refine WE.callR (d := some 10) rfl rfl (by rfl) (f := 60) (args := #[(.agg #[.bool g', .slice A' n' c'])]) (fun w => by go_simp) (fun wx hx0 => ?_)
 replace E := hid (E.out.trans hx0)
 replace B3 := hid (B3.out.up hx0)
 replace R' := hid (R'.out.up hx0)
 replace R1 := hid (R1.out.up hx0)
 clear hx0
 refine (rMay_w R'.out).mono ?_
 rintro e wn ⟨vx, rfl, hx, hb⟩
 obtain ⟨g2, A2, n2, c2, rfl, hs2, hr2⟩ := hx.form
 clear hx
 refine ⟨_, rfl, hb, ?_⟩
 replace E := hid (E.out.trans hb)
 replace B3 := hid (B3.out.up hb)
 replace R1 := hid (R1.out.up hb)
 have HS2 := hid hs2
 have R2 := hid hr2
 clear hb hs2 hr2
 simp only [Act.put, pA, pB, pC]
 refine WE.var (d := some 5) rfl fun gC1 wv hx0 hbox hge hng => ?_
 have HNC1B3 := hid (show gC1 ≠ (w.heap.size + 2) by have := HL1B3.out; omega)
 have HGC1 := hid (show w.heap.size ≤ gC1 by have := HW1.out; omega)
 replace E := hid (E.out.trans hx0)
 replace B3 := hid (B3.out.up hx0)
 replace R1 := hid (R1.out.up hx0)
 replace R2 := hid (R2.out.up hx0)
 have C1 : Hid (Box wv gC1 #[.bool false, .slice none 0 0] 25) := hid hbox
 clear hx0 hbox hge hng
 simp only [Act.put, pA, pB, pC]
 refine WE.var (d := some 6) rfl fun gC2 wv hx0 hbox hge hng => ?_
 have HNC2B3 := hid (show gC2 ≠ (w.heap.size + 2) by have := HL1B3.out; omega)
 have HNC2C1 := hid (show gC2 ≠ gC1 by intro e; exact hng (by simp [e]))
 have HGC2 := hid (show w.heap.size ≤ gC2 by have := HW1.out; omega)
 replace E := hid (E.out.trans hx0)
 replace B3 := hid (B3.out.up hx0)
 replace C1 := hid (C1.out.up hx0)
 replace R1 := hid (R1.out.up hx0)
 replace R2 := hid (R2.out.up hx0)
 have C2 : Hid (Box wv gC2 #[.bool false, .slice none 0 0] 25) := hid hbox
 clear hx0 hbox hge hng
 simp only [Act.put, pA, pB, pC]
 refine WE.store2 (g := gC1) (x := .bool g1) (y := .slice A1 n1 c1) (t := 25) rfl rfl (by rfl) (fun w hb => ?_) C1.out (by rfl) fun ws hk hs => ?_
 ·have c0 := hb.k 0; have f0 := hb.free 0; have c1 := hb.k 1; have f1 := hb.free 1; go_simp
 intro hbx
 replace E := hid (E.out.keptG hk HGC1.out)
 replace B3 := hid (B3.out.kept hk (by simpa using HNC1B3.out.symm))
 replace C1 := hid hbx
 replace C2 := hid (C2.out.kept hk (by simpa using HNC2C1.out))
 replace R1 := hid (R1.out.kz hs)
 replace R2 := hid (R2.out.kz hs)
 clear hk hs hbx
 refine WE.store2 (g := gC2) (x := .bool g2) (y := .slice A2 n2 c2) (t := 25) rfl rfl (by rfl) (fun w hb => ?_) C2.out (by rfl) fun ws hk hs => ?_
 ·have c0 := hb.k 0; have f0 := hb.free 0; have c1 := hb.k 1; have f1 := hb.free 1; go_simp
 intro hbx
 replace E := hid (E.out.keptG hk HGC2.out)
 replace B3 := hid (B3.out.kept hk (by simpa using HNC2B3.out.symm))
 replace C1 := hid (C1.out.kept hk (by simpa using HNC2C1.out.symm))
 replace C2 := hid hbx
 replace R1 := hid (R1.out.kz hs)
 replace R2 := hid (R2.out.kz hs)
 clear hk hs hbx
 refine WE.done ?_
 have hgg : (g1 == g2) = false := by rw [HS1.out, HS2.out]; exact HC.out
 go_upto_region 2 with (fail)
 refine wp_region_S [(0, 0), (1, 0), (2, 0), (3, 0), (4, 0)] fun wd hb => ?_
 replace E := hid (E.out.trans hb)
 replace B3 := hid (B3.out.up hb)
 replace C1 := hid (C1.out.up hb)
 replace C2 := hid (C2.out.up hb)
 replace R1 := hid (R1.out.up hb)
 replace R2 := hid (R2.out.up hb)
 clear hb
 refine WE.p 11 (.pointer (some ⟨gC1, 0, none⟩)) ?_
 refine WE.q 12 (.bool g1) rfl (fun w' hk => by have c0 := (C1.out.up hk).k 0; go_simp) ?_
 refine WE.p 13 (.pointer (some ⟨gC2, 0, none⟩)) ?_
 refine WE.q 14 (.bool g2) rfl (fun w' hk => by have c0 := (C2.out.up hk).k 0; go_simp) ?_
 refine WE.p 15 (.bool false) ?_
 simp only [Act.put, pA, pB, pC]
 refine WE.done ?_
 obtain ⟨z, hz⟩ : ∃ z : Int, M.cmp Z.natAbs Y.natAbs = z := ⟨_, rfl⟩
 have HZ := hid hz
 clear hz
 have hzz : decide (0 ≤ z) = true := by have := M.cmp_nonneg HM.out; rw [HZ.out] at this; simpa using this
 go_upto_region 4 with (fail)
 refine wp_region_S [(0, 0), (1, 0), (2, 0), (3, 0), (4, 1), (5, 0)] fun wd hb => ?_
 replace E := hid (E.out.trans hb)
 replace B3 := hid (B3.out.up hb)
 replace C1 := hid (C1.out.up hb)
 replace C2 := hid (C2.out.up hb)
 replace R1 := hid (R1.out.up hb)
 replace R2 := hid (R2.out.up hb)
 clear hb
 refine WE.p 24 (.pointer (some ⟨gC1, 1, none⟩)) ?_
 refine WE.q 25 (.slice A1 n1 c1) rfl (fun w' hk => by have c1 := (C1.out.up hk).k 1; go_simp) ?_
 refine WE.p 26 (.pointer (some ⟨gC2, 1, none⟩)) ?_
 refine WE.q 27 (.slice A2 n2 c2) rfl (fun w' hk => by have c1 := (C2.out.up hk).k 1; go_simp) ?_
 refine WE.call (d := some 28) rfl rfl (by rfl) (f := 71) (args := #[(.slice A1 n1 c1), (.slice A2 n2 c2)]) (by go_simp) ?_
 refine (rcmp_n R1.out R2.out HZ.out).mono ?_
 rintro e wn ⟨rfl, hb⟩
 refine ⟨_, rfl, hb, ?_⟩
 replace E := hid (E.out.trans hb)
 replace B3 := hid (B3.out.up hb)
 replace C1 := hid (C1.out.up hb)
 replace C2 := hid (C2.out.up hb)
 replace R1 := hid (R1.out.up hb)
 replace R2 := hid (R2.out.up hb)
 clear hb
 refine WE.p 29 (.bool true) ?_
 simp only [Act.put, pA, pB, pC]
 refine WE.done ?_
 go_upto_region 5 with (fail)
 refine wp_region_D [(0, 0), (1, 0), (2, 0), (3, 0), (4, 0), (5, 0), (6, 1), (7, 1), (8, 4)] fun wd hb => ?_
 replace E := hid (E.out.trans hb)
 replace B3 := hid (B3.out.up hb)
 replace C1 := hid (C1.out.up hb)
 replace C2 := hid (C2.out.up hb)
 replace R1 := hid (R1.out.up hb)
 replace R2 := hid (R2.out.up hb)
 clear hb
 refine WE.p 30 (.pointer (some ⟨gC1, 0, none⟩)) ?_
 refine WE.q 31 (.bool g1) rfl (fun w' hk => by have c0 := (C1.out.up hk).k 0; go_simp) ?_
 refine WE.p 32 (.pointer (some ⟨gC1, 1, none⟩)) ?_
 refine WE.q 33 (.slice A1 n1 c1) rfl (fun w' hk => by have c1 := (C1.out.up hk).k 1; go_simp) ?_
 refine WE.p 34 (.pointer (some ⟨gC2, 1, none⟩)) ?_
 refine WE.q 35 (.slice A2 n2 c2) rfl (fun w' hk => by have c1 := (C2.out.up hk).k 1; go_simp) ?_
 simp only [Act.put, pA, pB, pC]
 refine WE.call (d := some 36) rfl rfl (by rfl) (f := 72) (args := #[(.slice A1 n1 c1), (.slice A2 n2 c2)]) (by go_simp) ?_
 refine (rsub_n R1.out R2.out HJ.out).mono ?_
 rintro e wn ⟨vx, rfl, hx, hb⟩
 obtain ⟨A3, n3, c3, rfl⟩ := hx.1.slice
 refine ⟨_, rfl, hb, ?_⟩
 replace E := hid (E.out.trans hb)
 replace B3 := hid (B3.out.up hb)
 have R3 := hid hx
 clear hb hx
 refine WE.call (d := some 37) rfl rfl (by rfl) (f := 69) (args := #[(.bool g1), (.slice A3 n3 c3)]) (by go_simp) ?_
 refine (rsign_n R3.out (Z := Z + Y) (by have hm := HM.out; have hc := HC.out; simp only [beq_eq_false_iff_ne, ne_eq, decide_eq_decide] at hc; omega) (fun h => by have hm := HM.out; have hc := HC.out; rw [HS1.out]; simp only [beq_eq_false_iff_ne, ne_eq, decide_eq_decide] at hc ⊢; omega)).mono ?_
 rintro e wn ⟨vx, rfl, hx, hb⟩
 obtain ⟨g4, A4, n4, c4, rfl, hs4, hr4⟩ := hx.form
 clear hx
 refine ⟨_, rfl, hb, ?_⟩
 replace E := hid (E.out.trans hb)
 replace B3 := hid (B3.out.up hb)
 have HS4 := hid hs4
 have R4 := hid hr4
 clear hb hs4 hr4
 simp only [Act.put, pA, pB, pC]
 refine WE.store2 (g := (w.heap.size + 2)) (x := .bool g4) (y := .slice A4 n4 c4) (t := 25) rfl rfl (by rfl) (fun w hb => ?_) B3.out (by rfl) fun ws hk hs => ?_
 ·have c0 := hb.k 0; have f0 := hb.free 0; have c1 := hb.k 1; have f1 := hb.free 1; go_simp
 intro hbx
 replace E := hid (E.out.keptG hk (by simp))
 replace B3 := hid hbx
 replace R4 := hid (R4.out.kz hs)
 clear hk hs hbx
 refine WE.done ?_
 have r0 := B3.out.cell (o := 0) (v := .bool g4) rfl
 have r1 := B3.out.cell (o := 1) (v := .slice A4 n4 c4) rfl
 go_wp2
 exact bodyPost_ret (v := .agg #[.bool g4, .slice A4 n4 c4]) (by simp [results, Tryz.results36, go_sem, r0, r1]) rfl ⟨_, rfl, IsZ.mk HS4.out (R4.out.wide (by omega)), E.out⟩

set_option maxHeartbeats 1000000 in
theorem rAdd_less {w : World} {u v : Value} {Z Y : Int} {j k : Nat} (hu : Worth w u Z j) (hv : Worth w v Y k) (hj : j ≤ 100000000) (hk : k ≤ 100000000) (hc : (decide (Z < 0) == decide (Y < 0)) = false) (hm : Z.natAbs < Y.natAbs) :
 Calls Tryz.prog 36 #[u, v] w (GivesZ w (Z + Y) (max j k + 1)) := by
 obtain ⟨g, A, n, c, rfl⟩ := hu.shape
 obtain ⟨g', A', n', c', rfl⟩ := hv.shape
 have R := hid hu
 have R' := hid hv
 clear hu hv
 have HK := hid hk
 clear hj hk
 have HC := hid hc
 clear hc
 have HM := hid hm
 clear hm
 go_enter Tryz.func36, Tryz.ntmps36
 go_upto_region 1 with (fail)
 obtain ⟨E, B1, B2, B3⟩ := open3 w #[.bool g, .slice A n c] 25 #[.bool g', .slice A' n' c'] 25 #[.bool false, .slice none 0 0] 25
 replace R := hid (R.out.up E.out)
 replace R' := hid (R'.out.up E.out)
 refine wp_region_L [(0, 0), (2, 0), (1, 2), (3, 2), (4, 3), (5, 3), (6, 4), (7, 4)] 25 #[.bool false, .slice none 0 0] fun wd hb => ?_
 replace E := hid (E.out.trans hb)
 replace B1 := hid (B1.out.up hb)
 replace B2 := hid (B2.out.up hb)
 replace B3 := hid (B3.out.up hb)
 replace R := hid (R.out.up hb)
 replace R' := hid (R'.out.up hb)
 clear hb
 have HL1B1 := hid B1.out.lt
 have HL1B2 := hid B2.out.lt
 have HL1B3 := hid B3.out.lt
 have HW1 := hid (show w.heap.size ≤ wd.heap.size from E.out.size)
 refine WE.q 7 (.agg #[.bool g, .slice A n c]) rfl (fun w' hk => by have c0 := (B1.out.up hk).k 0; have c1 := (B1.out.up hk).k 1; go_simp) ?_
 refine WE.q 9 (.agg #[.bool g', .slice A' n' c']) rfl (fun w' hk => by have c0 := (B2.out.up hk).k 0; have c1 := (B2.out.up hk).k 1; go_simp) ?_
 refine WE.callR (d := some 8) rfl rfl (by rfl) (f := 60) (args := #[(.agg #[.bool g, .slice A n c])]) (fun w => by go_simp) (fun wx hx0 => ?_)
 replace E := hid (E.out.trans hx0)
 replace B3 := hid (B3.out.up hx0)
 replace R := hid (R.out.up hx0)
 replace R' := hid (R'.out.up hx0)
 clear hx0
 refine (rMay_w R.out).mono ?_
 rintro e wn ⟨vx, rfl, hx, hb⟩
 obtain ⟨g1, A1, n1, c1, rfl, hs1, hr1⟩ := hx.form
 clear hx
 refine ⟨_, rfl, hb, ?_⟩
 replace E := hid (E.out.trans hb)
 replace B3 := hid (B3.out.up hb)
 replace R' := hid (R'.out.up hb)
 have HS1 := hid hs1
 have R1 := hid hr1
 clear hb hs1 hr1
 refine WE.callR (d := some 10) rfl rfl (by rfl) (f := 60) (args := #[(.agg #[.bool g', .slice A' n' c'])]) (fun w => by go_simp) (fun wx hx0 => ?_)
 replace E := hid (E.out.trans hx0)
 replace B3 := hid (B3.out.up hx0)
 replace R' := hid (R'.out.up hx0)
 replace R1 := hid (R1.out.up hx0)
 clear hx0
 refine (rMay_w R'.out).mono ?_
 rintro e wn ⟨vx, rfl, hx, hb⟩
 obtain ⟨g2, A2, n2, c2, rfl, hs2, hr2⟩ := hx.form
 clear hx
 refine ⟨_, rfl, hb, ?_⟩
 replace E := hid (E.out.trans hb)
 replace B3 := hid (B3.out.up hb)
 replace R1 := hid (R1.out.up hb)
 have HS2 := hid hs2
 have R2 := hid hr2
 clear hb hs2 hr2
 simp only [Act.put, pA, pB, pC]
 refine WE.var (d := some 5) rfl fun gC1 wv hx0 hbox hge hng => ?_
 have HNC1B3 := hid (show gC1 ≠ (w.heap.size + 2) by have := HL1B3.out; omega)
 have HGC1 := hid (show w.heap.size ≤ gC1 by have := HW1.out; omega)
 replace E := hid (E.out.trans hx0)
 replace B3 := hid (B3.out.up hx0)
 replace R1 := hid (R1.out.up hx0)
 replace R2 := hid (R2.out.up hx0)
 have C1 : Hid (Box wv gC1 #[.bool false, .slice none 0 0] 25) := hid hbox
 clear hx0 hbox hge hng
 simp only [Act.put, pA, pB, pC]
 refine WE.var (d := some 6) rfl fun gC2 wv hx0 hbox hge hng => ?_
 have HNC2B3 := hid (show gC2 ≠ (w.heap.size + 2) by have := HL1B3.out; omega)
 have HNC2C1 := hid (show gC2 ≠ gC1 by intro e; exact hng (by simp [e]))
 have HGC2 := hid (show w.heap.size ≤ gC2 by have := HW1.out; omega)
 replace E := hid (E.out.trans hx0)
 replace B3 := hid (B3.out.up hx0)
 replace C1 := hid (C1.out.up hx0)
 replace R1 := hid (R1.out.up hx0)
 replace R2 := hid (R2.out.up hx0)
 have C2 : Hid (Box wv gC2 #[.bool false, .slice none 0 0] 25) := hid hbox
 clear hx0 hbox hge hng
 simp only [Act.put, pA, pB, pC]
 refine WE.store2 (g := gC1) (x := .bool g1) (y := .slice A1 n1 c1) (t := 25) rfl rfl (by rfl) (fun w hb => ?_) C1.out (by rfl) fun ws hk hs => ?_
 ·have c0 := hb.k 0; have f0 := hb.free 0; have c1 := hb.k 1; have f1 := hb.free 1; go_simp
 intro hbx
 replace E := hid (E.out.keptG hk HGC1.out)
 replace B3 := hid (B3.out.kept hk (by simpa using HNC1B3.out.symm))
 replace C1 := hid hbx
 replace C2 := hid (C2.out.kept hk (by simpa using HNC2C1.out))
 replace R1 := hid (R1.out.kz hs)
 replace R2 := hid (R2.out.kz hs)
 clear hk hs hbx
 refine WE.store2 (g := gC2) (x := .bool g2) (y := .slice A2 n2 c2) (t := 25) rfl rfl (by rfl) (fun w hb => ?_) C2.out (by rfl) fun ws hk hs => ?_
 ·have c0 := hb.k 0; have f0 := hb.free 0; have c1 := hb.k 1; have f1 := hb.free 1; go_simp
 intro hbx
 replace E := hid (E.out.keptG hk HGC2.out)
 replace B3 := hid (B3.out.kept hk (by simpa using HNC2B3.out.symm))
 replace C1 := hid (C1.out.kept hk (by simpa using HNC2C1.out.symm))
 replace C2 := hid hbx
 replace R1 := hid (R1.out.kz hs)
 replace R2 := hid (R2.out.kz hs)
 clear hk hs hbx
 refine WE.done ?_
 have hgg : (g1 == g2) = false := by rw [HS1.out, HS2.out]; exact HC.out
 go_upto_region 2 with (fail)
 refine wp_region_S [(0, 0), (1, 0), (2, 0), (3, 0), (4, 0)] fun wd hb => ?_
 replace E := hid (E.out.trans hb)
 replace B3 := hid (B3.out.up hb)
 replace C1 := hid (C1.out.up hb)
 replace C2 := hid (C2.out.up hb)
 replace R1 := hid (R1.out.up hb)
 replace R2 := hid (R2.out.up hb)
 clear hb
 refine WE.p 11 (.pointer (some ⟨gC1, 0, none⟩)) ?_
 refine WE.q 12 (.bool g1) rfl (fun w' hk => by have c0 := (C1.out.up hk).k 0; go_simp) ?_
 refine WE.p 13 (.pointer (some ⟨gC2, 0, none⟩)) ?_
 refine WE.q 14 (.bool g2) rfl (fun w' hk => by have c0 := (C2.out.up hk).k 0; go_simp) ?_
 refine WE.p 15 (.bool false) ?_
 simp only [Act.put, pA, pB, pC]
 refine WE.done ?_
 obtain ⟨z, hz⟩ : ∃ z : Int, M.cmp Z.natAbs Y.natAbs = z := ⟨_, rfl⟩
 have HZ := hid hz
 clear hz
 have hzz : decide (0 ≤ z) = false := by have := M.cmp_lt HM.out; rw [HZ.out] at this; simp; omega
 go_upto_region 4 with (fail)
 refine wp_region_S [(0, 0), (1, 0), (2, 0), (3, 0), (4, 1), (5, 0)] fun wd hb => ?_
 replace E := hid (E.out.trans hb)
 replace B3 := hid (B3.out.up hb)
 replace C1 := hid (C1.out.up hb)
 replace C2 := hid (C2.out.up hb)
 replace R1 := hid (R1.out.up hb)
 replace R2 := hid (R2.out.up hb)
 clear hb
 refine WE.p 24 (.pointer (some ⟨gC1, 1, none⟩)) ?_
 refine WE.q 25 (.slice A1 n1 c1) rfl (fun w' hk => by have c1 := (C1.out.up hk).k 1; go_simp) ?_
 refine WE.p 26 (.pointer (some ⟨gC2, 1, none⟩)) ?_
 refine WE.q 27 (.slice A2 n2 c2) rfl (fun w' hk => by have c1 := (C2.out.up hk).k 1; go_simp) ?_
 refine WE.call (d := some 28) rfl rfl (by rfl) (f := 71) (args := #[(.slice A1 n1 c1), (.slice A2 n2 c2)]) (by go_simp) ?_
 refine (rcmp_n R1.out R2.out HZ.out).mono ?_
 rintro e wn ⟨rfl, hb⟩
 refine ⟨_, rfl, hb, ?_⟩
 replace E := hid (E.out.trans hb)
 replace B3 := hid (B3.out.up hb)
 replace C1 := hid (C1.out.up hb)
 replace C2 := hid (C2.out.up hb)
 replace R1 := hid (R1.out.up hb)
 replace R2 := hid (R2.out.up hb)
 clear hb
 refine WE.p 29 (.bool false) ?_
 simp only [Act.put, pA, pB, pC]
 refine WE.done ?_
 go_upto_region 6 with (fail)
 refine wp_region_D [(0, 0), (1, 0), (2, 0), (3, 0), (4, 0), (5, 0), (6, 1), (7, 1), (8, 4)] fun wd hb => ?_
 replace E := hid (E.out.trans hb)
 replace B3 := hid (B3.out.up hb)
 replace C1 := hid (C1.out.up hb)
 replace C2 := hid (C2.out.up hb)
 replace R1 := hid (R1.out.up hb)
 replace R2 := hid (R2.out.up hb)
 clear hb
 refine WE.p 38 (.pointer (some ⟨gC2, 0, none⟩)) ?_
 refine WE.q 39 (.bool g2) rfl (fun w' hk => by have c0 := (C2.out.up hk).k 0; go_simp) ?_
 refine WE.p 40 (.pointer (some ⟨gC2, 1, none⟩)) ?_
 refine WE.q 41 (.slice A2 n2 c2) rfl (fun w' hk => by have c1 := (C2.out.up hk).k 1; go_simp) ?_
 refine WE.p 42 (.pointer (some ⟨gC1, 1, none⟩)) ?_
 refine WE.q 43 (.slice A1 n1 c1) rfl (fun w' hk => by have c1 := (C1.out.up hk).k 1; go_simp) ?_
 simp only [Act.put, pA, pB, pC]
 refine WE.call (d := some 44) rfl rfl (by rfl) (f := 72) (args := #[(.slice A2 n2 c2), (.slice A1 n1 c1)]) (by go_simp) ?_
 refine (rsub_n R2.out R1.out HK.out).mono ?_
 rintro e wn ⟨vx, rfl, hx, hb⟩
 obtain ⟨A3, n3, c3, rfl⟩ := hx.1.slice
 refine ⟨_, rfl, hb, ?_⟩
 replace E := hid (E.out.trans hb)
 replace B3 := hid (B3.out.up hb)
 have R3 := hid hx
 clear hb hx
 refine WE.call (d := some 45) rfl rfl (by rfl) (f := 69) (args := #[(.bool g2), (.slice A3 n3 c3)]) (by go_simp) ?_
 refine (rsign_n R3.out (Z := Z + Y) (by have hm := HM.out; have hc := HC.out; simp only [beq_eq_false_iff_ne, ne_eq, decide_eq_decide] at hc; omega) (fun h => by have hm := HM.out; have hc := HC.out; rw [HS2.out]; simp only [beq_eq_false_iff_ne, ne_eq, decide_eq_decide] at hc ⊢; omega)).mono ?_
 rintro e wn ⟨vx, rfl, hx, hb⟩
 obtain ⟨g4, A4, n4, c4, rfl, hs4, hr4⟩ := hx.form
 clear hx
 refine ⟨_, rfl, hb, ?_⟩
 replace E := hid (E.out.trans hb)
 replace B3 := hid (B3.out.up hb)
 have HS4 := hid hs4
 have R4 := hid hr4
 clear hb hs4 hr4
 simp only [Act.put, pA, pB, pC]
 refine WE.store2 (g := (w.heap.size + 2)) (x := .bool g4) (y := .slice A4 n4 c4) (t := 25) rfl rfl (by rfl) (fun w hb => ?_) B3.out (by rfl) fun ws hk hs => ?_
 ·have c0 := hb.k 0; have f0 := hb.free 0; have c1 := hb.k 1; have f1 := hb.free 1; go_simp
 intro hbx
 replace E := hid (E.out.keptG hk (by simp))
 replace B3 := hid hbx
 replace R4 := hid (R4.out.kz hs)
 clear hk hs hbx
 refine WE.done ?_
 have r0 := B3.out.cell (o := 0) (v := .bool g4) rfl
 have r1 := B3.out.cell (o := 1) (v := .slice A4 n4 c4) rfl
 go_wp2
 exact bodyPost_ret (v := .agg #[.bool g4, .slice A4 n4 c4]) (by simp [results, Tryz.results36, go_sem, r0, r1]) rfl ⟨_, rfl, IsZ.mk HS4.out (R4.out.wide (by omega)), E.out⟩

theorem rAdd_w {w : World} {u v : Value} {Z Y : Int} {j k : Nat} (hu : Worth w u Z j) (hv : Worth w v Y k) (hj : j ≤ 100000000) (hk : k ≤ 100000000) : Calls Tryz.prog 36 #[u, v] w (GivesZ w (Z + Y) (max j k + 1)) := by
 cases hc : (decide (Z < 0) == decide (Y < 0))
 ·rcases Nat.lt_or_ge Z.natAbs Y.natAbs with h | h
  ·exact rAdd_less hu hv hj hk hc h
  ·exact rAdd_more hu hv hj hk hc h
 ·exact rAdd_like hu hv hj hk hc

set_option maxHeartbeats 1000000 in
theorem rSub_w {w : World} {u v : Value} {Z Y : Int} {j k : Nat} (hu : Worth w u Z j) (hv : Worth w v Y k) (hj : j ≤ 100000000) (hk : k ≤ 100000000) :
 Calls Tryz.prog 37 #[u, v] w (GivesZ w (Z - Y) (max j k + 1)) := by
 obtain ⟨g, A, n, c, rfl⟩ := hu.shape
 obtain ⟨g', A', n', c', rfl⟩ := hv.shape
 have R := hid hu
 have R' := hid hv
 clear hu hv
 have HJ := hid hj
 have HK := hid hk
 clear hj hk
 go_enter Tryz.func37, Tryz.ntmps37
 go_upto_region 1 with (fail)
 obtain ⟨E, B1, B2, B3⟩ := open3 w #[.bool g, .slice A n c] 25 #[.bool g', .slice A' n' c'] 25 #[.bool false, .slice none 0 0] 25
 replace R := hid (R.out.up E.out)
 replace R' := hid (R'.out.up E.out)
 refine wp_region_D [(0, 0), (1, 0), (2, 1), (3, 1), (4, 4)] fun wd hb => ?_
 replace E := hid (E.out.trans hb)
 replace B1 := hid (B1.out.up hb)
 replace B2 := hid (B2.out.up hb)
 replace B3 := hid (B3.out.up hb)
 replace R := hid (R.out.up hb)
 replace R' := hid (R'.out.up hb)
 clear hb
 refine WE.q 5 (.agg #[.bool g, .slice A n c]) rfl (fun w' hk => by have c0 := (B1.out.up hk).k 0; have c1 := (B1.out.up hk).k 1; go_simp) ?_
 refine WE.q 6 (.agg #[.bool g', .slice A' n' c']) rfl (fun w' hk => by have c0 := (B2.out.up hk).k 0; have c1 := (B2.out.up hk).k 1; go_simp) ?_
 refine WE.call (d := some 7) rfl rfl (by rfl) (f := 73) (args := #[(.agg #[.bool g', .slice A' n' c'])]) (by go_simp) ?_
 refine (rNeg_w R'.out).mono ?_
 rintro e wn ⟨vx, rfl, hx, hb⟩
 obtain ⟨g1, A1, n1, c1, rfl, hs1, hr1⟩ := hx.form
 clear hx
 refine ⟨_, rfl, hb, ?_⟩
 replace E := hid (E.out.trans hb)
 replace B3 := hid (B3.out.up hb)
 replace R := hid (R.out.up hb)
 have HS1 := hid hs1
 have R1 := hid hr1
 clear hb hs1 hr1
 refine WE.call (d := some 8) rfl rfl (by rfl) (f := 36) (args := #[(.agg #[.bool g, .slice A n c]), (.agg #[.bool g1, .slice A1 n1 c1])]) (by go_simp) ?_
 refine (rAdd_w R.out (IsZ.mk HS1.out R1.out).worth HJ.out HK.out).mono ?_
 rintro e wn ⟨vx, rfl, hx, hb⟩
 obtain ⟨g2, A2, n2, c2, rfl, hs2, hr2⟩ := hx.form
 clear hx
 refine ⟨_, rfl, hb, ?_⟩
 replace E := hid (E.out.trans hb)
 replace B3 := hid (B3.out.up hb)
 have HS2 := hid hs2
 have R2 := hid hr2
 clear hb hs2 hr2
 simp only [Act.put, pA, pB, pC]
 refine WE.store2 (g := (w.heap.size + 2)) (x := .bool g2) (y := .slice A2 n2 c2) (t := 25) rfl rfl (by rfl) (fun w hb => ?_) B3.out (by rfl) fun ws hk hs => ?_
 ·have c0 := hb.k 0; have f0 := hb.free 0; have c1 := hb.k 1; have f1 := hb.free 1; go_simp
 intro hbx
 replace E := hid (E.out.keptG hk (by simp))
 replace B3 := hid hbx
 replace R2 := hid (R2.out.kz hs)
 clear hk hs hbx
 refine WE.done ?_
 have r0 := B3.out.cell (o := 0) (v := .bool g2) rfl
 have r1 := B3.out.cell (o := 1) (v := .slice A2 n2 c2) rfl
 go_wp2
 exact bodyPost_ret (v := .agg #[.bool g2, .slice A2 n2 c2]) (by simp [results, Tryz.results37, go_sem, r0, r1]) rfl ⟨_, rfl, IsZ.to (IsZ.mk HS2.out R2.out) (by omega), E.out⟩

theorem rmul_N {w : World} {u v : Value} {a b j k : Nat} (hu : IsN w u a j) (hv : IsN w v b k) (hj : j ≤ 1000000) (hk : k ≤ 1000000) :
 Calls Tryz.prog 74 #[u, v] w (GivesN w (a * b) (j + k)) := by
 have h := rmul_n hu.1 hv.1 hu.2 hv.2 hj hk
 rw [M.nv_limbs, M.nv_limbs] at h
 exact h
theorem rdiv_N {w : World} {u v : Value} {a b j k : Nat} (hu : IsN w u a j) (hv : IsN w v b k) (hj : j ≤ 1000000) (hk : k ≤ 1000000) :
 Calls Tryz.prog 100 #[u, v] w (GivesN2 w (a / b) j (a % b) (max j k)) := by
 have h := rdiv_n hu.1 hv.1 hu.2 hv.2 hj hk
 rw [M.nv_limbs, M.nv_limbs] at h
 exact h

theorem M.mul_side {Z Y : Int} (h : Z.natAbs * Y.natAbs ≠ 0) : (decide (Z < 0) != decide (Y < 0)) = decide (Z * Y < 0) := by
 have hz : Z ≠ 0 := by rintro rfl; simp at h
 have hy : Y ≠ 0 := by rintro rfl; simp at h
 rcases (by omega : Z < 0 ∨ 0 < Z) with a | a <;> rcases (by omega : Y < 0 ∨ 0 < Y) with b | b
 ·have := Int.mul_pos_of_neg_of_neg a b
  rw [decide_eq_true a, decide_eq_true b, decide_eq_false (by omega)]; rfl
 ·have := Int.mul_neg_of_neg_of_pos a b
  rw [decide_eq_true a, decide_eq_false (show ¬ Y < 0 by omega), decide_eq_true this]; rfl
 ·have := Int.mul_neg_of_pos_of_neg a b
  rw [decide_eq_false (show ¬ Z < 0 by omega), decide_eq_true b, decide_eq_true this]; rfl
 ·have := Int.mul_pos a b
  rw [decide_eq_false (show ¬ Z < 0 by omega), decide_eq_false (show ¬ Y < 0 by omega), decide_eq_false (by omega)]; rfl

set_option maxHeartbeats 1000000 in
theorem rMul_w {w : World} {u v : Value} {Z Y : Int} {j k : Nat} (hu : Worth w u Z j) (hv : Worth w v Y k) (hj : j ≤ 1000000) (hk : k ≤ 1000000) :
 Calls Tryz.prog 38 #[u, v] w (GivesZ w (Z * Y) (j + k)) := by
 obtain ⟨g, A, n, c, rfl⟩ := hu.shape
 obtain ⟨g', A', n', c', rfl⟩ := hv.shape
 have R := hid hu
 have R' := hid hv
 clear hu hv
 have HJ := hid hj
 have HK := hid hk
 clear hj hk
 go_enter Tryz.func38, Tryz.ntmps38
 go_upto_region 1 with (fail)
 obtain ⟨E, B1, B2, B3⟩ := open3 w #[.bool g, .slice A n c] 25 #[.bool g', .slice A' n' c'] 25 #[.bool false, .slice none 0 0] 25
 replace R := hid (R.out.up E.out)
 replace R' := hid (R'.out.up E.out)
 refine wp_region_L [(0, 0), (2, 0), (1, 2), (3, 2), (4, 3), (5, 3), (6, 4), (7, 4)] 25 #[.bool false, .slice none 0 0] fun wd hb => ?_
 replace E := hid (E.out.trans hb)
 replace B1 := hid (B1.out.up hb)
 replace B2 := hid (B2.out.up hb)
 replace B3 := hid (B3.out.up hb)
 replace R := hid (R.out.up hb)
 replace R' := hid (R'.out.up hb)
 clear hb
 have HL1B1 := hid B1.out.lt
 have HL1B2 := hid B2.out.lt
 have HL1B3 := hid B3.out.lt
 have HW1 := hid (show w.heap.size ≤ wd.heap.size from E.out.size)
 refine WE.q 7 (.agg #[.bool g, .slice A n c]) rfl (fun w' hk => by have c0 := (B1.out.up hk).k 0; have c1 := (B1.out.up hk).k 1; go_simp) ?_
 refine WE.q 9 (.agg #[.bool g', .slice A' n' c']) rfl (fun w' hk => by have c0 := (B2.out.up hk).k 0; have c1 := (B2.out.up hk).k 1; go_simp) ?_
 refine WE.callR (d := some 8) rfl rfl (by rfl) (f := 60) (args := #[(.agg #[.bool g, .slice A n c])]) (fun w => by go_simp) (fun wx hx0 => ?_)
 replace E := hid (E.out.trans hx0)
 replace B3 := hid (B3.out.up hx0)
 replace R := hid (R.out.up hx0)
 replace R' := hid (R'.out.up hx0)
 clear hx0
 refine (rMay_w R.out).mono ?_
 rintro e wn ⟨vx, rfl, hx, hb⟩
 obtain ⟨g1, A1, n1, c1, rfl, hs1, hr1⟩ := hx.form
 clear hx
 refine ⟨_, rfl, hb, ?_⟩
 replace E := hid (E.out.trans hb)
 replace B3 := hid (B3.out.up hb)
 replace R' := hid (R'.out.up hb)
 have HS1 := hid hs1
 have R1 := hid hr1
 clear hb hs1 hr1
 refine WE.callR (d := some 10) rfl rfl (by rfl) (f := 60) (args := #[(.agg #[.bool g', .slice A' n' c'])]) (fun w => by go_simp) (fun wx hx0 => ?_)
 replace E := hid (E.out.trans hx0)
 replace B3 := hid (B3.out.up hx0)
 replace R' := hid (R'.out.up hx0)
 replace R1 := hid (R1.out.up hx0)
 clear hx0
 refine (rMay_w R'.out).mono ?_
 rintro e wn ⟨vx, rfl, hx, hb⟩
 obtain ⟨g2, A2, n2, c2, rfl, hs2, hr2⟩ := hx.form
 clear hx
 refine ⟨_, rfl, hb, ?_⟩
 replace E := hid (E.out.trans hb)
 replace B3 := hid (B3.out.up hb)
 replace R1 := hid (R1.out.up hb)
 have HS2 := hid hs2
 have R2 := hid hr2
 clear hb hs2 hr2
 simp only [Act.put, pA, pB, pC]
 refine WE.var (d := some 5) rfl fun gC1 wv hx0 hbox hge hng => ?_
 have HNC1B3 := hid (show gC1 ≠ (w.heap.size + 2) by have := HL1B3.out; omega)
 have HGC1 := hid (show w.heap.size ≤ gC1 by have := HW1.out; omega)
 replace E := hid (E.out.trans hx0)
 replace B3 := hid (B3.out.up hx0)
 replace R1 := hid (R1.out.up hx0)
 replace R2 := hid (R2.out.up hx0)
 have C1 : Hid (Box wv gC1 #[.bool false, .slice none 0 0] 25) := hid hbox
 clear hx0 hbox hge hng
 simp only [Act.put, pA, pB, pC]
 refine WE.var (d := some 6) rfl fun gC2 wv hx0 hbox hge hng => ?_
 have HNC2B3 := hid (show gC2 ≠ (w.heap.size + 2) by have := HL1B3.out; omega)
 have HNC2C1 := hid (show gC2 ≠ gC1 by intro e; exact hng (by simp [e]))
 have HGC2 := hid (show w.heap.size ≤ gC2 by have := HW1.out; omega)
 replace E := hid (E.out.trans hx0)
 replace B3 := hid (B3.out.up hx0)
 replace C1 := hid (C1.out.up hx0)
 replace R1 := hid (R1.out.up hx0)
 replace R2 := hid (R2.out.up hx0)
 have C2 : Hid (Box wv gC2 #[.bool false, .slice none 0 0] 25) := hid hbox
 clear hx0 hbox hge hng
 simp only [Act.put, pA, pB, pC]
 refine WE.store2 (g := gC1) (x := .bool g1) (y := .slice A1 n1 c1) (t := 25) rfl rfl (by rfl) (fun w hb => ?_) C1.out (by rfl) fun ws hk hs => ?_
 ·have c0 := hb.k 0; have f0 := hb.free 0; have c1 := hb.k 1; have f1 := hb.free 1; go_simp
 intro hbx
 replace E := hid (E.out.keptG hk HGC1.out)
 replace B3 := hid (B3.out.kept hk (by simpa using HNC1B3.out.symm))
 replace C1 := hid hbx
 replace C2 := hid (C2.out.kept hk (by simpa using HNC2C1.out))
 replace R1 := hid (R1.out.kz hs)
 replace R2 := hid (R2.out.kz hs)
 clear hk hs hbx
 refine WE.store2 (g := gC2) (x := .bool g2) (y := .slice A2 n2 c2) (t := 25) rfl rfl (by rfl) (fun w hb => ?_) C2.out (by rfl) fun ws hk hs => ?_
 ·have c0 := hb.k 0; have f0 := hb.free 0; have c1 := hb.k 1; have f1 := hb.free 1; go_simp
 intro hbx
 replace E := hid (E.out.keptG hk HGC2.out)
 replace B3 := hid (B3.out.kept hk (by simpa using HNC2B3.out.symm))
 replace C1 := hid (C1.out.kept hk (by simpa using HNC2C1.out.symm))
 replace C2 := hid hbx
 replace R1 := hid (R1.out.kz hs)
 replace R2 := hid (R2.out.kz hs)
 clear hk hs hbx
 refine WE.done ?_
 go_upto_region 2 with (fail)
 refine wp_region_D [(0, 0), (1, 0), (2, 0), (3, 0), (4, 0), (5, 0), (6, 0), (7, 0), (8, 0), (9, 1), (10, 1), (11, 4)] fun wd hb => ?_
 replace E := hid (E.out.trans hb)
 replace B3 := hid (B3.out.up hb)
 replace C1 := hid (C1.out.up hb)
 replace C2 := hid (C2.out.up hb)
 replace R1 := hid (R1.out.up hb)
 replace R2 := hid (R2.out.up hb)
 clear hb
 refine WE.p 11 (.pointer (some ⟨gC1, 0, none⟩)) ?_
 refine WE.q 12 (.bool g1) rfl (fun w' hk => by have c0 := (C1.out.up hk).k 0; go_simp) ?_
 refine WE.p 13 (.pointer (some ⟨gC2, 0, none⟩)) ?_
 refine WE.q 14 (.bool g2) rfl (fun w' hk => by have c0 := (C2.out.up hk).k 0; go_simp) ?_
 refine WE.p 15 (.bool (!(g1 == g2))) ?_
 refine WE.p 16 (.pointer (some ⟨gC1, 1, none⟩)) ?_
 simp only [Act.put, pA, pB, pC]
 refine WE.q 17 (.slice A1 n1 c1) rfl (fun w' hk => by have c1 := (C1.out.up hk).k 1; go_simp) ?_
 refine WE.p 18 (.pointer (some ⟨gC2, 1, none⟩)) ?_
 refine WE.q 19 (.slice A2 n2 c2) rfl (fun w' hk => by have c1 := (C2.out.up hk).k 1; go_simp) ?_
 refine WE.call (d := some 20) rfl rfl (by rfl) (f := 74) (args := #[(.slice A1 n1 c1), (.slice A2 n2 c2)]) (by go_simp) ?_
 refine (rmul_N R1.out R2.out HJ.out HK.out).mono ?_
 rintro e wn ⟨vx, rfl, hx, hb⟩
 obtain ⟨A3, n3, c3, rfl⟩ := hx.1.slice
 refine ⟨_, rfl, hb, ?_⟩
 replace E := hid (E.out.trans hb)
 replace B3 := hid (B3.out.up hb)
 have R3 := hid hx
 clear hb hx
 refine WE.call (d := some 21) rfl rfl (by rfl) (f := 69) (args := #[(.bool (!(g1 == g2))), (.slice A3 n3 c3)]) (by go_simp) ?_
 refine (rsign_n R3.out (Z := Z * Y) (Int.natAbs_mul Z Y).symm (fun h => by rw [HS1.out, HS2.out]; exact M.mul_side h)).mono ?_
 rintro e wn ⟨vx, rfl, hx, hb⟩
 obtain ⟨g4, A4, n4, c4, rfl, hs4, hr4⟩ := hx.form
 clear hx
 refine ⟨_, rfl, hb, ?_⟩
 replace E := hid (E.out.trans hb)
 replace B3 := hid (B3.out.up hb)
 have HS4 := hid hs4
 have R4 := hid hr4
 clear hb hs4 hr4
 simp only [Act.put, pA, pB, pC]
 refine WE.store2 (g := (w.heap.size + 2)) (x := .bool g4) (y := .slice A4 n4 c4) (t := 25) rfl rfl (by rfl) (fun w hb => ?_) B3.out (by rfl) fun ws hk hs => ?_
 ·have c0 := hb.k 0; have f0 := hb.free 0; have c1 := hb.k 1; have f1 := hb.free 1; go_simp
 intro hbx
 replace E := hid (E.out.keptG hk (by simp))
 replace B3 := hid hbx
 replace R4 := hid (R4.out.kz hs)
 clear hk hs hbx
 refine WE.done ?_
 have r0 := B3.out.cell (o := 0) (v := .bool g4) rfl
 have r1 := B3.out.cell (o := 1) (v := .slice A4 n4 c4) rfl
 go_wp2
 exact bodyPost_ret (v := .agg #[.bool g4, .slice A4 n4 c4]) (by simp [results, Tryz.results38, go_sem, r0, r1]) rfl ⟨_, rfl, IsZ.mk HS4.out R4.out, E.out⟩

end Go.Proofs.YtklmnmkmpkobhaaGreat
