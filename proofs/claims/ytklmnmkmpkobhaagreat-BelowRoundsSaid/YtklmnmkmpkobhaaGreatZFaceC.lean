/-
  Contracts of package whole's face, over what values are worth.
-/
import Derived.Test.YtklmnmkmpkobhaaGreatJZ
namespace Go.Proofs.YtklmnmkmpkobhaaGreat
open Go.RowKit
set_option linter.unusedSimpArgs false
set_option linter.unusedVariables false

set_option maxHeartbeats 1000000 in
theorem mul_w {w : World} {u v : Value} {Z Y : Int} {j k : Nat} (hu : Worth w u Z j) (hv : Worth w v Y k) (hj : j ≤ 100000000) (hk : k ≤ 100000000) (hm : j < 64 ∨ k < 64) :
 Calls Tryz.prog 66 #[u, v] w (GivesZ w (Z * Y) (j + k)) := by
 obtain ⟨g, A, n, c, rfl⟩ := hu.shape
 obtain ⟨g', A', n', c', rfl⟩ := hv.shape
 have R := hid hu
 have R' := hid hv
 clear hu hv
 have HJ := hid hj
 have HK := hid hk
 have HM := hid hm
 clear hj hk hm
 go_enter Tryz.func66, Tryz.ntmps66
 go_upto_region 1 with (fail)
 obtain ⟨E, B1, B2, B3⟩ := open3 w #[.bool g, .slice A n c] 25 #[.bool g', .slice A' n' c'] 25 #[.bool false, .slice none 0 0] 25
 replace R := hid (R.out.up E.out)
 replace R' := hid (R'.out.up E.out)
 refine wp_region_L [(0, 0), (2, 0), (1, 2), (3, 2), (4, 3), (5, 3), (6, 4), (7, 4)] 86 #[.int .i64 0, .slice none 0 0] fun wd hb => ?_
 replace E := hid (E.out.trans hb)
 replace B1 := hid (B1.out.up hb)
 replace B2 := hid (B2.out.up hb)
 replace B3 := hid (B3.out.up hb)
 replace R := hid (R.out.up hb)
 replace R' := hid (R'.out.up hb)
 clear hb
 have HL1B1 := hid B1.out.lt
 have HL1B2 := hid B2.out.lt
 have HL1B3 := hid B3.out.lt
 have HW1 := hid (show w.heap.size ≤ wd.heap.size from E.out.size)
 refine WE.q 7 (.agg #[.bool g, .slice A n c]) rfl (fun w' hk => by have c0 := (B1.out.up hk).k 0; have c1 := (B1.out.up hk).k 1; go_simp) ?_
 refine WE.q 9 (.agg #[.bool g', .slice A' n' c']) rfl (fun w' hk => by have c0 := (B2.out.up hk).k 0; have c1 := (B2.out.up hk).k 1; go_simp) ?_
 refine WE.callR (d := some 8) rfl rfl (by rfl) (f := 84) (args := #[(.agg #[.bool g, .slice A n c])]) (fun w => by go_simp) (fun wx hx0 => ?_)
 replace E := hid (E.out.trans hx0)
 replace B3 := hid (B3.out.up hx0)
 replace R := hid (R.out.up hx0)
 replace R' := hid (R'.out.up hx0)
 clear hx0
 refine (read_w R.out).mono ?_
 rintro e wn ⟨vx, rfl, hx, hb⟩
 obtain ⟨s1, A1, n1, c1, rfl, hs1, hr1⟩ := hx.form
 clear hx
 refine ⟨_, rfl, hb, ?_⟩
 replace E := hid (E.out.trans hb)
 replace B3 := hid (B3.out.up hb)
 replace R' := hid (R'.out.up hb)
 have HS1 := hid hs1
 have R1 := hid hr1
 clear hb hs1 hr1
 refine WE.callR (d := some 10) rfl rfl (by rfl) (f := 84) (args := #[(.agg #[.bool g', .slice A' n' c'])]) (fun w => by go_simp) (fun wx hx0 => ?_)
 replace E := hid (E.out.trans hx0)
 replace B3 := hid (B3.out.up hx0)
 replace R' := hid (R'.out.up hx0)
 replace R1 := hid (R1.out.up hx0)
 clear hx0
 refine (read_w R'.out).mono ?_
 rintro e wn ⟨vx, rfl, hx, hb⟩
 obtain ⟨s2, A2, n2, c2, rfl, hs2, hr2⟩ := hx.form
 clear hx
 refine ⟨_, rfl, hb, ?_⟩
 replace E := hid (E.out.trans hb)
 replace B3 := hid (B3.out.up hb)
 replace R1 := hid (R1.out.up hb)
 have HS2 := hid hs2
 have R2 := hid hr2
 clear hb hs2 hr2
 simp only [Act.put, pA, pB, pC]
 refine WE.var (d := some 5) rfl fun gC1 wv hx0 hbox hge hng => ?_
 have HNC1B3 := hid (show gC1 ≠ (w.heap.size + 2) by have := HL1B3.out; omega)
 have HGC1 := hid (show w.heap.size ≤ gC1 by have := HW1.out; omega)
 replace E := hid (E.out.trans hx0)
 replace B3 := hid (B3.out.up hx0)
 replace R1 := hid (R1.out.up hx0)
 replace R2 := hid (R2.out.up hx0)
 have C1 : Hid (Box wv gC1 #[.int .i64 0, .slice none 0 0] 86) := hid hbox
 clear hx0 hbox hge hng
 simp only [Act.put, pA, pB, pC]
 refine WE.var (d := some 6) rfl fun gC2 wv hx0 hbox hge hng => ?_
 have HNC2B3 := hid (show gC2 ≠ (w.heap.size + 2) by have := HL1B3.out; omega)
 have HNC2C1 := hid (show gC2 ≠ gC1 by intro e; exact hng (by simp [e]))
 have HGC2 := hid (show w.heap.size ≤ gC2 by have := HW1.out; omega)
 replace E := hid (E.out.trans hx0)
 replace B3 := hid (B3.out.up hx0)
 replace C1 := hid (C1.out.up hx0)
 replace R1 := hid (R1.out.up hx0)
 replace R2 := hid (R2.out.up hx0)
 have C2 : Hid (Box wv gC2 #[.int .i64 0, .slice none 0 0] 86) := hid hbox
 clear hx0 hbox hge hng
 simp only [Act.put, pA, pB, pC]
 refine WE.store2 (g := gC1) (x := .int .i64 s1) (y := .slice A1 n1 c1) (t := 86) rfl rfl (by rfl) (fun w hb => ?_) C1.out (by rfl) fun ws hk hs => ?_
 ·have c0 := hb.k 0; have f0 := hb.free 0; have c1 := hb.k 1; have f1 := hb.free 1; go_simp
 intro hbx
 replace E := hid (E.out.keptG hk HGC1.out)
 replace B3 := hid (B3.out.kept hk (by simpa using HNC1B3.out.symm))
 replace C1 := hid hbx
 replace C2 := hid (C2.out.kept hk (by simpa using HNC2C1.out))
 replace R1 := hid (R1.out.kz hs)
 replace R2 := hid (R2.out.kz hs)
 clear hk hs hbx
 refine WE.store2 (g := gC2) (x := .int .i64 s2) (y := .slice A2 n2 c2) (t := 86) rfl rfl (by rfl) (fun w hb => ?_) C2.out (by rfl) fun ws hk hs => ?_
 ·have c0 := hb.k 0; have f0 := hb.free 0; have c1 := hb.k 1; have f1 := hb.free 1; go_simp
 intro hbx
 replace E := hid (E.out.keptG hk HGC2.out)
 replace B3 := hid (B3.out.kept hk (by simpa using HNC2B3.out.symm))
 replace C1 := hid (C1.out.kept hk (by simpa using HNC2C1.out.symm))
 replace C2 := hid hbx
 replace R1 := hid (R1.out.kz hs)
 replace R2 := hid (R2.out.kz hs)
 clear hk hs hbx
 refine WE.done ?_
 have HD := hid (show -1 ≤ s1 ∧ s1 ≤ 1 by rw [HS1.out]; exact side_of _)
 have HE := hid (show -1 ≤ s2 ∧ s2 ≤ 1 by rw [HS2.out]; exact side_of _)
 go_upto_region 2 with (fail)
 refine wp_region_D [(0, 0), (1, 0), (2, 0), (3, 0), (5, 0), (6, 0), (7, 0), (8, 0), (4, 1), (9, 1), (10, 1), (11, 1), (12, 4)] fun wd hb => ?_
 replace E := hid (E.out.trans hb)
 replace B3 := hid (B3.out.up hb)
 replace C1 := hid (C1.out.up hb)
 replace C2 := hid (C2.out.up hb)
 replace R1 := hid (R1.out.up hb)
 replace R2 := hid (R2.out.up hb)
 clear hb
 refine WE.p 11 (.pointer (some ⟨gC1, 0, none⟩)) ?_
 refine WE.q 12 (.agg #[.int .i64 s1]) rfl (fun w' hk => by have c0 := (C1.out.up hk).k 0; go_simp) ?_
 refine WE.p 13 (.pointer (some ⟨gC2, 0, none⟩)) ?_
 refine WE.q 14 (.agg #[.int .i64 s2]) rfl (fun w' hk => by have c0 := (C2.out.up hk).k 0; go_simp) ?_
 refine WE.p 16 (.pointer (some ⟨gC1, 1, none⟩)) ?_
 refine WE.q 17 (.slice A1 n1 c1) rfl (fun w' hk => by have c1 := (C1.out.up hk).k 1; go_simp) ?_
 simp only [Act.put, pA, pB, pC]
 refine WE.p 18 (.pointer (some ⟨gC2, 1, none⟩)) ?_
 refine WE.q 19 (.slice A2 n2 c2) rfl (fun w' hk => by have c1 := (C2.out.up hk).k 1; go_simp) ?_
 refine WE.call (d := some 15) rfl rfl (by rfl) (f := 96) (args := #[(.agg #[.int .i64 s1]), (.agg #[.int .i64 s2])]) (by go_simp) ?_
 refine (times_s _ s1 s2 HD.out.1 HD.out.2 HE.out.1 HE.out.2).mono ?_
 rintro e wn ⟨rfl, hb⟩
 refine ⟨_, rfl, hb, ?_⟩
 replace E := hid (E.out.trans hb)
 replace B3 := hid (B3.out.up hb)
 replace R1 := hid (R1.out.up hb)
 replace R2 := hid (R2.out.up hb)
 clear hb
 refine WE.call (d := some 20) rfl rfl (by rfl) (f := 97) (args := #[(.slice A1 n1 c1), (.slice A2 n2 c2)]) (by go_simp) ?_
 refine (mul_n R1.out R2.out HJ.out HK.out HM.out).mono ?_
 rintro e wn ⟨vx, rfl, hx, hb⟩
 obtain ⟨A3, n3, c3, rfl⟩ := hx.1.slice
 refine ⟨_, rfl, hb, ?_⟩
 replace E := hid (E.out.trans hb)
 replace B3 := hid (B3.out.up hb)
 have R3 := hid hx
 clear hb hx
 refine WE.call (d := some 21) rfl rfl (by rfl) (f := 95) (args := #[(.agg #[.int .i64 (s1 * s2)]), (.slice A3 n3 c3)]) (by go_simp) ?_
 refine (signed_n R3.out (Z := Z * Y) (Int.natAbs_mul Z Y).symm (fun _ => by rw [HS1.out, HS2.out, Int.sign_mul])).mono ?_
 rintro e wn ⟨vx, rfl, hx, hb⟩
 obtain ⟨s4, A4, n4, c4, rfl, hs4, hr4⟩ := hx.form
 clear hx
 refine ⟨_, rfl, hb, ?_⟩
 replace E := hid (E.out.trans hb)
 replace B3 := hid (B3.out.up hb)
 have HS4 := hid hs4
 have R4 := hid hr4
 clear hb hs4 hr4
 refine WE.call (d := some 22) rfl rfl (by rfl) (f := 94) (args := #[(.agg #[.int .i64 s4, .slice A4 n4 c4])]) (by go_simp) ?_
 refine (told_i (InZ.mk HS4.out R4.out)).mono ?_
 rintro e wn ⟨vx, rfl, hx, hb⟩
 obtain ⟨g5, A5, n5, c5, rfl, hs5, hr5⟩ := hx.form
 clear hx
 refine ⟨_, rfl, hb, ?_⟩
 replace E := hid (E.out.trans hb)
 replace B3 := hid (B3.out.up hb)
 have HS5 := hid hs5
 have R5 := hid hr5
 clear hb hs5 hr5
 simp only [Act.put, pA, pB, pC]
 refine WE.store2 (g := (w.heap.size + 2)) (x := .bool g5) (y := .slice A5 n5 c5) (t := 25) rfl rfl (by rfl) (fun w hb => ?_) B3.out (by rfl) fun ws hk hs => ?_
 ·have c0 := hb.k 0; have f0 := hb.free 0; have c1 := hb.k 1; have f1 := hb.free 1; go_simp
 intro hbx
 replace E := hid (E.out.keptG hk (by simp))
 replace B3 := hid hbx
 replace R5 := hid (R5.out.kz hs)
 clear hk hs hbx
 refine WE.done ?_
 have r0 := B3.out.cell (o := 0) (v := .bool g5) rfl
 have r1 := B3.out.cell (o := 1) (v := .slice A5 n5 c5) rfl
 go_wp2
 exact bodyPost_ret (v := .agg #[.bool g5, .slice A5 n5 c5]) (by simp [results, Tryz.results66, go_sem, r0, r1]) rfl ⟨_, rfl, IsZ.mk HS5.out R5.out, E.out⟩

end Go.Proofs.YtklmnmkmpkobhaaGreat
