/-
  Contracts of package whole's face, over what values are worth.
-/
import Derived.Test.YtklmnmkmpkobhaaGreatJZ
namespace Go.Proofs.YtklmnmkmpkobhaaGreat
open Go.RowKit
set_option linter.unusedSimpArgs false
set_option linter.unusedVariables false

set_option maxHeartbeats 2000000 in
theorem floor_w {w : World} {u v : Value} {Z Y : Int} {j k : Nat} (hu : Worth w u Z j) (hv : Worth w v Y k) (hj : j ≤ 1000000) (hk : k ≤ 1000000) :
 Calls Tryz.prog 122 #[u, v] w (GivesZ2 w (Z.fdiv Y) (max j 3 + 1) (Z.fmod Y) (max j k + 1)) := by
 obtain ⟨g, A, n, c, rfl⟩ := hu.shape
 obtain ⟨g', A', n', c', rfl⟩ := hv.shape
 have R := hid hu
 have R' := hid hv
 clear hu hv
 have HJ := hid hj
 have HK := hid hk
 clear hj hk
 go_enter Tryz.func122, Tryz.ntmps122
 go_upto_region 1 with (fail)
 obtain ⟨E, B1, B2, B3, B4⟩ := open4 w #[.bool g, .slice A n c] 25 #[.bool g', .slice A' n' c'] 25 #[.bool false, .slice none 0 0] 25 #[.bool false, .slice none 0 0] 25
 replace R := hid (R.out.up E.out)
 replace R' := hid (R'.out.up E.out)
 refine wp_region_L [(0, 0), (2, 0), (1, 2), (3, 2), (4, 2), (5, 0), (6, 0), (7, 5), (8, 3), (9, 3), (10, 4), (11, 4)] 86 #[.int .i64 0, .slice none 0 0] fun wd hb => ?_
 replace E := hid (E.out.trans hb)
 replace B1 := hid (B1.out.up hb)
 replace B2 := hid (B2.out.up hb)
 replace B3 := hid (B3.out.up hb)
 replace B4 := hid (B4.out.up hb)
 replace R := hid (R.out.up hb)
 replace R' := hid (R'.out.up hb)
 clear hb
 have HL1B1 := hid B1.out.lt
 have HL1B2 := hid B2.out.lt
 have HL1B3 := hid B3.out.lt
 have HL1B4 := hid B4.out.lt
 have HW1 := hid (show w.heap.size ≤ wd.heap.size from E.out.size)
 refine WE.q 9 (.agg #[.bool g, .slice A n c]) rfl (fun w' hk => by have c0 := (B1.out.up hk).k 0; have c1 := (B1.out.up hk).k 1; go_simp) ?_
 refine WE.q 11 (.agg #[.bool g', .slice A' n' c']) rfl (fun w' hk => by have c0 := (B2.out.up hk).k 0; have c1 := (B2.out.up hk).k 1; go_simp) ?_
 refine WE.callR (d := some 10) rfl rfl (by rfl) (f := 84) (args := #[(.agg #[.bool g, .slice A n c])]) (fun w => by go_simp) (fun wx hx0 => ?_)
 replace E := hid (E.out.trans hx0)
 replace B3 := hid (B3.out.up hx0)
 replace B4 := hid (B4.out.up hx0)
 replace R := hid (R.out.up hx0)
 replace R' := hid (R'.out.up hx0)
 clear hx0
 refine (read_w R.out).mono ?_
 rintro e wn ⟨vx, rfl, hx, hb⟩
 obtain ⟨s1, A1, n1, c1, rfl, hs1, hr1⟩ := hx.form
 clear hx
 refine ⟨_, rfl, hb, ?_⟩
 replace E := hid (E.out.trans hb)
 replace B3 := hid (B3.out.up hb)
 replace B4 := hid (B4.out.up hb)
 replace R' := hid (R'.out.up hb)
 have HS1 := hid hs1
 have R1 := hid hr1
 clear hb hs1 hr1
 refine WE.callR (d := some 12) rfl rfl (by rfl) (f := 84) (args := #[(.agg #[.bool g', .slice A' n' c'])]) (fun w => by go_simp) (fun wx hx0 => ?_)
 replace E := hid (E.out.trans hx0)
 replace B3 := hid (B3.out.up hx0)
 replace B4 := hid (B4.out.up hx0)
 replace R' := hid (R'.out.up hx0)
 replace R1 := hid (R1.out.up hx0)
 clear hx0
 refine (read_w R'.out).mono ?_
 rintro e wn ⟨vx, rfl, hx, hb⟩
 obtain ⟨s2, A2, n2, c2, rfl, hs2, hr2⟩ := hx.form
 clear hx
 refine ⟨_, rfl, hb, ?_⟩
 replace E := hid (E.out.trans hb)
 replace B3 := hid (B3.out.up hb)
 replace B4 := hid (B4.out.up hb)
 replace R1 := hid (R1.out.up hb)
 have HS2 := hid hs2
 have R2 := hid hr2
 clear hb hs2 hr2
 refine WE.callR (d := some 13) rfl rfl (by rfl) (f := 145) (args := #[(.agg #[.int .i64 s1, .slice A1 n1 c1]), (.agg #[.int .i64 s2, .slice A2 n2 c2])]) (fun w => by go_simp) (fun wx hx0 => ?_)
 replace E := hid (E.out.trans hx0)
 replace B3 := hid (B3.out.up hx0)
 replace B4 := hid (B4.out.up hx0)
 replace R1 := hid (R1.out.up hx0)
 replace R2 := hid (R2.out.up hx0)
 clear hx0
 refine (floor_i (InZ.mk HS1.out R1.out) (InZ.mk HS2.out R2.out) HJ.out HK.out).mono ?_
 rintro e wn ⟨vx, vy, rfl, hx, hy, hb⟩
 obtain ⟨s3, A3, n3, c3, rfl, hs3, hr3⟩ := hx.form
 obtain ⟨s4, A4, n4, c4, rfl, hs4, hr4⟩ := hy.form
 clear hx hy
 refine ⟨_, rfl, hb, ?_⟩
 replace E := hid (E.out.trans hb)
 replace B3 := hid (B3.out.up hb)
 replace B4 := hid (B4.out.up hb)
 have HS3 := hid hs3
 have R3 := hid hr3
 have HS4 := hid hs4
 have R4 := hid hr4
 clear hb hs3 hr3 hs4 hr4
 refine WE.p 8 (.tuple #[(.agg #[.int .i64 s3, .slice A3 n3 c3]), (.agg #[.int .i64 s4, .slice A4 n4 c4])]) ?_
 simp only [Act.put, pA, pB, pC]
 refine WE.p 14 (.agg #[.int .i64 s3, .slice A3 n3 c3]) ?_
 refine WE.y 15 (.agg #[.int .i64 s4, .slice A4 n4 c4]) ?_
 simp only [Act.put, pA, pB, pC]
 refine WE.var (d := some 6) rfl fun gC1 wv hx0 hbox hge hng => ?_
 have HNC1B3 := hid (show gC1 ≠ (w.heap.size + 2) by have := HL1B3.out; omega)
 have HNC1B4 := hid (show gC1 ≠ (w.heap.size + 3) by have := HL1B4.out; omega)
 have HGC1 := hid (show w.heap.size ≤ gC1 by have := HW1.out; omega)
 replace E := hid (E.out.trans hx0)
 replace B3 := hid (B3.out.up hx0)
 replace B4 := hid (B4.out.up hx0)
 replace R3 := hid (R3.out.up hx0)
 replace R4 := hid (R4.out.up hx0)
 have C1 : Hid (Box wv gC1 #[.int .i64 0, .slice none 0 0] 86) := hid hbox
 clear hx0 hbox hge hng
 simp only [Act.put, pA, pB, pC]
 refine WE.var (d := some 7) rfl fun gC2 wv hx0 hbox hge hng => ?_
 have HNC2B3 := hid (show gC2 ≠ (w.heap.size + 2) by have := HL1B3.out; omega)
 have HNC2B4 := hid (show gC2 ≠ (w.heap.size + 3) by have := HL1B4.out; omega)
 have HNC2C1 := hid (show gC2 ≠ gC1 by intro e; exact hng (by simp [e]))
 have HGC2 := hid (show w.heap.size ≤ gC2 by have := HW1.out; omega)
 replace E := hid (E.out.trans hx0)
 replace B3 := hid (B3.out.up hx0)
 replace B4 := hid (B4.out.up hx0)
 replace C1 := hid (C1.out.up hx0)
 replace R3 := hid (R3.out.up hx0)
 replace R4 := hid (R4.out.up hx0)
 have C2 : Hid (Box wv gC2 #[.int .i64 0, .slice none 0 0] 86) := hid hbox
 clear hx0 hbox hge hng
 simp only [Act.put, pA, pB, pC]
 refine WE.store2 (g := gC1) (x := .int .i64 s3) (y := .slice A3 n3 c3) (t := 86) rfl rfl (by rfl) (fun w hb => ?_) C1.out (by rfl) fun ws hk hs => ?_
 ·have c0 := hb.k 0; have f0 := hb.free 0; have c1 := hb.k 1; have f1 := hb.free 1; go_simp
 intro hbx
 replace E := hid (E.out.keptG hk HGC1.out)
 replace B3 := hid (B3.out.kept hk (by simpa using HNC1B3.out.symm))
 replace B4 := hid (B4.out.kept hk (by simpa using HNC1B4.out.symm))
 replace C1 := hid hbx
 replace C2 := hid (C2.out.kept hk (by simpa using HNC2C1.out))
 replace R3 := hid (R3.out.kz hs)
 replace R4 := hid (R4.out.kz hs)
 clear hk hs hbx
 refine WE.store2 (g := gC2) (x := .int .i64 s4) (y := .slice A4 n4 c4) (t := 86) rfl rfl (by rfl) (fun w hb => ?_) C2.out (by rfl) fun ws hk hs => ?_
 ·have c0 := hb.k 0; have f0 := hb.free 0; have c1 := hb.k 1; have f1 := hb.free 1; go_simp
 intro hbx
 replace E := hid (E.out.keptG hk HGC2.out)
 replace B3 := hid (B3.out.kept hk (by simpa using HNC2B3.out.symm))
 replace B4 := hid (B4.out.kept hk (by simpa using HNC2B4.out.symm))
 replace C1 := hid (C1.out.kept hk (by simpa using HNC2C1.out.symm))
 replace C2 := hid hbx
 replace R3 := hid (R3.out.kz hs)
 replace R4 := hid (R4.out.kz hs)
 clear hk hs hbx
 refine WE.done ?_
 go_upto_region 2 with (fail)
 refine wp_region_D [(0, 0), (2, 0), (1, 1), (3, 1), (4, 4), (5, 4)] fun wd hb => ?_
 replace E := hid (E.out.trans hb)
 replace B3 := hid (B3.out.up hb)
 replace B4 := hid (B4.out.up hb)
 replace C1 := hid (C1.out.up hb)
 replace C2 := hid (C2.out.up hb)
 replace R3 := hid (R3.out.up hb)
 replace R4 := hid (R4.out.up hb)
 clear hb
 refine WE.q 16 (.agg #[.int .i64 s3, .slice A3 n3 c3]) rfl (fun w' hk => by have c0 := (C1.out.up hk).k 0; have c1 := (C1.out.up hk).k 1; go_simp) ?_
 refine WE.q 18 (.agg #[.int .i64 s4, .slice A4 n4 c4]) rfl (fun w' hk => by have c0 := (C2.out.up hk).k 0; have c1 := (C2.out.up hk).k 1; go_simp) ?_
 refine WE.call (d := some 17) rfl rfl (by rfl) (f := 94) (args := #[(.agg #[.int .i64 s3, .slice A3 n3 c3])]) (by go_simp) ?_
 refine (told_i (InZ.mk HS3.out R3.out)).mono ?_
 rintro e wn ⟨vx, rfl, hx, hb⟩
 obtain ⟨g5, A5, n5, c5, rfl, hs5, hr5⟩ := hx.form
 clear hx
 refine ⟨_, rfl, hb, ?_⟩
 replace E := hid (E.out.trans hb)
 replace B3 := hid (B3.out.up hb)
 replace B4 := hid (B4.out.up hb)
 replace R4 := hid (R4.out.up hb)
 have HS5 := hid hs5
 have R5 := hid hr5
 clear hb hs5 hr5
 refine WE.call (d := some 19) rfl rfl (by rfl) (f := 94) (args := #[(.agg #[.int .i64 s4, .slice A4 n4 c4])]) (by go_simp) ?_
 refine (told_i (InZ.mk HS4.out R4.out)).mono ?_
 rintro e wn ⟨vx, rfl, hx, hb⟩
 obtain ⟨g6, A6, n6, c6, rfl, hs6, hr6⟩ := hx.form
 clear hx
 refine ⟨_, rfl, hb, ?_⟩
 replace E := hid (E.out.trans hb)
 replace B3 := hid (B3.out.up hb)
 replace B4 := hid (B4.out.up hb)
 replace R5 := hid (R5.out.up hb)
 have HS6 := hid hs6
 have R6 := hid hr6
 clear hb hs6 hr6
 simp only [Act.put, pA, pB, pC]
 refine WE.store2 (g := (w.heap.size + 2)) (x := .bool g5) (y := .slice A5 n5 c5) (t := 25) rfl rfl (by rfl) (fun w hb => ?_) B3.out (by rfl) fun ws hk hs => ?_
 ·have c0 := hb.k 0; have f0 := hb.free 0; have c1 := hb.k 1; have f1 := hb.free 1; go_simp
 intro hbx
 replace E := hid (E.out.keptG hk (by simp))
 replace B3 := hid hbx
 replace B4 := hid (B4.out.kept hk (by simp))
 replace R5 := hid (R5.out.kz hs)
 replace R6 := hid (R6.out.kz hs)
 clear hk hs hbx
 refine WE.store2 (g := (w.heap.size + 3)) (x := .bool g6) (y := .slice A6 n6 c6) (t := 25) rfl rfl (by rfl) (fun w hb => ?_) B4.out (by rfl) fun ws hk hs => ?_
 ·have c0 := hb.k 0; have f0 := hb.free 0; have c1 := hb.k 1; have f1 := hb.free 1; go_simp
 intro hbx
 replace E := hid (E.out.keptG hk (by simp))
 replace B3 := hid (B3.out.kept hk (by simp))
 replace B4 := hid hbx
 replace R5 := hid (R5.out.kz hs)
 replace R6 := hid (R6.out.kz hs)
 clear hk hs hbx
 refine WE.done ?_
 have r0 := B3.out.cell (o := 0) (v := .bool g5) rfl
 have r1 := B3.out.cell (o := 1) (v := .slice A5 n5 c5) rfl
 have r2 := B4.out.cell (o := 0) (v := .bool g6) rfl
 have r3 := B4.out.cell (o := 1) (v := .slice A6 n6 c6) rfl
 go_wp2
 exact bodyPost_ret (v := .tuple #[.agg #[.bool g5, .slice A5 n5 c5], .agg #[.bool g6, .slice A6 n6 c6]]) (by simp [results, Tryz.results122, go_sem, r0, r1, r2, r3]) rfl ⟨_, _, rfl, IsZ.mk HS5.out R5.out, IsZ.mk HS6.out R6.out, E.out⟩

end Go.Proofs.YtklmnmkmpkobhaaGreat
