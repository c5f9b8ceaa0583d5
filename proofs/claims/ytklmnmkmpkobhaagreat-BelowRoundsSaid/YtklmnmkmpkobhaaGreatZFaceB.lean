/-
  Contracts of package whole's face, over what values are worth.
-/
import Derived.Test.YtklmnmkmpkobhaaGreatJZ
namespace Go.Proofs.YtklmnmkmpkobhaaGreat
open Go.RowKit
set_option linter.unusedSimpArgs false
set_option linter.unusedVariables false

set_option maxHeartbeats 1000000 in
theorem add_w {w : World} {u v : Value} {Z Y : Int} {j k : Nat} (hu : Worth w u Z j) (hv : Worth w v Y k) (hj : j ≤ 100000000) (hk : k ≤ 100000000) :
 Calls Tryz.prog 65 #[u, v] w (GivesZ w (Z + Y) (max j k + 1)) := by
 obtain ⟨g, A, n, c, rfl⟩ := hu.shape
 obtain ⟨g', A', n', c', rfl⟩ := hv.shape
 have R := hid hu
 have R' := hid hv
 clear hu hv
 have HJ := hid hj
 have HK := hid hk
 clear hj hk
 go_enter Tryz.func65, Tryz.ntmps65
 go_upto_region 1 with (fail)
 obtain ⟨E, B1, B2, B3⟩ := open3 w #[.bool g, .slice A n c] 25 #[.bool g', .slice A' n' c'] 25 #[.bool false, .slice none 0 0] 25
 replace R := hid (R.out.up E.out)
 replace R' := hid (R'.out.up E.out)
 refine wp_region_D [(0, 0), (2, 0), (1, 1), (3, 1), (4, 1), (5, 1), (6, 4)] fun wd hb => ?_
 replace E := hid (E.out.trans hb)
 replace B1 := hid (B1.out.up hb)
 replace B2 := hid (B2.out.up hb)
 replace B3 := hid (B3.out.up hb)
 replace R := hid (R.out.up hb)
 replace R' := hid (R'.out.up hb)
 clear hb
 refine WE.q 5 (.agg #[.bool g, .slice A n c]) rfl (fun w' hk => by have c0 := (B1.out.up hk).k 0; have c1 := (B1.out.up hk).k 1; go_simp) ?_
 refine WE.q 7 (.agg #[.bool g', .slice A' n' c']) rfl (fun w' hk => by have c0 := (B2.out.up hk).k 0; have c1 := (B2.out.up hk).k 1; go_simp) ?_
 refine WE.call (d := some 6) rfl rfl (by rfl) (f := 84) (args := #[(.agg #[.bool g, .slice A n c])]) (by go_simp) ?_
 refine (read_w R.out).mono ?_
 rintro e wn ⟨vx, rfl, hx, hb⟩
 obtain ⟨s1, A1, n1, c1, rfl, hs1, hr1⟩ := hx.form
 clear hx
 refine ⟨_, rfl, hb, ?_⟩
 replace E := hid (E.out.trans hb)
 replace B3 := hid (B3.out.up hb)
 replace R' := hid (R'.out.up hb)
 have HS1 := hid hs1
 have R1 := hid hr1
 clear hb hs1 hr1
 refine WE.call (d := some 8) rfl rfl (by rfl) (f := 84) (args := #[(.agg #[.bool g', .slice A' n' c'])]) (by go_simp) ?_
 refine (read_w R'.out).mono ?_
 rintro e wn ⟨vx, rfl, hx, hb⟩
 obtain ⟨s2, A2, n2, c2, rfl, hs2, hr2⟩ := hx.form
 clear hx
 refine ⟨_, rfl, hb, ?_⟩
 replace E := hid (E.out.trans hb)
 replace B3 := hid (B3.out.up hb)
 replace R1 := hid (R1.out.up hb)
 have HS2 := hid hs2
 have R2 := hid hr2
 clear hb hs2 hr2
 refine WE.call (d := some 9) rfl rfl (by rfl) (f := 93) (args := #[(.agg #[.int .i64 s1, .slice A1 n1 c1]), (.agg #[.int .i64 s2, .slice A2 n2 c2])]) (by go_simp) ?_
 refine (plus_i (InZ.mk HS1.out R1.out) (InZ.mk HS2.out R2.out) HJ.out HK.out).mono ?_
 rintro e wn ⟨vx, rfl, hx, hb⟩
 obtain ⟨s3, A3, n3, c3, rfl, hs3, hr3⟩ := hx.form
 clear hx
 refine ⟨_, rfl, hb, ?_⟩
 replace E := hid (E.out.trans hb)
 replace B3 := hid (B3.out.up hb)
 have HS3 := hid hs3
 have R3 := hid hr3
 clear hb hs3 hr3
 refine WE.call (d := some 10) rfl rfl (by rfl) (f := 94) (args := #[(.agg #[.int .i64 s3, .slice A3 n3 c3])]) (by go_simp) ?_
 refine (told_i (InZ.mk HS3.out R3.out)).mono ?_
 rintro e wn ⟨vx, rfl, hx, hb⟩
 obtain ⟨g4, A4, n4, c4, rfl, hs4, hr4⟩ := hx.form
 clear hx
 refine ⟨_, rfl, hb, ?_⟩
 replace E := hid (E.out.trans hb)
 replace B3 := hid (B3.out.up hb)
 have HS4 := hid hs4
 have R4 := hid hr4
 clear hb hs4 hr4
 simp only [Act.put, pA, pB, pC]
 refine WE.store2 (g := (w.heap.size + 2)) (x := .bool g4) (y := .slice A4 n4 c4) (t := 25) rfl rfl (by rfl) (fun w hb => ?_) B3.out (by rfl) fun ws hk hs => ?_
 ·have c0 := hb.k 0; have f0 := hb.free 0; have c1 := hb.k 1; have f1 := hb.free 1; go_simp
 intro hbx
 replace E := hid (E.out.keptG hk (by simp))
 replace B3 := hid hbx
 replace R4 := hid (R4.out.kz hs)
 clear hk hs hbx
 refine WE.done ?_
 have r0 := B3.out.cell (o := 0) (v := .bool g4) rfl
 have r1 := B3.out.cell (o := 1) (v := .slice A4 n4 c4) rfl
 go_wp2
 exact bodyPost_ret (v := .agg #[.bool g4, .slice A4 n4 c4]) (by simp [results, Tryz.results65, go_sem, r0, r1]) rfl ⟨_, rfl, IsZ.mk HS4.out R4.out, E.out⟩

end Go.Proofs.YtklmnmkmpkobhaaGreat
