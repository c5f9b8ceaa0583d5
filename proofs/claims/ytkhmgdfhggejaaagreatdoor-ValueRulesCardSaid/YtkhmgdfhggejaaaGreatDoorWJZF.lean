/-
  Contracts of package whole's face, over what values are worth.
-/
import Derived.Test.YtkhmgdfhggejaaaGreatDoorWJZ
import Derived.ProofKit
import Derived.OpenShut
import Derived.Carry
import Derived.Lib.SmallJoins
namespace Go.Proofs.YtkhmgdfhggejaaaGreatDoor
open Go.RowKit
set_option linter.unusedSimpArgs false
set_option linter.unusedVariables false
set_option maxHeartbeats 1000000 in
theorem sign_w {w : World} {u : Value} {Z : Int} {j : Nat} (hu : Worth w u Z j) :
 Calls Tryz.prog 142 #[u] w (fun e w' => e = .returned (.int .i64 Z.sign) ∧ Ext w w') := by
 obtain ⟨g, A, n, c, rfl⟩ := hu.shape
 have R := hid hu
 clear hu
 go_enter Tryz.func142, Tryz.ntmps142
 go_upto_region 1 with (fail)
 obtain ⟨E, B1⟩ := open1 w #[.bool g, .slice A n c] 24
 replace R := hid (R.out.up E.out)
 refine wp_region_S [(0, 0), (1, 1), (2, 0), (3, 0), (4, 0)] fun wd hb => ?_
 replace E := hid (E.out.trans hb)
 replace B1 := hid (B1.out.up hb)
 replace R := hid (R.out.up hb)
 clear hb
 refine WE.q 3 (.agg #[.bool g, .slice A n c]) rfl (fun w' hk => by have c0 := (B1.out.up hk).k 0; have c1 := (B1.out.up hk).k 1; go_simp) ?_
 simp only [pX]
 refine WE.call (d := some 4) rfl rfl (by rfl) (f := 107) (args := #[(.agg #[.bool g, .slice A n c])]) (by go_simp) ?_
 refine (read_w R.out).mono ?_
 rintro e wn ⟨vx, rfl, hx, hb⟩
 obtain ⟨s1, A1, n1, c1, rfl, hs1, hr1⟩ := hx.form
 clear hx
 refine ⟨_, rfl, hb, ?_⟩
 replace E := hid (E.out.trans hb)
 have HS1 := hid hs1
 clear hb hs1 hr1
 refine WE.q 5 (.agg #[.int .i64 s1]) rfl (fun w' hk => by have hf : ∀ w, (Instr.field 132 (.agg #[.int .i64 s1, .slice A1 n1 c1]) 0).run Tryz.prog w = .ok (.agg #[.int .i64 s1]) w := (fun w => by kernel_rfl); go_simp) ?_
 refine WE.q 6 (.int .i64 s1) rfl (fun w' hk => by have hf : ∀ w, (Instr.field 130 (.agg #[.int .i64 s1]) 0).run Tryz.prog w = .ok (.int .i64 s1) w := (fun w => by kernel_rfl); go_simp) ?_
 refine WE.p 2 (.int .i64 s1) ?_
 simp only [pX]
 refine WE.done ?_
 go_wp2
 go_ret
 exact ⟨ret_int HS1.out, E.out⟩
set_option maxHeartbeats 1000000 in
theorem cmp_w {w : World} {u v : Value} {Z Y : Int} {j k : Nat} (hu : Worth w u Z j) (hv : Worth w v Y k) {z : Int} (hz : M.zcmp Z Y = z) :
 Calls Tryz.prog 81 #[u, v] w (fun e w' => e = .returned (.int .i64 z) ∧ Ext w w') := by
 obtain ⟨g, A, n, c, rfl⟩ := hu.shape
 obtain ⟨g', A', n', c', rfl⟩ := hv.shape
 have R := hid hu
 have R' := hid hv
 clear hu hv
 have HZ := hid hz
 clear hz
 go_enter Tryz.func81, Tryz.ntmps81
 go_upto_region 1 with (fail)
 obtain ⟨E, B1, B2⟩ := open2 w #[.bool g, .slice A n c] 24 #[.bool g', .slice A' n' c'] 24
 replace R := hid (R.out.up E.out)
 replace R' := hid (R'.out.up E.out)
 refine wp_region_D [(0, 0), (2, 0), (1, 1), (3, 1), (4, 1), (5, 0)] fun wd hb => ?_
 replace E := hid (E.out.trans hb)
 replace B1 := hid (B1.out.up hb)
 replace B2 := hid (B2.out.up hb)
 replace R := hid (R.out.up hb)
 replace R' := hid (R'.out.up hb)
 clear hb
 refine WE.q 5 (.agg #[.bool g, .slice A n c]) rfl (fun w' hk => by have c0 := (B1.out.up hk).k 0; have c1 := (B1.out.up hk).k 1; go_simp) ?_
 refine WE.q 7 (.agg #[.bool g', .slice A' n' c']) rfl (fun w' hk => by have c0 := (B2.out.up hk).k 0; have c1 := (B2.out.up hk).k 1; go_simp) ?_
 simp only [pX]
 refine WE.call (d := some 6) rfl rfl (by rfl) (f := 107) (args := #[(.agg #[.bool g, .slice A n c])]) (by go_simp) ?_
 refine (read_w R.out).mono ?_
 rintro e wn ⟨vx, rfl, hx, hb⟩
 obtain ⟨s1, A1, n1, c1, rfl, hs1, hr1⟩ := hx.form
 clear hx
 refine ⟨_, rfl, hb, ?_⟩
 replace E := hid (E.out.trans hb)
 replace R' := hid (R'.out.up hb)
 have HS1 := hid hs1
 have R1 := hid hr1
 clear hb hs1 hr1
 simp only [pX]
 refine WE.call (d := some 8) rfl rfl (by rfl) (f := 107) (args := #[(.agg #[.bool g', .slice A' n' c'])]) (by go_simp) ?_
 refine (read_w R'.out).mono ?_
 rintro e wn ⟨vx, rfl, hx, hb⟩
 obtain ⟨s2, A2, n2, c2, rfl, hs2, hr2⟩ := hx.form
 clear hx
 refine ⟨_, rfl, hb, ?_⟩
 replace E := hid (E.out.trans hb)
 replace R1 := hid (R1.out.up hb)
 have HS2 := hid hs2
 have R2 := hid hr2
 clear hb hs2 hr2
 simp only [pX]
 refine WE.call (d := some 9) rfl rfl (by rfl) (f := 108) (args := #[(.agg #[.int .i64 s1, .slice A1 n1 c1]), (.agg #[.int .i64 s2, .slice A2 n2 c2])]) (by go_simp) ?_
 refine (compare_i (InZ.mk HS1.out R1.out) (InZ.mk HS2.out R2.out)).mono ?_
 rw [HZ.out]
 rintro e wn ⟨rfl, hb⟩
 refine ⟨_, rfl, hb, ?_⟩
 replace E := hid (E.out.trans hb)
 clear hb
 refine WE.p 4 (.int .i64 z) ?_
 simp only [pX]
 refine WE.done ?_
 go_wp2
 go_ret
 exact ⟨rfl, E.out⟩
set_option maxHeartbeats 1000000 in
theorem same_w {w : World} {u v : Value} {Z Y : Int} {j k : Nat} (hu : Worth w u Z j) (hv : Worth w v Y k) {b : Bool} (hb : decide (Z = Y) = b) :
 Calls Tryz.prog 52 #[u, v] w (GivesB w b) := by
 obtain ⟨g, A, n, c, rfl⟩ := hu.shape
 obtain ⟨g', A', n', c', rfl⟩ := hv.shape
 have R := hid hu
 have R' := hid hv
 clear hu hv
 obtain ⟨z, hz⟩ : ∃ z : Int, M.zcmp Z Y = z := ⟨_, rfl⟩
 have hzb : (z == 0) = b := by rw [← hz, ← hb, Bool.eq_iff_iff]; simp [M.zcmp_eq]
 have HZ := hid hz
 clear hz hb
 go_enter Tryz.func52, Tryz.ntmps52
 go_upto_region 1 with (fail)
 obtain ⟨E, B1, B2⟩ := open2 w #[.bool g, .slice A n c] 24 #[.bool g', .slice A' n' c'] 24
 replace R := hid (R.out.up E.out)
 replace R' := hid (R'.out.up E.out)
 refine wp_region_S [(0, 0), (1, 0), (2, 1), (3, 0), (4, 0)] fun wd hb => ?_
 replace E := hid (E.out.trans hb)
 replace B1 := hid (B1.out.up hb)
 replace B2 := hid (B2.out.up hb)
 replace R := hid (R.out.up hb)
 replace R' := hid (R'.out.up hb)
 clear hb
 refine WE.q 5 (.agg #[.bool g, .slice A n c]) rfl (fun w' hk => by have c0 := (B1.out.up hk).k 0; have c1 := (B1.out.up hk).k 1; go_simp) ?_
 refine WE.q 6 (.agg #[.bool g', .slice A' n' c']) rfl (fun w' hk => by have c0 := (B2.out.up hk).k 0; have c1 := (B2.out.up hk).k 1; go_simp) ?_
 simp only [pX]
 refine WE.call (d := some 7) rfl rfl (by rfl) (f := 81) (args := #[(.agg #[.bool g, .slice A n c]), (.agg #[.bool g', .slice A' n' c'])]) (by go_simp) ?_
 refine (cmp_w R.out R'.out HZ.out).mono ?_
 rintro e wn ⟨rfl, hb⟩
 refine ⟨_, rfl, hb, ?_⟩
 replace E := hid (E.out.trans hb)
 clear hb
 refine WE.p 8 (.bool b) ?_
 refine WE.p 4 (.bool b) ?_
 simp only [pX]
 refine WE.done ?_
 go_wp2
 go_ret
 exact ⟨rfl, E.out⟩
set_option maxHeartbeats 1000000 in
theorem neg_w {w : World} {u : Value} {Z : Int} {j : Nat} (hu : Worth w u Z j) (hj : j ≤ 100000000) :
 Calls Tryz.prog 144 #[u] w (GivesZ w (-Z) j) := by
 obtain ⟨g, A, n, c, rfl⟩ := hu.shape
 have R := hid hu
 clear hu
 have HJ := hid hj
 clear hj
 go_enter Tryz.func144, Tryz.ntmps144
 go_upto_region 1 with (fail)
 obtain ⟨E, B1, B2⟩ := open2 w #[.bool g, .slice A n c] 24 #[.bool false, .slice none 0 0] 24
 replace R := hid (R.out.up E.out)
 refine wp_region_S [(0, 0), (1, 1), (2, 1), (3, 1), (4, 4)] fun wd hb => ?_
 replace E := hid (E.out.trans hb)
 replace B1 := hid (B1.out.up hb)
 replace B2 := hid (B2.out.up hb)
 replace R := hid (R.out.up hb)
 clear hb
 refine WE.q 3 (.agg #[.bool g, .slice A n c]) rfl (fun w' hk => by have c0 := (B1.out.up hk).k 0; have c1 := (B1.out.up hk).k 1; go_simp) ?_
 simp only [pX]
 refine WE.call (d := some 4) rfl rfl (by rfl) (f := 107) (args := #[(.agg #[.bool g, .slice A n c])]) (by go_simp) ?_
 refine (read_w R.out).mono ?_
 rintro e wn ⟨vx, rfl, hx, hb⟩
 obtain ⟨s1, A1, n1, c1, rfl, hs1, hr1⟩ := hx.form
 clear hx
 refine ⟨_, rfl, hb, ?_⟩
 replace E := hid (E.out.trans hb)
 replace B2 := hid (B2.out.up hb)
 have HS1 := hid hs1
 have R1 := hid hr1
 clear hb hs1 hr1
 simp only [pX]
 refine WE.call (d := some 5) rfl rfl (by rfl) (f := 167) (args := #[(.agg #[.int .i64 s1, .slice A1 n1 c1])]) (by go_simp) ?_
 refine (negated_i (InZ.mk HS1.out R1.out)).mono ?_
 rintro e wn ⟨vx, rfl, hx, hb⟩
 obtain ⟨s2, A2, n2, c2, rfl, hs2, hr2⟩ := hx.form
 clear hx
 refine ⟨_, rfl, hb, ?_⟩
 replace E := hid (E.out.trans hb)
 replace B2 := hid (B2.out.up hb)
 have HS2 := hid hs2
 have R2 := hid hr2
 clear hb hs2 hr2
 simp only [pX]
 refine WE.call (d := some 6) rfl rfl (by rfl) (f := 149) (args := #[(.agg #[.int .i64 s2, .slice A2 n2 c2])]) (by go_simp) ?_
 refine (copied_i (InZ.mk HS2.out R2.out) HJ.out).mono ?_
 rintro e wn ⟨vx, rfl, hx, hb⟩
 obtain ⟨g3, A3, n3, c3, rfl, hs3, hr3⟩ := hx.form
 clear hx
 refine ⟨_, rfl, hb, ?_⟩
 replace E := hid (E.out.trans hb)
 replace B2 := hid (B2.out.up hb)
 have HS3 := hid hs3
 have R3 := hid hr3
 clear hb hs3 hr3
 simp only [pX]
 refine WE.store2 (g := (w.heap.size + 1)) (x := .bool g3) (y := .slice A3 n3 c3) (t := 24) rfl rfl (by rfl) (fun w hb => ?_) B2.out (by rfl) fun ws hk hs => ?_
 ·have c0 := hb.k 0; have f0 := hb.free 0; have c1 := hb.k 1; have f1 := hb.free 1; go_simp
 intro hbx
 replace E := hid (E.out.keptG hk (by simp))
 replace B2 := hid hbx
 replace R3 := hid (R3.out.kz hs)
 clear hk hs hbx
 refine WE.done ?_
 have r0 := B2.out.cell (o := 0) (v := .bool g3) rfl
 have r1 := B2.out.cell (o := 1) (v := .slice A3 n3 c3) rfl
 go_wp2
 exact bodyPost_ret (v := .agg #[.bool g3, .slice A3 n3 c3]) (by simp [results, Tryz.results144, go_sem, r0, r1]) rfl ⟨_, rfl, IsZ.mk HS3.out R3.out, E.out⟩
set_option maxHeartbeats 1000000 in
theorem abs_w {w : World} {u : Value} {Z : Int} {j : Nat} (hu : Worth w u Z j) (hj : j ≤ 100000000) :
 Calls Tryz.prog 119 #[u] w (GivesZ w (Z.natAbs : Int) j) := by
 obtain ⟨g, A, n, c, rfl⟩ := hu.shape
 have R := hid hu
 clear hu
 have HJ := hid hj
 clear hj
 go_enter Tryz.func119, Tryz.ntmps119
 go_upto_region 1 with (fail)
 obtain ⟨E, B1, B2⟩ := open2 w #[.bool g, .slice A n c] 24 #[.bool false, .slice none 0 0] 24
 replace R := hid (R.out.up E.out)
 refine wp_region_S [(0, 0), (1, 1), (2, 1), (3, 1), (4, 4)] fun wd hb => ?_
 replace E := hid (E.out.trans hb)
 replace B1 := hid (B1.out.up hb)
 replace B2 := hid (B2.out.up hb)
 replace R := hid (R.out.up hb)
 clear hb
 refine WE.q 3 (.agg #[.bool g, .slice A n c]) rfl (fun w' hk => by have c0 := (B1.out.up hk).k 0; have c1 := (B1.out.up hk).k 1; go_simp) ?_
 simp only [pX]
 refine WE.call (d := some 4) rfl rfl (by rfl) (f := 107) (args := #[(.agg #[.bool g, .slice A n c])]) (by go_simp) ?_
 refine (read_w R.out).mono ?_
 rintro e wn ⟨vx, rfl, hx, hb⟩
 obtain ⟨s1, A1, n1, c1, rfl, hs1, hr1⟩ := hx.form
 clear hx
 refine ⟨_, rfl, hb, ?_⟩
 replace E := hid (E.out.trans hb)
 replace B2 := hid (B2.out.up hb)
 have HS1 := hid hs1
 have R1 := hid hr1
 clear hb hs1 hr1
 simp only [pX]
 refine WE.call (d := some 5) rfl rfl (by rfl) (f := 150) (args := #[(.agg #[.int .i64 s1, .slice A1 n1 c1])]) (by go_simp) ?_
 refine (absolute_i (InZ.mk HS1.out R1.out)).mono ?_
 rintro e wn ⟨vx, rfl, hx, hb⟩
 obtain ⟨s2, A2, n2, c2, rfl, hs2, hr2⟩ := hx.form
 clear hx
 refine ⟨_, rfl, hb, ?_⟩
 replace E := hid (E.out.trans hb)
 replace B2 := hid (B2.out.up hb)
 have HS2 := hid hs2
 have R2 := hid hr2
 clear hb hs2 hr2
 simp only [pX]
 refine WE.call (d := some 6) rfl rfl (by rfl) (f := 149) (args := #[(.agg #[.int .i64 s2, .slice A2 n2 c2])]) (by go_simp) ?_
 refine (copied_i (InZ.mk HS2.out R2.out) HJ.out).mono ?_
 rintro e wn ⟨vx, rfl, hx, hb⟩
 obtain ⟨g3, A3, n3, c3, rfl, hs3, hr3⟩ := hx.form
 clear hx
 refine ⟨_, rfl, hb, ?_⟩
 replace E := hid (E.out.trans hb)
 replace B2 := hid (B2.out.up hb)
 have HS3 := hid hs3
 have R3 := hid hr3
 clear hb hs3 hr3
 simp only [pX]
 refine WE.store2 (g := (w.heap.size + 1)) (x := .bool g3) (y := .slice A3 n3 c3) (t := 24) rfl rfl (by rfl) (fun w hb => ?_) B2.out (by rfl) fun ws hk hs => ?_
 ·have c0 := hb.k 0; have f0 := hb.free 0; have c1 := hb.k 1; have f1 := hb.free 1; go_simp
 intro hbx
 replace E := hid (E.out.keptG hk (by simp))
 replace B2 := hid hbx
 replace R3 := hid (R3.out.kz hs)
 clear hk hs hbx
 refine WE.done ?_
 have r0 := B2.out.cell (o := 0) (v := .bool g3) rfl
 have r1 := B2.out.cell (o := 1) (v := .slice A3 n3 c3) rfl
 go_wp2
 exact bodyPost_ret (v := .agg #[.bool g3, .slice A3 n3 c3]) (by simp [results, Tryz.results119, go_sem, r0, r1]) rfl ⟨_, rfl, IsZ.mk HS3.out R3.out, E.out⟩
set_option maxHeartbeats 1000000 in
theorem add_w {w : World} {u v : Value} {Z Y : Int} {j k : Nat} (hu : Worth w u Z j) (hv : Worth w v Y k) (hj : j ≤ 100000000) (hk : k ≤ 100000000) :
 Calls Tryz.prog 143 #[u, v] w (GivesZ w (Z + Y) (max j k + 1)) := by
 obtain ⟨g, A, n, c, rfl⟩ := hu.shape
 obtain ⟨g', A', n', c', rfl⟩ := hv.shape
 have R := hid hu
 have R' := hid hv
 clear hu hv
 have HJ := hid hj
 have HK := hid hk
 clear hj hk
 go_enter Tryz.func143, Tryz.ntmps143
 go_upto_region 1 with (fail)
 obtain ⟨E, B1, B2, B3⟩ := open3 w #[.bool g, .slice A n c] 24 #[.bool g', .slice A' n' c'] 24 #[.bool false, .slice none 0 0] 24
 replace R := hid (R.out.up E.out)
 replace R' := hid (R'.out.up E.out)
 refine wp_region_D [(0, 0), (2, 0), (1, 1), (3, 1), (4, 1), (5, 1), (6, 4)] fun wd hb => ?_
 replace E := hid (E.out.trans hb)
 replace B1 := hid (B1.out.up hb)
 replace B2 := hid (B2.out.up hb)
 replace B3 := hid (B3.out.up hb)
 replace R := hid (R.out.up hb)
 replace R' := hid (R'.out.up hb)
 clear hb
 refine WE.q 5 (.agg #[.bool g, .slice A n c]) rfl (fun w' hk => by have c0 := (B1.out.up hk).k 0; have c1 := (B1.out.up hk).k 1; go_simp) ?_
 refine WE.q 7 (.agg #[.bool g', .slice A' n' c']) rfl (fun w' hk => by have c0 := (B2.out.up hk).k 0; have c1 := (B2.out.up hk).k 1; go_simp) ?_
 refine WE.call (d := some 6) rfl rfl (by rfl) (f := 107) (args := #[(.agg #[.bool g, .slice A n c])]) (by go_simp) ?_
 refine (read_w R.out).mono ?_
 rintro e wn ⟨vx, rfl, hx, hb⟩
 obtain ⟨s1, A1, n1, c1, rfl, hs1, hr1⟩ := hx.form
 clear hx
 refine ⟨_, rfl, hb, ?_⟩
 replace E := hid (E.out.trans hb)
 replace B3 := hid (B3.out.up hb)
 replace R' := hid (R'.out.up hb)
 have HS1 := hid hs1
 have R1 := hid hr1
 clear hb hs1 hr1
 refine WE.call (d := some 8) rfl rfl (by rfl) (f := 107) (args := #[(.agg #[.bool g', .slice A' n' c'])]) (by go_simp) ?_
 refine (read_w R'.out).mono ?_
 rintro e wn ⟨vx, rfl, hx, hb⟩
 obtain ⟨s2, A2, n2, c2, rfl, hs2, hr2⟩ := hx.form
 clear hx
 refine ⟨_, rfl, hb, ?_⟩
 replace E := hid (E.out.trans hb)
 replace B3 := hid (B3.out.up hb)
 replace R1 := hid (R1.out.up hb)
 have HS2 := hid hs2
 have R2 := hid hr2
 clear hb hs2 hr2
 refine WE.call (d := some 9) rfl rfl (by rfl) (f := 166) (args := #[(.agg #[.int .i64 s1, .slice A1 n1 c1]), (.agg #[.int .i64 s2, .slice A2 n2 c2])]) (by go_simp) ?_
 refine (plus_i (InZ.mk HS1.out R1.out) (InZ.mk HS2.out R2.out) HJ.out HK.out).mono ?_
 rintro e wn ⟨vx, rfl, hx, hb⟩
 obtain ⟨s3, A3, n3, c3, rfl, hs3, hr3⟩ := hx.form
 clear hx
 refine ⟨_, rfl, hb, ?_⟩
 replace E := hid (E.out.trans hb)
 replace B3 := hid (B3.out.up hb)
 have HS3 := hid hs3
 have R3 := hid hr3
 clear hb hs3 hr3
 refine WE.call (d := some 10) rfl rfl (by rfl) (f := 148) (args := #[(.agg #[.int .i64 s3, .slice A3 n3 c3])]) (by go_simp) ?_
 refine (told_i (InZ.mk HS3.out R3.out)).mono ?_
 rintro e wn ⟨vx, rfl, hx, hb⟩
 obtain ⟨g4, A4, n4, c4, rfl, hs4, hr4⟩ := hx.form
 clear hx
 refine ⟨_, rfl, hb, ?_⟩
 replace E := hid (E.out.trans hb)
 replace B3 := hid (B3.out.up hb)
 have HS4 := hid hs4
 have R4 := hid hr4
 clear hb hs4 hr4
 simp only [pX]
 refine WE.store2 (g := (w.heap.size + 2)) (x := .bool g4) (y := .slice A4 n4 c4) (t := 24) rfl rfl (by rfl) (fun w hb => ?_) B3.out (by rfl) fun ws hk hs => ?_
 ·have c0 := hb.k 0; have f0 := hb.free 0; have c1 := hb.k 1; have f1 := hb.free 1; go_simp
 intro hbx
 replace E := hid (E.out.keptG hk (by simp))
 replace B3 := hid hbx
 replace R4 := hid (R4.out.kz hs)
 clear hk hs hbx
 refine WE.done ?_
 have r0 := B3.out.cell (o := 0) (v := .bool g4) rfl
 have r1 := B3.out.cell (o := 1) (v := .slice A4 n4 c4) rfl
 go_wp2
 exact bodyPost_ret (v := .agg #[.bool g4, .slice A4 n4 c4]) (by simp [results, Tryz.results143, go_sem, r0, r1]) rfl ⟨_, rfl, IsZ.mk HS4.out R4.out, E.out⟩
set_option maxHeartbeats 1000000 in
theorem sub_w {w : World} {u v : Value} {Z Y : Int} {j k : Nat} (hu : Worth w u Z j) (hv : Worth w v Y k) (hj : j ≤ 100000000) (hk : k ≤ 100000000) :
 Calls Tryz.prog 145 #[u, v] w (GivesZ w (Z - Y) (max j k + 1)) := by
 obtain ⟨g, A, n, c, rfl⟩ := hu.shape
 obtain ⟨g', A', n', c', rfl⟩ := hv.shape
 have R := hid hu
 have R' := hid hv
 clear hu hv
 have HJ := hid hj
 have HK := hid hk
 clear hj hk
 go_enter Tryz.func145, Tryz.ntmps145
 go_upto_region 1 with (fail)
 obtain ⟨E, B1, B2, B3⟩ := open3 w #[.bool g, .slice A n c] 24 #[.bool g', .slice A' n' c'] 24 #[.bool false, .slice none 0 0] 24
 replace R := hid (R.out.up E.out)
 replace R' := hid (R'.out.up E.out)
 refine wp_region_D [(0, 0), (2, 0), (1, 1), (3, 1), (4, 1), (5, 1), (6, 1), (7, 4)] fun wd hb => ?_
 replace E := hid (E.out.trans hb)
 replace B1 := hid (B1.out.up hb)
 replace B2 := hid (B2.out.up hb)
 replace B3 := hid (B3.out.up hb)
 replace R := hid (R.out.up hb)
 replace R' := hid (R'.out.up hb)
 clear hb
 refine WE.q 5 (.agg #[.bool g, .slice A n c]) rfl (fun w' hk => by have c0 := (B1.out.up hk).k 0; have c1 := (B1.out.up hk).k 1; go_simp) ?_
 refine WE.q 7 (.agg #[.bool g', .slice A' n' c']) rfl (fun w' hk => by have c0 := (B2.out.up hk).k 0; have c1 := (B2.out.up hk).k 1; go_simp) ?_
 refine WE.call (d := some 6) rfl rfl (by rfl) (f := 107) (args := #[(.agg #[.bool g, .slice A n c])]) (by go_simp) ?_
 refine (read_w R.out).mono ?_
 rintro e wn ⟨vx, rfl, hx, hb⟩
 obtain ⟨s1, A1, n1, c1, rfl, hs1, hr1⟩ := hx.form
 clear hx
 refine ⟨_, rfl, hb, ?_⟩
 replace E := hid (E.out.trans hb)
 replace B3 := hid (B3.out.up hb)
 replace R' := hid (R'.out.up hb)
 have HS1 := hid hs1
 have R1 := hid hr1
 clear hb hs1 hr1
 refine WE.call (d := some 8) rfl rfl (by rfl) (f := 107) (args := #[(.agg #[.bool g', .slice A' n' c'])]) (by go_simp) ?_
 refine (read_w R'.out).mono ?_
 rintro e wn ⟨vx, rfl, hx, hb⟩
 obtain ⟨s2, A2, n2, c2, rfl, hs2, hr2⟩ := hx.form
 clear hx
 refine ⟨_, rfl, hb, ?_⟩
 replace E := hid (E.out.trans hb)
 replace B3 := hid (B3.out.up hb)
 replace R1 := hid (R1.out.up hb)
 have HS2 := hid hs2
 have R2 := hid hr2
 clear hb hs2 hr2
 refine WE.call (d := some 9) rfl rfl (by rfl) (f := 167) (args := #[(.agg #[.int .i64 s2, .slice A2 n2 c2])]) (by go_simp) ?_
 refine (negated_i (InZ.mk HS2.out R2.out)).mono ?_
 rintro e wn ⟨vx, rfl, hx, hb⟩
 obtain ⟨s3, A3, n3, c3, rfl, hs3, hr3⟩ := hx.form
 clear hx
 refine ⟨_, rfl, hb, ?_⟩
 replace E := hid (E.out.trans hb)
 replace B3 := hid (B3.out.up hb)
 replace R1 := hid (R1.out.up hb)
 have HS3 := hid hs3
 have R3 := hid hr3
 clear hb hs3 hr3
 refine WE.call (d := some 10) rfl rfl (by rfl) (f := 166) (args := #[(.agg #[.int .i64 s1, .slice A1 n1 c1]), (.agg #[.int .i64 s3, .slice A3 n3 c3])]) (by go_simp) ?_
 refine (plus_i (InZ.mk HS1.out R1.out) (InZ.mk HS3.out R3.out) HJ.out HK.out).mono ?_
 rintro e wn ⟨vx, rfl, hx, hb⟩
 obtain ⟨s4, A4, n4, c4, rfl, hs4, hr4⟩ := hx.form
 clear hx
 refine ⟨_, rfl, hb, ?_⟩
 replace E := hid (E.out.trans hb)
 replace B3 := hid (B3.out.up hb)
 have HS4 := hid hs4
 have R4 := hid hr4
 clear hb hs4 hr4
 simp only [pX]
 refine WE.call (d := some 11) rfl rfl (by rfl) (f := 148) (args := #[(.agg #[.int .i64 s4, .slice A4 n4 c4])]) (by go_simp) ?_
 refine (told_i (InZ.mk HS4.out R4.out)).mono ?_
 rintro e wn ⟨vx, rfl, hx, hb⟩
 obtain ⟨g5, A5, n5, c5, rfl, hs5, hr5⟩ := hx.form
 clear hx
 refine ⟨_, rfl, hb, ?_⟩
 replace E := hid (E.out.trans hb)
 replace B3 := hid (B3.out.up hb)
 have HS5 := hid hs5
 have R5 := hid hr5
 clear hb hs5 hr5
 simp only [pX]
 refine WE.store2 (g := (w.heap.size + 2)) (x := .bool g5) (y := .slice A5 n5 c5) (t := 24) rfl rfl (by rfl) (fun w hb => ?_) B3.out (by rfl) fun ws hk hs => ?_
 ·have c0 := hb.k 0; have f0 := hb.free 0; have c1 := hb.k 1; have f1 := hb.free 1; go_simp
 intro hbx
 replace E := hid (E.out.keptG hk (by simp))
 replace B3 := hid hbx
 replace R5 := hid (R5.out.kz hs)
 clear hk hs hbx
 refine WE.done ?_
 have r0 := B3.out.cell (o := 0) (v := .bool g5) rfl
 have r1 := B3.out.cell (o := 1) (v := .slice A5 n5 c5) rfl
 go_wp2
 exact bodyPost_ret (v := .agg #[.bool g5, .slice A5 n5 c5]) (by simp [results, Tryz.results145, go_sem, r0, r1]) rfl ⟨_, rfl, IsZ.to (IsZ.mk HS5.out R5.out) (by omega), E.out⟩
set_option maxHeartbeats 1000000 in
theorem mul_w {w : World} {u v : Value} {Z Y : Int} {j k : Nat} (hu : Worth w u Z j) (hv : Worth w v Y k) (hj : j ≤ 100000000) (hk : k ≤ 100000000) (hm : j < 64 ∨ k < 64) :
 Calls Tryz.prog 118 #[u, v] w (GivesZ w (Z * Y) (j + k)) := by
 obtain ⟨g, A, n, c, rfl⟩ := hu.shape
 obtain ⟨g', A', n', c', rfl⟩ := hv.shape
 have R := hid hu
 have R' := hid hv
 clear hu hv
 have HJ := hid hj
 have HK := hid hk
 have HM := hid hm
 clear hj hk hm
 go_enter Tryz.func118, Tryz.ntmps118
 go_upto_region 1 with (fail)
 obtain ⟨E, B1, B2, B3⟩ := open3 w #[.bool g, .slice A n c] 24 #[.bool g', .slice A' n' c'] 24 #[.bool false, .slice none 0 0] 24
 replace R := hid (R.out.up E.out)
 replace R' := hid (R'.out.up E.out)
 refine wp_region_L [(0, 0), (2, 0), (1, 2), (3, 2), (4, 3), (5, 3), (6, 4), (7, 4)] 132 #[.int .i64 0, .slice none 0 0] fun wd hb => ?_
 replace E := hid (E.out.trans hb)
 replace B1 := hid (B1.out.up hb)
 replace B2 := hid (B2.out.up hb)
 replace B3 := hid (B3.out.up hb)
 replace R := hid (R.out.up hb)
 replace R' := hid (R'.out.up hb)
 clear hb
 have HL1B1 := hid B1.out.lt
 have HL1B2 := hid B2.out.lt
 have HL1B3 := hid B3.out.lt
 have HW1 := hid (show w.heap.size ≤ wd.heap.size from E.out.size)
 refine WE.q 7 (.agg #[.bool g, .slice A n c]) rfl (fun w' hk => by have c0 := (B1.out.up hk).k 0; have c1 := (B1.out.up hk).k 1; go_simp) ?_
 refine WE.q 9 (.agg #[.bool g', .slice A' n' c']) rfl (fun w' hk => by have c0 := (B2.out.up hk).k 0; have c1 := (B2.out.up hk).k 1; go_simp) ?_
 refine WE.callR (d := some 8) rfl rfl (by rfl) (f := 107) (args := #[(.agg #[.bool g, .slice A n c])]) (fun w => by go_simp) (fun wx hx0 => ?_)
 replace E := hid (E.out.trans hx0)
 replace B3 := hid (B3.out.up hx0)
 replace R := hid (R.out.up hx0)
 replace R' := hid (R'.out.up hx0)
 clear hx0
 refine (read_w R.out).mono ?_
 rintro e wn ⟨vx, rfl, hx, hb⟩
 obtain ⟨s1, A1, n1, c1, rfl, hs1, hr1⟩ := hx.form
 clear hx
 refine ⟨_, rfl, hb, ?_⟩
 replace E := hid (E.out.trans hb)
 replace B3 := hid (B3.out.up hb)
 replace R' := hid (R'.out.up hb)
 have HS1 := hid hs1
 have R1 := hid hr1
 clear hb hs1 hr1
 refine WE.callR (d := some 10) rfl rfl (by rfl) (f := 107) (args := #[(.agg #[.bool g', .slice A' n' c'])]) (fun w => by go_simp) (fun wx hx0 => ?_)
 replace E := hid (E.out.trans hx0)
 replace B3 := hid (B3.out.up hx0)
 replace R' := hid (R'.out.up hx0)
 replace R1 := hid (R1.out.up hx0)
 clear hx0
 refine (read_w R'.out).mono ?_
 rintro e wn ⟨vx, rfl, hx, hb⟩
 obtain ⟨s2, A2, n2, c2, rfl, hs2, hr2⟩ := hx.form
 clear hx
 refine ⟨_, rfl, hb, ?_⟩
 replace E := hid (E.out.trans hb)
 replace B3 := hid (B3.out.up hb)
 replace R1 := hid (R1.out.up hb)
 have HS2 := hid hs2
 have R2 := hid hr2
 clear hb hs2 hr2
 simp only [pX]
 refine WE.var (d := some 5) rfl fun gC1 wv hx0 hbox hge hng => ?_
 have HNC1B3 := hid (show gC1 ≠ (w.heap.size + 2) by have := HL1B3.out; omega)
 have HGC1 := hid (show w.heap.size ≤ gC1 by have := HW1.out; omega)
 replace E := hid (E.out.trans hx0)
 replace B3 := hid (B3.out.up hx0)
 replace R1 := hid (R1.out.up hx0)
 replace R2 := hid (R2.out.up hx0)
 have C1 : Hid (Box wv gC1 #[.int .i64 0, .slice none 0 0] 132) := hid hbox
 clear hx0 hbox hge hng
 simp only [pX]
 refine WE.var (d := some 6) rfl fun gC2 wv hx0 hbox hge hng => ?_
 have HNC2B3 := hid (show gC2 ≠ (w.heap.size + 2) by have := HL1B3.out; omega)
 have HNC2C1 := hid (show gC2 ≠ gC1 by intro e; exact hng (by simp [e]))
 have HGC2 := hid (show w.heap.size ≤ gC2 by have := HW1.out; omega)
 replace E := hid (E.out.trans hx0)
 replace B3 := hid (B3.out.up hx0)
 replace C1 := hid (C1.out.up hx0)
 replace R1 := hid (R1.out.up hx0)
 replace R2 := hid (R2.out.up hx0)
 have C2 : Hid (Box wv gC2 #[.int .i64 0, .slice none 0 0] 132) := hid hbox
 clear hx0 hbox hge hng
 simp only [pX]
 refine WE.store2 (g := gC1) (x := .int .i64 s1) (y := .slice A1 n1 c1) (t := 132) rfl rfl (by rfl) (fun w hb => ?_) C1.out (by rfl) fun ws hk hs => ?_
 ·have c0 := hb.k 0; have f0 := hb.free 0; have c1 := hb.k 1; have f1 := hb.free 1; go_simp
 intro hbx
 replace E := hid (E.out.keptG hk HGC1.out)
 replace B3 := hid (B3.out.kept hk (by simpa using HNC1B3.out.symm))
 replace C1 := hid hbx
 replace C2 := hid (C2.out.kept hk (by simpa using HNC2C1.out))
 replace R1 := hid (R1.out.kz hs)
 replace R2 := hid (R2.out.kz hs)
 clear hk hs hbx
 refine WE.store2 (g := gC2) (x := .int .i64 s2) (y := .slice A2 n2 c2) (t := 132) rfl rfl (by rfl) (fun w hb => ?_) C2.out (by rfl) fun ws hk hs => ?_
 ·have c0 := hb.k 0; have f0 := hb.free 0; have c1 := hb.k 1; have f1 := hb.free 1; go_simp
 intro hbx
 replace E := hid (E.out.keptG hk HGC2.out)
 replace B3 := hid (B3.out.kept hk (by simpa using HNC2B3.out.symm))
 replace C1 := hid (C1.out.kept hk (by simpa using HNC2C1.out.symm))
 replace C2 := hid hbx
 replace R1 := hid (R1.out.kz hs)
 replace R2 := hid (R2.out.kz hs)
 clear hk hs hbx
 refine WE.done ?_
 have HD := hid (show -1 ≤ s1 ∧ s1 ≤ 1 by rw [HS1.out]; exact side_of _)
 have HE := hid (show -1 ≤ s2 ∧ s2 ≤ 1 by rw [HS2.out]; exact side_of _)
 go_upto_region 2 with (fail)
 refine wp_region_D [(0, 0), (1, 0), (2, 0), (3, 0), (5, 0), (6, 0), (7, 0), (8, 0), (4, 1), (9, 1), (10, 1), (11, 1), (12, 4)] fun wd hb => ?_
 replace E := hid (E.out.trans hb)
 replace B3 := hid (B3.out.up hb)
 replace C1 := hid (C1.out.up hb)
 replace C2 := hid (C2.out.up hb)
 replace R1 := hid (R1.out.up hb)
 replace R2 := hid (R2.out.up hb)
 clear hb
 refine WE.p 11 (.pointer (some ⟨gC1, 0, none⟩)) ?_
 refine WE.q 12 (.agg #[.int .i64 s1]) rfl (fun w' hk => by have c0 := (C1.out.up hk).k 0; go_simp) ?_
 refine WE.p 13 (.pointer (some ⟨gC2, 0, none⟩)) ?_
 refine WE.q 14 (.agg #[.int .i64 s2]) rfl (fun w' hk => by have c0 := (C2.out.up hk).k 0; go_simp) ?_
 refine WE.p 16 (.pointer (some ⟨gC1, 1, none⟩)) ?_
 refine WE.q 17 (.slice A1 n1 c1) rfl (fun w' hk => by have c1 := (C1.out.up hk).k 1; go_simp) ?_
 simp only [pX]
 refine WE.p 18 (.pointer (some ⟨gC2, 1, none⟩)) ?_
 refine WE.q 19 (.slice A2 n2 c2) rfl (fun w' hk => by have c1 := (C2.out.up hk).k 1; go_simp) ?_
 refine WE.call (d := some 15) rfl rfl (by rfl) (f := 146) (args := #[(.agg #[.int .i64 s1]), (.agg #[.int .i64 s2])]) (by go_simp) ?_
 refine (times_s _ s1 s2 HD.out.1 HD.out.2 HE.out.1 HE.out.2).mono ?_
 rintro e wn ⟨rfl, hb⟩
 refine ⟨_, rfl, hb, ?_⟩
 replace E := hid (E.out.trans hb)
 replace B3 := hid (B3.out.up hb)
 replace R1 := hid (R1.out.up hb)
 replace R2 := hid (R2.out.up hb)
 clear hb
 refine WE.call (d := some 20) rfl rfl (by rfl) (f := 147) (args := #[(.slice A1 n1 c1), (.slice A2 n2 c2)]) (by go_simp) ?_
 refine (mul_n R1.out R2.out HJ.out HK.out HM.out).mono ?_
 rintro e wn ⟨vx, rfl, hx, hb⟩
 obtain ⟨A3, n3, c3, rfl⟩ := hx.1.slice
 refine ⟨_, rfl, hb, ?_⟩
 replace E := hid (E.out.trans hb)
 replace B3 := hid (B3.out.up hb)
 have R3 := hid hx
 clear hb hx
 refine WE.call (d := some 21) rfl rfl (by rfl) (f := 132) (args := #[(.agg #[.int .i64 (s1 * s2)]), (.slice A3 n3 c3)]) (by go_simp) ?_
 refine (signed_n R3.out (Z := Z * Y) (Int.natAbs_mul Z Y).symm (fun _ => by rw [HS1.out, HS2.out, Int.sign_mul])).mono ?_
 rintro e wn ⟨vx, rfl, hx, hb⟩
 obtain ⟨s4, A4, n4, c4, rfl, hs4, hr4⟩ := hx.form
 clear hx
 refine ⟨_, rfl, hb, ?_⟩
 replace E := hid (E.out.trans hb)
 replace B3 := hid (B3.out.up hb)
 have HS4 := hid hs4
 have R4 := hid hr4
 clear hb hs4 hr4
 refine WE.call (d := some 22) rfl rfl (by rfl) (f := 148) (args := #[(.agg #[.int .i64 s4, .slice A4 n4 c4])]) (by go_simp) ?_
 refine (told_i (InZ.mk HS4.out R4.out)).mono ?_
 rintro e wn ⟨vx, rfl, hx, hb⟩
 obtain ⟨g5, A5, n5, c5, rfl, hs5, hr5⟩ := hx.form
 clear hx
 refine ⟨_, rfl, hb, ?_⟩
 replace E := hid (E.out.trans hb)
 replace B3 := hid (B3.out.up hb)
 have HS5 := hid hs5
 have R5 := hid hr5
 clear hb hs5 hr5
 simp only [pX]
 refine WE.store2 (g := (w.heap.size + 2)) (x := .bool g5) (y := .slice A5 n5 c5) (t := 24) rfl rfl (by rfl) (fun w hb => ?_) B3.out (by rfl) fun ws hk hs => ?_
 ·have c0 := hb.k 0; have f0 := hb.free 0; have c1 := hb.k 1; have f1 := hb.free 1; go_simp
 intro hbx
 replace E := hid (E.out.keptG hk (by simp))
 replace B3 := hid hbx
 replace R5 := hid (R5.out.kz hs)
 clear hk hs hbx
 refine WE.done ?_
 have r0 := B3.out.cell (o := 0) (v := .bool g5) rfl
 have r1 := B3.out.cell (o := 1) (v := .slice A5 n5 c5) rfl
 go_wp2
 exact bodyPost_ret (v := .agg #[.bool g5, .slice A5 n5 c5]) (by simp [results, Tryz.results118, go_sem, r0, r1]) rfl ⟨_, rfl, IsZ.mk HS5.out R5.out, E.out⟩
set_option maxHeartbeats 2000000 in
theorem euclid_w {w : World} {u v : Value} {Z Y : Int} {j k : Nat} (hu : Worth w u Z j) (hv : Worth w v Y k) (hj : j ≤ 1000000) (hk : k ≤ 1000000) :
 Calls Tryz.prog 120 #[u, v] w (GivesZ2 w (Z / Y) (max j 3 + 1) (Z % Y) (max j k + 1)) := by
 obtain ⟨g, A, n, c, rfl⟩ := hu.shape
 obtain ⟨g', A', n', c', rfl⟩ := hv.shape
 have R := hid hu
 have R' := hid hv
 clear hu hv
 have HJ := hid hj
 have HK := hid hk
 clear hj hk
 go_enter Tryz.func120, Tryz.ntmps120
 go_upto_region 1 with (fail)
 obtain ⟨E, B1, B2, B3, B4⟩ := open4 w #[.bool g, .slice A n c] 24 #[.bool g', .slice A' n' c'] 24 #[.bool false, .slice none 0 0] 24 #[.bool false, .slice none 0 0] 24
 replace R := hid (R.out.up E.out)
 replace R' := hid (R'.out.up E.out)
 refine wp_region_S [(0, 0), (1, 1), (2, 1), (3, 4)] fun wd hb => ?_
 replace E := hid (E.out.trans hb)
 replace B1 := hid (B1.out.up hb)
 replace B2 := hid (B2.out.up hb)
 replace B3 := hid (B3.out.up hb)
 replace B4 := hid (B4.out.up hb)
 replace R := hid (R.out.up hb)
 replace R' := hid (R'.out.up hb)
 clear hb
 refine WE.q 9 (.agg #[.bool g', .slice A' n' c']) rfl (fun w' hk => by have c0 := (B2.out.up hk).k 0; have c1 := (B2.out.up hk).k 1; go_simp) ?_
 refine WE.call (d := some 10) rfl rfl (by rfl) (f := 107) (args := #[(.agg #[.bool g', .slice A' n' c'])]) (by go_simp) ?_
 refine (read_w R'.out).mono ?_
 rintro e wn ⟨vx, rfl, hx, hb⟩
 obtain ⟨s2, A2, n2, c2, rfl, hs2, hr2⟩ := hx.form
 clear hx
 refine ⟨_, rfl, hb, ?_⟩
 replace E := hid (E.out.trans hb)
 replace B1 := hid (B1.out.up hb)
 replace B2 := hid (B2.out.up hb)
 replace B3 := hid (B3.out.up hb)
 replace B4 := hid (B4.out.up hb)
 replace R := hid (R.out.up hb)
 have HS2 := hid hs2
 have R2 := hid hr2
 clear hb hs2 hr2
 refine WE.new (d := some 6) (cs := #[.int .i64 0, .slice none 0 0]) (t := 132) (v := fun g => (.pointer (some ⟨g, 0, none⟩))) rfl rfl (by rfl) (fun w => by go_simp) fun gC0 wv hx0 hbox hge => ?_
 have HNC0B1 := hid (show gC0 ≠ (w.heap.size) by have := B1.out.lt; omega)
 have HNC0B2 := hid (show gC0 ≠ (w.heap.size + 1) by have := B2.out.lt; omega)
 have HNC0B3 := hid (show gC0 ≠ (w.heap.size + 2) by have := B3.out.lt; omega)
 have HNC0B4 := hid (show gC0 ≠ (w.heap.size + 3) by have := B4.out.lt; omega)
 have HGC0 := hid (show w.heap.size ≤ gC0 by have := E.out.size; omega)
 replace E := hid (E.out.trans hx0)
 replace B1 := hid (B1.out.up hx0)
 replace B2 := hid (B2.out.up hx0)
 replace B3 := hid (B3.out.up hx0)
 replace B4 := hid (B4.out.up hx0)
 replace R := hid (R.out.up hx0)
 replace R2 := hid (R2.out.up hx0)
 have C0 : Hid (Box wv gC0 #[.int .i64 0, .slice none 0 0] 132) := hid hbox
 clear hx0 hbox hge
 simp only [pX]
 refine WE.store2 (g := gC0) (x := .int .i64 s2) (y := .slice A2 n2 c2) (t := 132) rfl rfl (by rfl) (fun w hb => ?_) C0.out (by rfl) fun ws hk hs => ?_
 ·have c0 := hb.k 0; have f0 := hb.free 0; have c1 := hb.k 1; have f1 := hb.free 1; go_simp
 intro hbx
 replace E := hid (E.out.keptG hk HGC0.out)
 replace B1 := hid (B1.out.kept hk (by simpa using HNC0B1.out.symm))
 replace B2 := hid (B2.out.kept hk (by simpa using HNC0B2.out.symm))
 replace B3 := hid (B3.out.kept hk (by simpa using HNC0B3.out.symm))
 replace B4 := hid (B4.out.kept hk (by simpa using HNC0B4.out.symm))
 replace C0 := hid hbx
 replace R := hid (R.out.kz hs)
 replace R2 := hid (R2.out.kz hs)
 clear hk hs hbx
 refine WE.done ?_
 go_upto_region 2 with (fail)
 refine wp_region_L [(0, 0), (2, 0), (1, 2), (3, 2), (4, 2), (5, 0), (6, 0), (7, 5), (8, 3), (9, 3), (10, 4), (11, 4)] 132 #[.int .i64 0, .slice none 0 0] fun wd hb => ?_
 replace E := hid (E.out.trans hb)
 replace B1 := hid (B1.out.up hb)
 replace B2 := hid (B2.out.up hb)
 replace B3 := hid (B3.out.up hb)
 replace B4 := hid (B4.out.up hb)
 replace C0 := hid (C0.out.up hb)
 replace R := hid (R.out.up hb)
 replace R2 := hid (R2.out.up hb)
 clear hb
 have HL1B1 := hid B1.out.lt
 have HL1B2 := hid B2.out.lt
 have HL1B3 := hid B3.out.lt
 have HL1B4 := hid B4.out.lt
 have HL1C0 := hid C0.out.lt
 have HW1 := hid (show w.heap.size ≤ wd.heap.size from E.out.size)
 refine WE.q 12 (.agg #[.bool g, .slice A n c]) rfl (fun w' hk => by have c0 := (B1.out.up hk).k 0; have c1 := (B1.out.up hk).k 1; go_simp) ?_
 refine WE.q 14 (.agg #[.int .i64 s2, .slice A2 n2 c2]) rfl (fun w' hk => by have c0 := (C0.out.up hk).k 0; have c1 := (C0.out.up hk).k 1; go_simp) ?_
 refine WE.callR (d := some 13) rfl rfl (by rfl) (f := 107) (args := #[(.agg #[.bool g, .slice A n c])]) (fun w => by go_simp) (fun wx hx0 => ?_)
 replace E := hid (E.out.trans hx0)
 replace B3 := hid (B3.out.up hx0)
 replace B4 := hid (B4.out.up hx0)
 replace C0 := hid (C0.out.up hx0)
 replace R := hid (R.out.up hx0)
 replace R2 := hid (R2.out.up hx0)
 clear hx0
 refine (read_w R.out).mono ?_
 rintro e wn ⟨vx, rfl, hx, hb⟩
 obtain ⟨s1, A1, n1, c1, rfl, hs1, hr1⟩ := hx.form
 clear hx
 refine ⟨_, rfl, hb, ?_⟩
 replace E := hid (E.out.trans hb)
 replace B3 := hid (B3.out.up hb)
 replace B4 := hid (B4.out.up hb)
 replace C0 := hid (C0.out.up hb)
 replace R2 := hid (R2.out.up hb)
 have HS1 := hid hs1
 have R1 := hid hr1
 clear hb hs1 hr1
 refine WE.callR (d := some 15) rfl rfl (by rfl) (f := 150) (args := #[(.agg #[.int .i64 s2, .slice A2 n2 c2])]) (fun w => by go_simp) (fun wx hx0 => ?_)
 replace E := hid (E.out.trans hx0)
 replace B3 := hid (B3.out.up hx0)
 replace B4 := hid (B4.out.up hx0)
 replace C0 := hid (C0.out.up hx0)
 replace R2 := hid (R2.out.up hx0)
 replace R1 := hid (R1.out.up hx0)
 clear hx0
 refine (absolute_i (InZ.mk HS2.out R2.out)).mono ?_
 rintro e wn ⟨vx, rfl, hx, hb⟩
 obtain ⟨s7, A7, n7, c7, rfl, hs7, hr7⟩ := hx.form
 clear hx
 refine ⟨_, rfl, hb, ?_⟩
 replace E := hid (E.out.trans hb)
 replace B3 := hid (B3.out.up hb)
 replace B4 := hid (B4.out.up hb)
 replace C0 := hid (C0.out.up hb)
 replace R1 := hid (R1.out.up hb)
 have HS7 := hid hs7
 have R7 := hid hr7
 clear hb hs7 hr7
 refine WE.callR (d := some 16) rfl rfl (by rfl) (f := 151) (args := #[(.agg #[.int .i64 s1, .slice A1 n1 c1]), (.agg #[.int .i64 s7, .slice A7 n7 c7])]) (fun w => by go_simp) (fun wx hx0 => ?_)
 replace E := hid (E.out.trans hx0)
 replace B3 := hid (B3.out.up hx0)
 replace B4 := hid (B4.out.up hx0)
 replace C0 := hid (C0.out.up hx0)
 replace R1 := hid (R1.out.up hx0)
 replace R7 := hid (R7.out.up hx0)
 clear hx0
 refine (floor_i (InZ.mk HS1.out R1.out) (InZ.mk HS7.out R7.out) HJ.out HK.out).mono ?_
 rintro e wn ⟨vx, vy, rfl, hx, hy, hb⟩
 obtain ⟨s3, A3, n3, c3, rfl, hs3, hr3⟩ := hx.form
 obtain ⟨s4, A4, n4, c4, rfl, hs4, hr4⟩ := hy.form
 clear hx hy
 refine ⟨_, rfl, hb, ?_⟩
 replace E := hid (E.out.trans hb)
 replace B3 := hid (B3.out.up hb)
 replace B4 := hid (B4.out.up hb)
 replace C0 := hid (C0.out.up hb)
 have HS3 := hid hs3
 have R3 := hid hr3
 have HS4 := hid hs4
 have R4 := hid hr4
 clear hb hs3 hr3 hs4 hr4
 refine WE.p 11 (.tuple #[(.agg #[.int .i64 s3, .slice A3 n3 c3]), (.agg #[.int .i64 s4, .slice A4 n4 c4])]) ?_
 simp only [pX]
 refine WE.p 17 (.agg #[.int .i64 s3, .slice A3 n3 c3]) ?_
 refine WE.y 18 (.agg #[.int .i64 s4, .slice A4 n4 c4]) ?_
 simp only [pX]
 refine WE.var (d := some 7) rfl fun gC1 wv hx0 hbox hge hng => ?_
 have HNC1B3 := hid (show gC1 ≠ (w.heap.size + 2) by have := HL1B3.out; omega)
 have HNC1B4 := hid (show gC1 ≠ (w.heap.size + 3) by have := HL1B4.out; omega)
 have HNC1C0 := hid (show gC1 ≠ gC0 by have := HL1C0.out; omega)
 have HGC1 := hid (show w.heap.size ≤ gC1 by have := HW1.out; omega)
 replace E := hid (E.out.trans hx0)
 replace B3 := hid (B3.out.up hx0)
 replace B4 := hid (B4.out.up hx0)
 replace C0 := hid (C0.out.up hx0)
 replace R3 := hid (R3.out.up hx0)
 replace R4 := hid (R4.out.up hx0)
 have C1 : Hid (Box wv gC1 #[.int .i64 0, .slice none 0 0] 132) := hid hbox
 clear hx0 hbox hge hng
 simp only [pX]
 refine WE.var (d := some 8) rfl fun gC2 wv hx0 hbox hge hng => ?_
 have HNC2B3 := hid (show gC2 ≠ (w.heap.size + 2) by have := HL1B3.out; omega)
 have HNC2B4 := hid (show gC2 ≠ (w.heap.size + 3) by have := HL1B4.out; omega)
 have HNC2C0 := hid (show gC2 ≠ gC0 by have := HL1C0.out; omega)
 have HNC2C1 := hid (show gC2 ≠ gC1 by intro e; exact hng (by simp [e]))
 have HGC2 := hid (show w.heap.size ≤ gC2 by have := HW1.out; omega)
 replace E := hid (E.out.trans hx0)
 replace B3 := hid (B3.out.up hx0)
 replace B4 := hid (B4.out.up hx0)
 replace C0 := hid (C0.out.up hx0)
 replace C1 := hid (C1.out.up hx0)
 replace R3 := hid (R3.out.up hx0)
 replace R4 := hid (R4.out.up hx0)
 have C2 : Hid (Box wv gC2 #[.int .i64 0, .slice none 0 0] 132) := hid hbox
 clear hx0 hbox hge hng
 simp only [pX]
 refine WE.store2 (g := gC1) (x := .int .i64 s3) (y := .slice A3 n3 c3) (t := 132) rfl rfl (by rfl) (fun w hb => ?_) C1.out (by rfl) fun ws hk hs => ?_
 ·have c0 := hb.k 0; have f0 := hb.free 0; have c1 := hb.k 1; have f1 := hb.free 1; go_simp
 intro hbx
 replace E := hid (E.out.keptG hk HGC1.out)
 replace B3 := hid (B3.out.kept hk (by simpa using HNC1B3.out.symm))
 replace B4 := hid (B4.out.kept hk (by simpa using HNC1B4.out.symm))
 replace C0 := hid (C0.out.kept hk (by simpa using HNC1C0.out.symm))
 replace C1 := hid hbx
 replace C2 := hid (C2.out.kept hk (by simpa using HNC2C1.out))
 replace R3 := hid (R3.out.kz hs)
 replace R4 := hid (R4.out.kz hs)
 clear hk hs hbx
 refine WE.store2 (g := gC2) (x := .int .i64 s4) (y := .slice A4 n4 c4) (t := 132) rfl rfl (by rfl) (fun w hb => ?_) C2.out (by rfl) fun ws hk hs => ?_
 ·have c0 := hb.k 0; have f0 := hb.free 0; have c1 := hb.k 1; have f1 := hb.free 1; go_simp
 intro hbx
 replace E := hid (E.out.keptG hk HGC2.out)
 replace B3 := hid (B3.out.kept hk (by simpa using HNC2B3.out.symm))
 replace B4 := hid (B4.out.kept hk (by simpa using HNC2B4.out.symm))
 replace C0 := hid (C0.out.kept hk (by simpa using HNC2C0.out.symm))
 replace C1 := hid (C1.out.kept hk (by simpa using HNC2C1.out.symm))
 replace C2 := hid hbx
 replace R3 := hid (R3.out.kz hs)
 replace R4 := hid (R4.out.kz hs)
 clear hk hs hbx
 refine WE.done ?_
 have HD := hid (show -1 ≤ s3 ∧ s3 ≤ 1 by rw [HS3.out]; exact side_of _)
 have HE := hid (show -1 ≤ s2 ∧ s2 ≤ 1 by rw [HS2.out]; exact side_of _)
 go_upto_region 3 with (fail)
 refine wp_region_D [(0, 0), (1, 0), (2, 0), (3, 0), (5, 0), (6, 0), (9, 0), (4, 1), (7, 1), (8, 1), (10, 1), (11, 4), (12, 4)] fun wd hb => ?_
 replace E := hid (E.out.trans hb)
 replace B3 := hid (B3.out.up hb)
 replace B4 := hid (B4.out.up hb)
 replace C0 := hid (C0.out.up hb)
 replace C1 := hid (C1.out.up hb)
 replace C2 := hid (C2.out.up hb)
 replace R3 := hid (R3.out.up hb)
 replace R4 := hid (R4.out.up hb)
 clear hb
 refine WE.p 19 (.pointer (some ⟨gC1, 0, none⟩)) ?_
 refine WE.q 20 (.agg #[.int .i64 s3]) rfl (fun w' hk => by have c0 := (C1.out.up hk).k 0; go_simp) ?_
 refine WE.p 21 (.pointer (some ⟨gC0, 0, none⟩)) ?_
 refine WE.q 22 (.agg #[.int .i64 s2]) rfl (fun w' hk => by have c0 := (C0.out.up hk).k 0; go_simp) ?_
 refine WE.p 24 (.pointer (some ⟨gC1, 1, none⟩)) ?_
 refine WE.q 25 (.slice A3 n3 c3) rfl (fun w' hk => by have c1 := (C1.out.up hk).k 1; go_simp) ?_
 simp only [pX]
 refine WE.q 28 (.agg #[.int .i64 s4, .slice A4 n4 c4]) rfl (fun w' hk => by have c0 := (C2.out.up hk).k 0; have c1 := (C2.out.up hk).k 1; go_simp) ?_
 refine WE.call (d := some 23) rfl rfl (by rfl) (f := 146) (args := #[(.agg #[.int .i64 s3]), (.agg #[.int .i64 s2])]) (by go_simp) ?_
 refine (times_s _ s3 s2 HD.out.1 HD.out.2 HE.out.1 HE.out.2).mono ?_
 rintro e wn ⟨rfl, hb⟩
 refine ⟨_, rfl, hb, ?_⟩
 replace E := hid (E.out.trans hb)
 replace B3 := hid (B3.out.up hb)
 replace B4 := hid (B4.out.up hb)
 replace R3 := hid (R3.out.up hb)
 replace R4 := hid (R4.out.up hb)
 clear hb
 refine WE.call (d := some 26) rfl rfl (by rfl) (f := 132) (args := #[(.agg #[.int .i64 (s3 * s2)]), (.slice A3 n3 c3)]) (by go_simp) ?_
 refine (signed_n R3.out (Z := Z / Y) (M.euclid_parts Z Y).1 (fun h => by rw [HS3.out, HS2.out]; exact (M.euclid_parts Z Y).2 h)).mono ?_
 rintro e wn ⟨vx, rfl, hx, hb⟩
 obtain ⟨s8, A8, n8, c8, rfl, hs8, hr8⟩ := hx.form
 clear hx
 refine ⟨_, rfl, hb, ?_⟩
 replace E := hid (E.out.trans hb)
 replace B3 := hid (B3.out.up hb)
 replace B4 := hid (B4.out.up hb)
 replace R4 := hid (R4.out.up hb)
 have HS8 := hid hs8
 have R8 := hid hr8
 clear hb hs8 hr8
 refine WE.call (d := some 27) rfl rfl (by rfl) (f := 148) (args := #[(.agg #[.int .i64 s8, .slice A8 n8 c8])]) (by go_simp) ?_
 refine (told_i (InZ.mk HS8.out R8.out)).mono ?_
 rintro e wn ⟨vx, rfl, hx, hb⟩
 obtain ⟨g5, A5, n5, c5, rfl, hs5, hr5⟩ := hx.form
 clear hx
 refine ⟨_, rfl, hb, ?_⟩
 replace E := hid (E.out.trans hb)
 replace B3 := hid (B3.out.up hb)
 replace B4 := hid (B4.out.up hb)
 replace R4 := hid (R4.out.up hb)
 have HS5 := hid hs5
 have R5 := hid hr5
 clear hb hs5 hr5
 refine WE.call (d := some 29) rfl rfl (by rfl) (f := 148) (args := #[(.agg #[.int .i64 s4, .slice A4 n4 c4])]) (by go_simp) ?_
 refine (told_i (InZ.mk HS4.out R4.out)).mono ?_
 rintro e wn ⟨vx, rfl, hx, hb⟩
 obtain ⟨g6, A6, n6, c6, rfl, hs6, hr6⟩ := hx.form
 clear hx
 refine ⟨_, rfl, hb, ?_⟩
 replace E := hid (E.out.trans hb)
 replace B3 := hid (B3.out.up hb)
 replace B4 := hid (B4.out.up hb)
 replace R5 := hid (R5.out.up hb)
 have HS6 := hid hs6
 have R6 := hid hr6
 clear hb hs6 hr6
 simp only [pX]
 refine WE.store2 (g := (w.heap.size + 2)) (x := .bool g5) (y := .slice A5 n5 c5) (t := 24) rfl rfl (by rfl) (fun w hb => ?_) B3.out (by rfl) fun ws hk hs => ?_
 ·have c0 := hb.k 0; have f0 := hb.free 0; have c1 := hb.k 1; have f1 := hb.free 1; go_simp
 intro hbx
 replace E := hid (E.out.keptG hk (by simp))
 replace B3 := hid hbx
 replace B4 := hid (B4.out.kept hk (by simp))
 replace R5 := hid (R5.out.kz hs)
 replace R6 := hid (R6.out.kz hs)
 clear hk hs hbx
 refine WE.store2 (g := (w.heap.size + 3)) (x := .bool g6) (y := .slice A6 n6 c6) (t := 24) rfl rfl (by rfl) (fun w hb => ?_) B4.out (by rfl) fun ws hk hs => ?_
 ·have c0 := hb.k 0; have f0 := hb.free 0; have c1 := hb.k 1; have f1 := hb.free 1; go_simp
 intro hbx
 replace E := hid (E.out.keptG hk (by simp))
 replace B3 := hid (B3.out.kept hk (by simp))
 replace B4 := hid hbx
 replace R5 := hid (R5.out.kz hs)
 replace R6 := hid (R6.out.kz hs)
 clear hk hs hbx
 refine WE.done ?_
 have r0 := B3.out.cell (o := 0) (v := .bool g5) rfl
 have r1 := B3.out.cell (o := 1) (v := .slice A5 n5 c5) rfl
 have r2 := B4.out.cell (o := 0) (v := .bool g6) rfl
 have r3 := B4.out.cell (o := 1) (v := .slice A6 n6 c6) rfl
 go_wp2
 exact bodyPost_ret (v := .tuple #[.agg #[.bool g5, .slice A5 n5 c5], .agg #[.bool g6, .slice A6 n6 c6]]) (by simp [results, Tryz.results120, go_sem, r0, r1, r2, r3]) rfl ⟨_, _, rfl, IsZ.mk HS5.out R5.out, IsZ.to (IsZ.mk HS6.out R6.out) (M.euclid_of Z Y).2.symm, E.out⟩
namespace M
def most (Z : Int) : Nat := if Z < 0 then 9223372036854775808 else 9223372036854775807
def fits (Z : Int) : Prop := -9223372036854775808 ≤ Z ∧ Z ≤ 9223372036854775807
theorem wrap64_eq (n : Int) : wrap64 n = IntKind.i64.wrap n := by rw [IntKind.wrap_i64]; unfold wrap64; omega
theorem most_side (Z : Int) : (Z.sign < 0 → (most Z : Int) = 9223372036854775808) ∧ (0 ≤ Z.sign → (most Z : Int) = 9223372036854775807) := by
 unfold most
 rcases sign_cases Z with ⟨h, e⟩ | ⟨h, e⟩ | ⟨h, e⟩ <;> rw [e]
 ·rw [if_pos h]; exact ⟨fun _ => rfl, fun h => absurd h (by decide)⟩
 ·rw [if_neg (by omega)]; exact ⟨fun h => absurd h (by decide), fun _ => rfl⟩
 ·rw [if_neg (by omega)]; exact ⟨fun h => absurd h (by decide), fun _ => rfl⟩
theorem most_le (Z : Int) : (most Z : Int) ≤ 18446744073709551615 := by unfold most; split <;> omega
theorem fits_iff (Z : Int) : fits Z ↔ Z.natAbs ≤ most Z := by unfold fits most; split <;> omega
theorem small_last {Z s a : Int} (hs : s = Z.sign) (ha : a = IntKind.i64.wrap (Z.natAbs : Int)) (hf : fits Z) : IntKind.i64.wrap (s * a) = Z := by
 subst hs ha
 unfold fits at hf
 rcases sign_cases Z with ⟨h, e⟩ | ⟨h, e⟩ | ⟨h, e⟩ <;> rw [e] <;> rw [IntKind.wrap_i64, IntKind.wrap_i64] <;> omega
theorem small_step {a a' : Int} {l : List Nat} {k x : Nat} (ha : a = IntKind.i64.wrap (val (l.drop (k + 1)) : Int)) (hx : l[k]? = some x) (h' : a' = wrap64 (wrap64 (a * 1000000000) + wrap64 (x : Int))) : a' = IntKind.i64.wrap (val (l.drop k) : Int) := by
 subst ha h'
 have e : val (l.drop k) = x + 1000000000 * val (l.drop (k + 1)) := by rw [drop_at hx]; rfl
 rw [e, IntKind.wrap_i64, IntKind.wrap_i64]
 unfold wrap64
 omega
end M
set_option maxHeartbeats 1000000 in
theorem small_no {w : World} {u : Value} {Z : Int} {j : Nat} (hu : Worth w u Z j) (hf : ¬ M.fits Z) :
 Calls Tryz.prog 129 #[u] w (fun e w' => e = .returned (.tuple #[.int .i64 0, .bool false]) ∧ Ext w w') := by
 obtain ⟨g, A, n, c, rfl⟩ := hu.shape
 have R := hid hu
 clear hu
 have HF := hid hf
 clear hf
 obtain ⟨m, hm⟩ : ∃ m : Nat, m = M.most Z := ⟨_, rfl⟩
 have HM := hid hm
 clear hm
 go_enter Tryz.func129, Tryz.ntmps129
 go_upto_region 1 with (fail)
 obtain ⟨E, B1⟩ := open1 w #[.bool g, .slice A n c] 24
 replace R := hid (R.out.up E.out)
 refine wp_region_S [(0, 0), (1, 1), (2, 1), (3, 4)] fun wd hb => ?_
 replace E := hid (E.out.trans hb)
 replace B1 := hid (B1.out.up hb)
 replace R := hid (R.out.up hb)
 clear hb
 refine WE.q 7 (.agg #[.bool g, .slice A n c]) rfl (fun w' hk => by have c0 := (B1.out.up hk).k 0; have c1 := (B1.out.up hk).k 1; go_simp) ?_
 refine WE.call (d := some 8) rfl rfl (by rfl) (f := 107) (args := #[(.agg #[.bool g, .slice A n c])]) (by go_simp) ?_
 refine (read_w R.out).mono ?_
 rintro e wn ⟨vx, rfl, hx, hb⟩
 obtain ⟨s1, A1, n1, c1, rfl, hs1, hr1⟩ := hx.form
 clear hx
 refine ⟨_, rfl, hb, ?_⟩
 replace E := hid (E.out.trans hb)
 have HS1 := hid hs1
 have R1 := hid hr1
 clear hb hs1 hr1
 refine WE.new (d := some 4) (cs := #[.int .i64 0, .slice none 0 0]) (t := 132) (v := fun g => (.pointer (some ⟨g, 0, none⟩))) rfl rfl (by rfl) (fun w => by go_simp) fun gC1 wv hx0 hbox hge => ?_
 have HGC1 := hid (show w.heap.size ≤ gC1 by have := E.out.size; omega)
 replace E := hid (E.out.trans hx0)
 replace R1 := hid (R1.out.up hx0)
 have C1 : Hid (Box wv gC1 #[.int .i64 0, .slice none 0 0] 132) := hid hbox
 clear hx0 hbox hge
 simp only [pX]
 refine WE.store2 (g := gC1) (x := .int .i64 s1) (y := .slice A1 n1 c1) (t := 132) rfl rfl (by rfl) (fun w hb => ?_) C1.out (by rfl) fun ws hk hs => ?_
 ·have c0 := hb.k 0; have f0 := hb.free 0; have c1 := hb.k 1; have f1 := hb.free 1; go_simp
 intro hbx
 replace E := hid (E.out.keptG hk HGC1.out)
 replace C1 := hid hbx
 replace R1 := hid (R1.out.kz hs)
 clear hk hs hbx
 refine WE.done ?_
 have HMO := hid (show (s1 < 0 → (m : Int) = 9223372036854775808) ∧ (0 ≤ s1 → (m : Int) = 9223372036854775807) by rw [HS1.out, HM.out]; exact M.most_side Z)
 go_upto_region 2 with (fail)
 refine wp_region_D [(0, 0), (1, 0), (2, 0), (3, 0), (4, 1), (5, 1), (6, 1), (7, 0)] fun wd hb => ?_
 replace E := hid (E.out.trans hb)
 replace C1 := hid (C1.out.up hb)
 replace R1 := hid (R1.out.up hb)
 clear hb
 refine WE.p 9 (.pointer (some ⟨gC1, 1, none⟩)) ?_
 refine WE.q 10 (.slice A1 n1 c1) rfl (fun w' hk => by have c1 := (C1.out.up hk).k 1; go_simp) ?_
 refine WE.p 11 (.pointer (some ⟨gC1, 0, none⟩)) ?_
 refine WE.q 12 (.agg #[.int .i64 s1]) rfl (fun w' hk => by have c0 := (C1.out.up hk).k 0; go_simp) ?_
 refine WE.call (d := some 13) rfl rfl (by rfl) (f := 156) (args := #[(.agg #[.int .i64 s1])]) (by go_simp) ?_
 refine (most_s _ s1 (m := (m : Int)) HMO).mono ?_
 rintro e wn ⟨rfl, hb⟩
 refine ⟨_, rfl, hb, ?_⟩
 replace E := hid (E.out.trans hb)
 replace R1 := hid (R1.out.up hb)
 clear hb
 refine WE.call (d := some 14) rfl rfl (by rfl) (f := 109) (args := #[(.int .u64 (m : Int))]) (by go_simp) ?_
 refine (of_n m (by rw [HM.out]; exact M.most_le Z) _).mono ?_
 rintro e wn ⟨vx, rfl, hx, hb⟩
 obtain ⟨A2, n2, c2, rfl⟩ := hx.1.slice
 refine ⟨_, rfl, hb, ?_⟩
 replace E := hid (E.out.trans hb)
 replace R1 := hid (R1.out.up hb)
 have R2 := hid hx
 clear hb hx
 simp only [pX]
 refine WE.call (d := some 15) rfl rfl (by rfl) (f := 134) (args := #[(.slice A1 n1 c1), (.slice A2 n2 c2)]) (by go_simp) ?_
 refine (cmp_n R1.out R2.out (z := 1) (M.cmp_gt (by rw [HM.out]; have := HF.out; rw [M.fits_iff] at this; omega))).mono ?_
 rintro e wn ⟨rfl, hb⟩
 refine ⟨_, rfl, hb, ?_⟩
 replace E := hid (E.out.trans hb)
 clear hb
 refine WE.p 16 (.bool true) ?_
 simp only [pX]
 refine WE.done ?_
 go_wp2
 go_ret2
 exact ⟨rfl, E.out⟩
set_option maxHeartbeats 2000000 in
theorem small_yes {w : World} {u : Value} {Z : Int} {j : Nat} (hu : Worth w u Z j) (hf : M.fits Z) :
 Calls Tryz.prog 129 #[u] w (fun e w' => e = .returned (.tuple #[.int .i64 Z, .bool true]) ∧ Ext w w') := by
 obtain ⟨g, A, n, c, rfl⟩ := hu.shape
 have R := hid hu
 clear hu
 have HF := hid hf
 clear hf
 obtain ⟨m, hm⟩ : ∃ m : Nat, m = M.most Z := ⟨_, rfl⟩
 have HM := hid hm
 obtain ⟨z, hz⟩ : ∃ z : Int, z = M.cmp Z.natAbs m := ⟨_, rfl⟩
 have HZ := hid hz
 have hz0 : decide (0 < z) = false := by have := M.cmp_nonpos (show Z.natAbs ≤ m by rw [hm]; exact (M.fits_iff Z).1 HF.out); rw [← hz] at this; simpa using this
 clear hz
 clear hm
 go_enter Tryz.func129, Tryz.ntmps129
 go_upto_region 1 with (fail)
 obtain ⟨E, B1⟩ := open1 w #[.bool g, .slice A n c] 24
 replace R := hid (R.out.up E.out)
 refine wp_region_S [(0, 0), (1, 1), (2, 1), (3, 4)] fun wd hb => ?_
 replace E := hid (E.out.trans hb)
 replace B1 := hid (B1.out.up hb)
 replace R := hid (R.out.up hb)
 clear hb
 refine WE.q 7 (.agg #[.bool g, .slice A n c]) rfl (fun w' hk => by have c0 := (B1.out.up hk).k 0; have c1 := (B1.out.up hk).k 1; go_simp) ?_
 refine WE.call (d := some 8) rfl rfl (by rfl) (f := 107) (args := #[(.agg #[.bool g, .slice A n c])]) (by go_simp) ?_
 refine (read_w R.out).mono ?_
 rintro e wn ⟨vx, rfl, hx, hb⟩
 obtain ⟨s1, A1, n1, c1, rfl, hs1, hr1⟩ := hx.form
 clear hx
 refine ⟨_, rfl, hb, ?_⟩
 replace E := hid (E.out.trans hb)
 have HS1 := hid hs1
 have R1 := hid hr1
 clear hb hs1 hr1
 refine WE.new (d := some 4) (cs := #[.int .i64 0, .slice none 0 0]) (t := 132) (v := fun g => (.pointer (some ⟨g, 0, none⟩))) rfl rfl (by rfl) (fun w => by go_simp) fun gC1 wv hx0 hbox hge => ?_
 have HGC1 := hid (show w.heap.size ≤ gC1 by have := E.out.size; omega)
 replace E := hid (E.out.trans hx0)
 replace R1 := hid (R1.out.up hx0)
 have C1 : Hid (Box wv gC1 #[.int .i64 0, .slice none 0 0] 132) := hid hbox
 clear hx0 hbox hge
 simp only [pX]
 refine WE.store2 (g := gC1) (x := .int .i64 s1) (y := .slice A1 n1 c1) (t := 132) rfl rfl (by rfl) (fun w hb => ?_) C1.out (by rfl) fun ws hk hs => ?_
 ·have c0 := hb.k 0; have f0 := hb.free 0; have c1 := hb.k 1; have f1 := hb.free 1; go_simp
 intro hbx
 replace E := hid (E.out.keptG hk HGC1.out)
 replace C1 := hid hbx
 replace R1 := hid (R1.out.kz hs)
 clear hk hs hbx
 refine WE.done ?_
 have HMO := hid (show (s1 < 0 → (m : Int) = 9223372036854775808) ∧ (0 ≤ s1 → (m : Int) = 9223372036854775807) by rw [HS1.out, HM.out]; exact M.most_side Z)
 go_upto_region 2 with (fail)
 refine wp_region_D [(0, 0), (1, 0), (2, 0), (3, 0), (4, 1), (5, 1), (6, 1), (7, 0)] fun wd hb => ?_
 replace E := hid (E.out.trans hb)
 replace C1 := hid (C1.out.up hb)
 replace R1 := hid (R1.out.up hb)
 clear hb
 refine WE.p 9 (.pointer (some ⟨gC1, 1, none⟩)) ?_
 refine WE.q 10 (.slice A1 n1 c1) rfl (fun w' hk => by have c1 := (C1.out.up hk).k 1; go_simp) ?_
 refine WE.p 11 (.pointer (some ⟨gC1, 0, none⟩)) ?_
 refine WE.q 12 (.agg #[.int .i64 s1]) rfl (fun w' hk => by have c0 := (C1.out.up hk).k 0; go_simp) ?_
 refine WE.call (d := some 13) rfl rfl (by rfl) (f := 156) (args := #[(.agg #[.int .i64 s1])]) (by go_simp) ?_
 refine (most_s _ s1 (m := (m : Int)) HMO).mono ?_
 rintro e wn ⟨rfl, hb⟩
 refine ⟨_, rfl, hb, ?_⟩
 replace E := hid (E.out.trans hb)
 replace C1 := hid (C1.out.up hb)
 replace R1 := hid (R1.out.up hb)
 clear hb
 refine WE.call (d := some 14) rfl rfl (by rfl) (f := 109) (args := #[(.int .u64 (m : Int))]) (by go_simp) ?_
 refine (of_n m (by rw [HM.out]; exact M.most_le Z) _).mono ?_
 rintro e wn ⟨vx, rfl, hx, hb⟩
 obtain ⟨A2, n2, c2, rfl⟩ := hx.1.slice
 refine ⟨_, rfl, hb, ?_⟩
 replace E := hid (E.out.trans hb)
 replace C1 := hid (C1.out.up hb)
 replace R1 := hid (R1.out.up hb)
 have R2 := hid hx
 clear hb hx
 simp only [pX]
 refine WE.call (d := some 15) rfl rfl (by rfl) (f := 134) (args := #[(.slice A1 n1 c1), (.slice A2 n2 c2)]) (by go_simp) ?_
 refine (cmp_n R1.out R2.out HZ.out.symm).mono ?_
 rintro e wn ⟨rfl, hb⟩
 refine ⟨_, rfl, hb, ?_⟩
 replace E := hid (E.out.trans hb)
 replace C1 := hid (C1.out.up hb)
 replace R1 := hid (R1.out.up hb)
 clear hb
 refine WE.p 16 (.bool false) ?_
 simp only [pX]
 refine WE.done ?_
 have c0 := C1.out.cell (o := 0) (v := .int .i64 s1) rfl
 have c1 := C1.out.cell (o := 1) (v := .slice A1 n1 c1) rfl
 obtain ⟨A2', n2', c2', e2, hn, hc, hmx, hs, hr⟩ := R1.out.1
 injection e2 with e2 e3 e4
 subst e2 e3 e4
 have hb1 : n1 ≤ 9223372036854775807 := by unfold maxLen at hmx; omega
 have HR := hid hr
 have HN := hid hn
 clear hr hn hs hmx hc
 have EE := E
 clear E B1 R R1 R2 HMO HGC1
 go_wp2
 go_loop [5, 6] (fun x i => ∃ (k : Nat) (z a : Int), k ≤ n1 ∧ z = (k : Int) - 1 ∧ i = .int .i64 z ∧ x = .int .i64 a ∧ a = IntKind.i64.wrap (M.val ((M.limbs Z.natAbs).drop k) : Int)) (fun _ i => (intOf i + 1).toNat)
 case atStart => exact ⟨n1, _, _, Nat.le_refl _, rfl, rfl, rfl, by rw [List.drop_eq_nil_of_le (by rw [← HN.out]; exact Nat.le_refl _)]; rfl⟩
 case round =>
  obtain ⟨k, z, a, hk, hz, rfl, rfl, ha⟩ := hrel
  have HA := hid ha
  clear ha
  rcases k with _ | k
  ·obtain rfl : z = -1 := by omega
   clear hz
   have HR2 := hid (show wrap64 (s1 * a) = Z from (M.wrap64_eq _).trans (M.small_last HS1.out (HA.out.trans (by rw [List.drop_zero, M.val_limbs])) HF.out))
   go_wp2
   go_ret2
   refine ⟨?_, EE.out⟩
   show Ending.returned (.tuple #[.int .i64 (wrap64 (s1 * a)), .bool true]) = _
   rw [HR2.out]
  ·obtain rfl : z = (k : Int) := by omega
   clear hz
   have hlt : k < n1 := by omega
   obtain ⟨ad, x, rfl, _, HX, hcell⟩ := HR.out.get (k := k) (by rw [← HN.out]; exact hlt)
   go_wp2
   go_round
   case rel => exact ⟨k, _, _, by omega, rfl, rfl, rfl, M.small_step HA.out HX.out rfl⟩
   case measure => simp [intOf]; all_goals omega
open Go.ChangeShapes Go.WideShapes Go.ChangeAt Go.RowKit
theorem own : ownKnob Tryz.prog.godebug = none := by kernel_rfl
theorem laidOut : laidOutB Tryz.prog = true := by kernel_rfl
theorem cells_u32 : Tryz.prog.cellsOf 97 = 1 := by kernel_rfl
theorem cells_Int : Tryz.prog.cellsOf 24 = 2 := by kernel_rfl
section
variable {H : Type} {enc : TypeId × Value → H} {W W' : World}
theorem u32_of_wf {n : Int} (h : (Lit.int .u32 n).wf = true) : 0 ≤ n ∧ n < 4294967296 := by
 have : 0 ≤ n ∧ n ≤ 4294967295 := by simpa [Lit.wf, IntKind.min, IntKind.max, IntKind.signed, IntKind.bits] using h
 omega
theorem open_row {fuel : Nat} {v : Value} {y : DataW H × List MemPlace} (hf : DataW.trod enc Tryz.prog W 0 (fun _ => true) true fuel 22 [v] = some y) :
 ∃ A n c l, v = .slice A n c ∧ Num W W.heap.size v l := by
 rcases open_ints Tryz.underlying22 Tryz.underlying97 cells_u32 hf with ⟨hcs, _⟩ | ⟨a, len, cap, zs, hcs, _, hl, hm, hz, _, hcell, hwz⟩
 ·injection hcs with hcs
  exact ⟨none, 0, 0, [], hcs, by rw [hcs]; exact Num.nil _ _⟩
 ·injection hcs with hcs
  subst hcs
  simp only [if_true] at hz
  have hwf : ∀ n ∈ zs, 0 ≤ n ∧ n < 4294967296 := fun n hn => u32_of_wf (hwz n hn)
  refine ⟨_, _, _, (zs.take len).map Int.toNat, rfl, some a, len, cap, rfl, by simp; omega, hl, hm, ?_, fun hne => ⟨a, rfl, ?_, ?_⟩⟩
  ·intro x hx
   obtain ⟨n, hn, rfl⟩ := List.mem_map.1 hx
   have := hwf n (List.mem_of_mem_take hn)
   omega
  ·have h0 : 0 < zs.length := by
    rcases zs with _ | ⟨z, zs⟩
    ·simp at hne
    ·simp
   have := World.block_lt_of_cell? W _ (hcell 0 h0)
   rwa [addr_block] at this
  ·intro i x hx
   rw [List.getElem?_map, List.getElem?_take] at hx
   obtain ⟨n, hn, rfl⟩ := Option.map_eq_some_iff.1 hx
   split at hn
   ·obtain ⟨hi, he⟩ := List.getElem?_eq_some_iff.1 hn
    rw [hcell i hi]
    have : zs.getD i 0 = n := by simp [List.getD, hi, he]
    rw [this]
    have := hwf n (he ▸ List.getElem_mem hi)
    rw [Int.toNat_of_nonneg this.1]
   ·cases hn
theorem args_stay {sp' : Nat → Bool} : ∀ {ts : List TypeId} {vs : List Value} {ds : List (DataW H)} {ps : List MemPlace}, (∀ t ∈ ts, Tryz.prog.readableRec t = true ∧ t < Tryz.prog.types.size) →
 DataW.TrodAll enc Tryz.prog W 0 (fun _ => true) true ts vs ds ps → Below W.heap.size W W' → (∀ p ∈ ps, p.block < W.heap.size) → (∀ p ∈ ps, sp' p.block = true) → DataW.TrodAll enc Tryz.prog W' 0 sp' true ts vs ds ps
 | [], [], [], _, _, h, _, _, _ => h
 | t :: ts, v :: vs, d :: ds, ps, hts, ⟨p, q, h1, h2, he⟩, hb, hlt, hs => by
  subst he
  refine ⟨p, q, WideElems.Trod_stays laidOut (hts t (by simp)).1 (hts t (by simp)).2 h1 (fun x hx => hb.same (hlt x (List.mem_append_left _ hx))) (fun x hx => hs x (List.mem_append_left _ hx)), ?_, rfl⟩
  exact args_stay (fun t' ht => hts t' (List.mem_cons_of_mem _ ht)) h2 hb (fun x hx => hlt x (List.mem_append_right _ hx)) (fun x hx => hs x (List.mem_append_right _ hx))
theorem law_post {f : Func} {s : ChangeSpec} {args : Array Value} {ds gs : List (DataW H)} {before : List MemPlace}
 (hW : DataW.Whole enc Tryz.prog f.params.toList s.vars false W args.toList ds gs before) (hs : s.vars = []) (hspec : s.fn H (ds ++ gs) = { results := [.lit (.bool true)], args := ds })
 (hrt : f.resultTypes = #[4]) (hall : (f.params.toList.all fun t => Tryz.prog.readableRec t && decide (t < Tryz.prog.types.size)) = true) (hb : Ext W W') :
 s.post enc Tryz.prog f false true false false W args (.bool true) W' := by
 have hts : ∀ t ∈ f.params.toList, Tryz.prog.readableRec t = true ∧ t < Tryz.prog.types.size := fun t ht => by simpa using List.all_eq_true.1 hall t ht
 have hW' := hW
 obtain ⟨p, q, hA, hV, hpq, hfz, hnd⟩ := hW
 rw [hs] at hV
 have hlt : ∀ x ∈ p, x.block < W.heap.size := fun x hx => hW'.lt x (by rw [hpq]; exact List.mem_append_left _ hx)
 obtain ⟨rfl, rfl⟩ := trodVars_none hV
 refine ⟨ds, [], before, [], p, [], hW', ?_, ?_, ?_, ?_, fun h => by cases h⟩
 ·rw [hspec, hrt]
  exact trodAll_mk1 (shut_bool Tryz.underlying4 true)
 ·rw [hspec]
  exact args_stay hts hA hb hlt (fun x hx => by simpa using hlt x hx)
 ·rw [hspec, hs]; rfl
 ·refine World.keptBut_mono (fun x hx => ⟨hx, .inr (.inl ?_)⟩) (hb.below.frame (· ∈ before))
  rw [hpq, List.append_nil] at hx
  exact hx
end
theorem IsZ.shape {w : World} {v : Value} {Z : Int} {k : Nat} (h : IsZ w v Z k) : ∃ g A n c, v = .agg #[.bool g, .slice A n c] := by
 obtain ⟨A, n, c, e, _⟩ := h
 exact ⟨_, A, n, c, e⟩
theorem worth_of {w : World} {g : Bool} {A : Option Addr} {n c : Nat} {l : List Nat} (hm : Num w w.heap.size (.slice A n c) l) {k : Nat} (hk : l.length ≤ k) {x : Int} (hx : x = M.zv g l) : Worth w (.agg #[.bool g, .slice A n c]) x k :=
 ⟨g, A, n, c, l, rfl, hm, hk, hx.symm⟩
end Go.Proofs.YtkhmgdfhggejaaaGreatDoor
