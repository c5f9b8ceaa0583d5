/-
  Contracts of package whole's face, over what values are worth.
-/
import Derived.Test.YtklmnmkmpkobhaaGreatJZ
namespace Go.Proofs.YtklmnmkmpkobhaaGreat
open Go.RowKit
set_option linter.unusedSimpArgs false
set_option linter.unusedVariables false

set_option maxHeartbeats 1000000 in
theorem sign_w {w : World} {u : Value} {Z : Int} {j : Nat} (hu : Worth w u Z j) :
 Calls Tryz.prog 52 #[u] w (fun e w' => e = .returned (.int .i64 Z.sign) ∧ Ext w w') := by
 obtain ⟨g, A, n, c, rfl⟩ := hu.shape
 have R := hid hu
 clear hu
 go_enter Tryz.func52, Tryz.ntmps52
 go_upto_region 1 with (fail)
 obtain ⟨E, B1⟩ := open1 w #[.bool g, .slice A n c] 25
 replace R := hid (R.out.up E.out)
 refine wp_region_S [(0, 0), (1, 1), (2, 0), (3, 0), (4, 0)] fun wd hb => ?_
 replace E := hid (E.out.trans hb)
 replace B1 := hid (B1.out.up hb)
 replace R := hid (R.out.up hb)
 clear hb
 refine WE.q 3 (.agg #[.bool g, .slice A n c]) rfl (fun w' hk => by have c0 := (B1.out.up hk).k 0; have c1 := (B1.out.up hk).k 1; go_simp) ?_
 refine WE.call (d := some 4) rfl rfl (by rfl) (f := 84) (args := #[(.agg #[.bool g, .slice A n c])]) (by go_simp) ?_
 refine (read_w R.out).mono ?_
 rintro e wn ⟨vx, rfl, hx, hb⟩
 obtain ⟨s1, A1, n1, c1, rfl, hs1, hr1⟩ := hx.form
 clear hx
 refine ⟨_, rfl, hb, ?_⟩
 replace E := hid (E.out.trans hb)
 have HS1 := hid hs1
 clear hb hs1 hr1
 refine WE.q 5 (.agg #[.int .i64 s1]) rfl (fun w' hk => by have hf : ∀ w, (Instr.field 86 (.agg #[.int .i64 s1, .slice A1 n1 c1]) 0).run Tryz.prog w = .ok (.agg #[.int .i64 s1]) w := (fun w => by kernel_rfl); go_simp) ?_
 refine WE.q 6 (.int .i64 s1) rfl (fun w' hk => by have hf : ∀ w, (Instr.field 84 (.agg #[.int .i64 s1]) 0).run Tryz.prog w = .ok (.int .i64 s1) w := (fun w => by kernel_rfl); go_simp) ?_
 refine WE.p 2 (.int .i64 s1) ?_
 simp only [Act.put, pA, pB, pC]
 refine WE.done ?_
 go_wp2
 go_ret
 exact ⟨ret_int HS1.out, E.out⟩

set_option maxHeartbeats 1000000 in
theorem cmp_w {w : World} {u v : Value} {Z Y : Int} {j k : Nat} (hu : Worth w u Z j) (hv : Worth w v Y k) {z : Int} (hz : M.zcmp Z Y = z) :
 Calls Tryz.prog 87 #[u, v] w (fun e w' => e = .returned (.int .i64 z) ∧ Ext w w') := by
 obtain ⟨g, A, n, c, rfl⟩ := hu.shape
 obtain ⟨g', A', n', c', rfl⟩ := hv.shape
 have R := hid hu
 have R' := hid hv
 clear hu hv
 have HZ := hid hz
 clear hz
 go_enter Tryz.func87, Tryz.ntmps87
 go_upto_region 1 with (fail)
 obtain ⟨E, B1, B2⟩ := open2 w #[.bool g, .slice A n c] 25 #[.bool g', .slice A' n' c'] 25
 replace R := hid (R.out.up E.out)
 replace R' := hid (R'.out.up E.out)
 refine wp_region_D [(0, 0), (2, 0), (1, 1), (3, 1), (4, 1), (5, 0)] fun wd hb => ?_
 replace E := hid (E.out.trans hb)
 replace B1 := hid (B1.out.up hb)
 replace B2 := hid (B2.out.up hb)
 replace R := hid (R.out.up hb)
 replace R' := hid (R'.out.up hb)
 clear hb
 refine WE.q 5 (.agg #[.bool g, .slice A n c]) rfl (fun w' hk => by have c0 := (B1.out.up hk).k 0; have c1 := (B1.out.up hk).k 1; go_simp) ?_
 refine WE.q 7 (.agg #[.bool g', .slice A' n' c']) rfl (fun w' hk => by have c0 := (B2.out.up hk).k 0; have c1 := (B2.out.up hk).k 1; go_simp) ?_
 refine WE.call (d := some 6) rfl rfl (by rfl) (f := 84) (args := #[(.agg #[.bool g, .slice A n c])]) (by go_simp) ?_
 refine (read_w R.out).mono ?_
 rintro e wn ⟨vx, rfl, hx, hb⟩
 obtain ⟨s1, A1, n1, c1, rfl, hs1, hr1⟩ := hx.form
 clear hx
 refine ⟨_, rfl, hb, ?_⟩
 replace E := hid (E.out.trans hb)
 replace R' := hid (R'.out.up hb)
 have HS1 := hid hs1
 have R1 := hid hr1
 clear hb hs1 hr1
 refine WE.call (d := some 8) rfl rfl (by rfl) (f := 84) (args := #[(.agg #[.bool g', .slice A' n' c'])]) (by go_simp) ?_
 refine (read_w R'.out).mono ?_
 rintro e wn ⟨vx, rfl, hx, hb⟩
 obtain ⟨s2, A2, n2, c2, rfl, hs2, hr2⟩ := hx.form
 clear hx
 refine ⟨_, rfl, hb, ?_⟩
 replace E := hid (E.out.trans hb)
 replace R1 := hid (R1.out.up hb)
 have HS2 := hid hs2
 have R2 := hid hr2
 clear hb hs2 hr2
 refine WE.call (d := some 9) rfl rfl (by rfl) (f := 108) (args := #[(.agg #[.int .i64 s1, .slice A1 n1 c1]), (.agg #[.int .i64 s2, .slice A2 n2 c2])]) (by go_simp) ?_
 refine (compare_i (InZ.mk HS1.out R1.out) (InZ.mk HS2.out R2.out)).mono ?_
 rw [HZ.out]
 rintro e wn ⟨rfl, hb⟩
 refine ⟨_, rfl, hb, ?_⟩
 replace E := hid (E.out.trans hb)
 clear hb
 refine WE.p 4 (.int .i64 z) ?_
 simp only [Act.put, pA, pB, pC]
 refine WE.done ?_
 go_wp2
 go_ret
 exact ⟨rfl, E.out⟩

set_option maxHeartbeats 1000000 in
theorem same_w {w : World} {u v : Value} {Z Y : Int} {j k : Nat} (hu : Worth w u Z j) (hv : Worth w v Y k) {b : Bool} (hb : decide (Z = Y) = b) :
 Calls Tryz.prog 58 #[u, v] w (GivesB w b) := by
 obtain ⟨g, A, n, c, rfl⟩ := hu.shape
 obtain ⟨g', A', n', c', rfl⟩ := hv.shape
 have R := hid hu
 have R' := hid hv
 clear hu hv
 obtain ⟨z, hz⟩ : ∃ z : Int, M.zcmp Z Y = z := ⟨_, rfl⟩
 have hzb : (z == 0) = b := by rw [← hz, ← hb, Bool.eq_iff_iff]; simp [M.zcmp_eq]
 have HZ := hid hz
 clear hz hb
 go_enter Tryz.func58, Tryz.ntmps58
 go_upto_region 1 with (fail)
 obtain ⟨E, B1, B2⟩ := open2 w #[.bool g, .slice A n c] 25 #[.bool g', .slice A' n' c'] 25
 replace R := hid (R.out.up E.out)
 replace R' := hid (R'.out.up E.out)
 refine wp_region_S [(0, 0), (1, 0), (2, 1), (3, 0), (4, 0)] fun wd hb => ?_
 replace E := hid (E.out.trans hb)
 replace B1 := hid (B1.out.up hb)
 replace B2 := hid (B2.out.up hb)
 replace R := hid (R.out.up hb)
 replace R' := hid (R'.out.up hb)
 clear hb
 refine WE.q 5 (.agg #[.bool g, .slice A n c]) rfl (fun w' hk => by have c0 := (B1.out.up hk).k 0; have c1 := (B1.out.up hk).k 1; go_simp) ?_
 refine WE.q 6 (.agg #[.bool g', .slice A' n' c']) rfl (fun w' hk => by have c0 := (B2.out.up hk).k 0; have c1 := (B2.out.up hk).k 1; go_simp) ?_
 refine WE.call (d := some 7) rfl rfl (by rfl) (f := 87) (args := #[(.agg #[.bool g, .slice A n c]), (.agg #[.bool g', .slice A' n' c'])]) (by go_simp) ?_
 refine (cmp_w R.out R'.out HZ.out).mono ?_
 rintro e wn ⟨rfl, hb⟩
 refine ⟨_, rfl, hb, ?_⟩
 replace E := hid (E.out.trans hb)
 clear hb
 refine WE.p 8 (.bool b) ?_
 refine WE.p 4 (.bool b) ?_
 simp only [Act.put, pA, pB, pC]
 refine WE.done ?_
 go_wp2
 go_ret
 exact ⟨rfl, E.out⟩

set_option maxHeartbeats 1000000 in
theorem neg_w {w : World} {u : Value} {Z : Int} {j : Nat} (hu : Worth w u Z j) (hj : j ≤ 100000000) :
 Calls Tryz.prog 123 #[u] w (GivesZ w (-Z) j) := by
 obtain ⟨g, A, n, c, rfl⟩ := hu.shape
 have R := hid hu
 clear hu
 have HJ := hid hj
 clear hj
 go_enter Tryz.func123, Tryz.ntmps123
 go_upto_region 1 with (fail)
 obtain ⟨E, B1, B2⟩ := open2 w #[.bool g, .slice A n c] 25 #[.bool false, .slice none 0 0] 25
 replace R := hid (R.out.up E.out)
 refine wp_region_S [(0, 0), (1, 1), (2, 1), (3, 1), (4, 4)] fun wd hb => ?_
 replace E := hid (E.out.trans hb)
 replace B1 := hid (B1.out.up hb)
 replace B2 := hid (B2.out.up hb)
 replace R := hid (R.out.up hb)
 clear hb
 refine WE.q 3 (.agg #[.bool g, .slice A n c]) rfl (fun w' hk => by have c0 := (B1.out.up hk).k 0; have c1 := (B1.out.up hk).k 1; go_simp) ?_
 refine WE.call (d := some 4) rfl rfl (by rfl) (f := 84) (args := #[(.agg #[.bool g, .slice A n c])]) (by go_simp) ?_
 refine (read_w R.out).mono ?_
 rintro e wn ⟨vx, rfl, hx, hb⟩
 obtain ⟨s1, A1, n1, c1, rfl, hs1, hr1⟩ := hx.form
 clear hx
 refine ⟨_, rfl, hb, ?_⟩
 replace E := hid (E.out.trans hb)
 replace B2 := hid (B2.out.up hb)
 have HS1 := hid hs1
 have R1 := hid hr1
 clear hb hs1 hr1
 refine WE.call (d := some 5) rfl rfl (by rfl) (f := 146) (args := #[(.agg #[.int .i64 s1, .slice A1 n1 c1])]) (by go_simp) ?_
 refine (negated_i (InZ.mk HS1.out R1.out)).mono ?_
 rintro e wn ⟨vx, rfl, hx, hb⟩
 obtain ⟨s2, A2, n2, c2, rfl, hs2, hr2⟩ := hx.form
 clear hx
 refine ⟨_, rfl, hb, ?_⟩
 replace E := hid (E.out.trans hb)
 replace B2 := hid (B2.out.up hb)
 have HS2 := hid hs2
 have R2 := hid hr2
 clear hb hs2 hr2
 refine WE.call (d := some 6) rfl rfl (by rfl) (f := 143) (args := #[(.agg #[.int .i64 s2, .slice A2 n2 c2])]) (by go_simp) ?_
 refine (copied_i (InZ.mk HS2.out R2.out) HJ.out).mono ?_
 rintro e wn ⟨vx, rfl, hx, hb⟩
 obtain ⟨g3, A3, n3, c3, rfl, hs3, hr3⟩ := hx.form
 clear hx
 refine ⟨_, rfl, hb, ?_⟩
 replace E := hid (E.out.trans hb)
 replace B2 := hid (B2.out.up hb)
 have HS3 := hid hs3
 have R3 := hid hr3
 clear hb hs3 hr3
 simp only [Act.put, pA, pB, pC]
 refine WE.store2 (g := (w.heap.size + 1)) (x := .bool g3) (y := .slice A3 n3 c3) (t := 25) rfl rfl (by rfl) (fun w hb => ?_) B2.out (by rfl) fun ws hk hs => ?_
 ·have c0 := hb.k 0; have f0 := hb.free 0; have c1 := hb.k 1; have f1 := hb.free 1; go_simp
 intro hbx
 replace E := hid (E.out.keptG hk (by simp))
 replace B2 := hid hbx
 replace R3 := hid (R3.out.kz hs)
 clear hk hs hbx
 refine WE.done ?_
 have r0 := B2.out.cell (o := 0) (v := .bool g3) rfl
 have r1 := B2.out.cell (o := 1) (v := .slice A3 n3 c3) rfl
 go_wp2
 exact bodyPost_ret (v := .agg #[.bool g3, .slice A3 n3 c3]) (by simp [results, Tryz.results123, go_sem, r0, r1]) rfl ⟨_, rfl, IsZ.mk HS3.out R3.out, E.out⟩

set_option maxHeartbeats 1000000 in
theorem abs_w {w : World} {u : Value} {Z : Int} {j : Nat} (hu : Worth w u Z j) (hj : j ≤ 100000000) :
 Calls Tryz.prog 121 #[u] w (GivesZ w (Z.natAbs : Int) j) := by
 obtain ⟨g, A, n, c, rfl⟩ := hu.shape
 have R := hid hu
 clear hu
 have HJ := hid hj
 clear hj
 go_enter Tryz.func121, Tryz.ntmps121
 go_upto_region 1 with (fail)
 obtain ⟨E, B1, B2⟩ := open2 w #[.bool g, .slice A n c] 25 #[.bool false, .slice none 0 0] 25
 replace R := hid (R.out.up E.out)
 refine wp_region_S [(0, 0), (1, 1), (2, 1), (3, 1), (4, 4)] fun wd hb => ?_
 replace E := hid (E.out.trans hb)
 replace B1 := hid (B1.out.up hb)
 replace B2 := hid (B2.out.up hb)
 replace R := hid (R.out.up hb)
 clear hb
 refine WE.q 3 (.agg #[.bool g, .slice A n c]) rfl (fun w' hk => by have c0 := (B1.out.up hk).k 0; have c1 := (B1.out.up hk).k 1; go_simp) ?_
 refine WE.call (d := some 4) rfl rfl (by rfl) (f := 84) (args := #[(.agg #[.bool g, .slice A n c])]) (by go_simp) ?_
 refine (read_w R.out).mono ?_
 rintro e wn ⟨vx, rfl, hx, hb⟩
 obtain ⟨s1, A1, n1, c1, rfl, hs1, hr1⟩ := hx.form
 clear hx
 refine ⟨_, rfl, hb, ?_⟩
 replace E := hid (E.out.trans hb)
 replace B2 := hid (B2.out.up hb)
 have HS1 := hid hs1
 have R1 := hid hr1
 clear hb hs1 hr1
 refine WE.call (d := some 5) rfl rfl (by rfl) (f := 144) (args := #[(.agg #[.int .i64 s1, .slice A1 n1 c1])]) (by go_simp) ?_
 refine (absolute_i (InZ.mk HS1.out R1.out)).mono ?_
 rintro e wn ⟨vx, rfl, hx, hb⟩
 obtain ⟨s2, A2, n2, c2, rfl, hs2, hr2⟩ := hx.form
 clear hx
 refine ⟨_, rfl, hb, ?_⟩
 replace E := hid (E.out.trans hb)
 replace B2 := hid (B2.out.up hb)
 have HS2 := hid hs2
 have R2 := hid hr2
 clear hb hs2 hr2
 refine WE.call (d := some 6) rfl rfl (by rfl) (f := 143) (args := #[(.agg #[.int .i64 s2, .slice A2 n2 c2])]) (by go_simp) ?_
 refine (copied_i (InZ.mk HS2.out R2.out) HJ.out).mono ?_
 rintro e wn ⟨vx, rfl, hx, hb⟩
 obtain ⟨g3, A3, n3, c3, rfl, hs3, hr3⟩ := hx.form
 clear hx
 refine ⟨_, rfl, hb, ?_⟩
 replace E := hid (E.out.trans hb)
 replace B2 := hid (B2.out.up hb)
 have HS3 := hid hs3
 have R3 := hid hr3
 clear hb hs3 hr3
 simp only [Act.put, pA, pB, pC]
 refine WE.store2 (g := (w.heap.size + 1)) (x := .bool g3) (y := .slice A3 n3 c3) (t := 25) rfl rfl (by rfl) (fun w hb => ?_) B2.out (by rfl) fun ws hk hs => ?_
 ·have c0 := hb.k 0; have f0 := hb.free 0; have c1 := hb.k 1; have f1 := hb.free 1; go_simp
 intro hbx
 replace E := hid (E.out.keptG hk (by simp))
 replace B2 := hid hbx
 replace R3 := hid (R3.out.kz hs)
 clear hk hs hbx
 refine WE.done ?_
 have r0 := B2.out.cell (o := 0) (v := .bool g3) rfl
 have r1 := B2.out.cell (o := 1) (v := .slice A3 n3 c3) rfl
 go_wp2
 exact bodyPost_ret (v := .agg #[.bool g3, .slice A3 n3 c3]) (by simp [results, Tryz.results121, go_sem, r0, r1]) rfl ⟨_, rfl, IsZ.mk HS3.out R3.out, E.out⟩

end Go.Proofs.YtklmnmkmpkobhaaGreat
