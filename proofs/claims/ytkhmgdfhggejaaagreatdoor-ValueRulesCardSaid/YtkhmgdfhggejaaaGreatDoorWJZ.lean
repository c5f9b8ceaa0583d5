/-
  Contracts of package whole: a number of 64 bits as an integer; rounding down.
-/
import Derived.Test.YtkhmgdfhggejaaaGreatDoorWJZI
namespace Go.Proofs.YtkhmgdfhggejaaaGreatDoor
open Go.RowKit
set_option linter.unusedSimpArgs false
set_option linter.unusedVariables false
def GivesI2 (w : World) (X : Int) (j : Nat) (Y : Int) (k : Nat) (e : Ending) (w' : World) : Prop := ∃ u v, e = .returned (.tuple #[u, v]) ∧ InZ w' u X j ∧ InZ w' v Y k ∧ Ext w w'
def GivesZ2 (w : World) (X : Int) (j : Nat) (Y : Int) (k : Nat) (e : Ending) (w' : World) : Prop := ∃ u v, e = .returned (.tuple #[u, v]) ∧ IsZ w' u X j ∧ IsZ w' v Y k ∧ Ext w w'
set_option maxHeartbeats 1000000 in
theorem of_neg {n : Int} (hn : n < 0) (h1 : -9223372036854775808 ≤ n) (h2 : n ≤ 9223372036854775807) (w : World) :
 Calls Tryz.prog 82 #[.int .i64 n] w (GivesZ w n 3) := by
 obtain ⟨m, hm⟩ : ∃ m : Nat, m = n.natAbs := ⟨_, rfl⟩
 have HM := hid hm
 have HN := hid hn
 have HB := hid h1
 have HB2 := hid h2
 have hl : n < 0 := hn
 obtain ⟨p, hp⟩ : ∃ p : Int, IntKind.u64.wrap n = p := ⟨_, rfl⟩
 have hq : IntKind.u64.wrap (-p) = (m : Int) := by rw [← hp, IntKind.wrap_u64, IntKind.wrap_u64]; omega
 clear hm hn h1 h2
 go_enter Tryz.func82, Tryz.ntmps82
 go_upto_region 1 with (fail)
 obtain ⟨E, B1⟩ := open1 w #[.bool false, .slice none 0 0] 24
 refine wp_region_S [(0, 0), (1, 0)] fun wd hb => ?_
 replace E := hid (E.out.trans hb)
 replace B1 := hid (B1.out.up hb)
 clear hb
 refine WE.p 3 (.int .i64 n) ?_
 refine WE.p 4 (.bool true) ?_
 simp only [pX]
 refine WE.done ?_
 go_upto_region 2 with (fail)
 refine wp_region_S [(0, 0), (1, 0), (2, 0), (3, 1), (4, 0), (5, 4)] fun wd hb => ?_
 replace E := hid (E.out.trans hb)
 replace B1 := hid (B1.out.up hb)
 clear hb
 refine WE.p 5 (.int .i64 n) ?_
 refine WE.p 6 (.int .u64 p) ?_
 refine WE.p 7 (.int .u64 (m : Int)) ?_
 refine WE.call (d := some 8) rfl rfl (by rfl) (f := 109) (args := #[(.int .u64 (m : Int))]) (by go_simp) ?_
 refine (of_n m (by have := HM.out; have := HB.out; have := HB2.out; omega) _).mono ?_
 rintro e wn ⟨vx, rfl, hx, hb⟩
 obtain ⟨A1, n1, c1, rfl⟩ := hx.1.slice
 refine ⟨_, rfl, hb, ?_⟩
 replace E := hid (E.out.trans hb)
 replace B1 := hid (B1.out.up hb)
 have R1 := hid hx
 clear hb hx
 refine WE.p 9 (.agg #[.bool true, .slice A1 n1 c1]) ?_
 simp only [pX]
 refine WE.store2 (g := (w.heap.size)) (x := .bool true) (y := .slice A1 n1 c1) (t := 24) rfl rfl (by rfl) (fun w hb => ?_) B1.out (by rfl) fun ws hk hs => ?_
 ·have c0 := hb.k 0; have f0 := hb.free 0; have c1 := hb.k 1; have f1 := hb.free 1; go_simp
 intro hbx
 replace E := hid (E.out.keptG hk (by simp))
 replace B1 := hid hbx
 replace R1 := hid (R1.out.kz hs)
 clear hk hs hbx
 refine WE.done ?_
 have r0 := B1.out.cell (o := 0) (v := .bool true) rfl
 have r1 := B1.out.cell (o := 1) (v := .slice A1 n1 c1) rfl
 go_wp2
 exact bodyPost_ret (v := .agg #[.bool true, .slice A1 n1 c1]) (by simp [results, Tryz.results82, go_sem, r0, r1]) rfl ⟨_, rfl, IsZ.mk (by simpa using HN.out) (by rw [← HM.out]; exact R1.out), E.out⟩
set_option maxHeartbeats 1000000 in
theorem of_pos {n : Int} (hn : 0 ≤ n) (h1 : -9223372036854775808 ≤ n) (h2 : n ≤ 9223372036854775807) (w : World) :
 Calls Tryz.prog 82 #[.int .i64 n] w (GivesZ w n 3) := by
 obtain ⟨m, hm⟩ : ∃ m : Nat, m = n.natAbs := ⟨_, rfl⟩
 have HM := hid hm
 have HN := hid hn
 have HB := hid h1
 have HB2 := hid h2
 have hl : decide (n < 0) = false := by simpa using hn
 have hp : IntKind.u64.wrap n = (m : Int) := by rw [IntKind.wrap_u64]; omega
 clear hm hn h1 h2
 go_enter Tryz.func82, Tryz.ntmps82
 go_upto_region 1 with (fail)
 obtain ⟨E, B1⟩ := open1 w #[.bool false, .slice none 0 0] 24
 refine wp_region_S [(0, 0), (1, 0)] fun wd hb => ?_
 replace E := hid (E.out.trans hb)
 replace B1 := hid (B1.out.up hb)
 clear hb
 refine WE.p 3 (.int .i64 n) ?_
 refine WE.p 4 (.bool false) ?_
 simp only [pX]
 refine WE.done ?_
 go_upto_region 3 with (fail)
 refine wp_region_S [(0, 0), (1, 0), (2, 1), (3, 0), (4, 4)] fun wd hb => ?_
 replace E := hid (E.out.trans hb)
 replace B1 := hid (B1.out.up hb)
 clear hb
 refine WE.p 10 (.int .i64 n) ?_
 refine WE.p 11 (.int .u64 (m : Int)) ?_
 refine WE.call (d := some 12) rfl rfl (by rfl) (f := 109) (args := #[(.int .u64 (m : Int))]) (by go_simp) ?_
 refine (of_n m (by have := HM.out; have := HB.out; have := HB2.out; omega) _).mono ?_
 rintro e wn ⟨vx, rfl, hx, hb⟩
 obtain ⟨A1, n1, c1, rfl⟩ := hx.1.slice
 refine ⟨_, rfl, hb, ?_⟩
 replace E := hid (E.out.trans hb)
 replace B1 := hid (B1.out.up hb)
 have R1 := hid hx
 clear hb hx
 refine WE.p 13 (.agg #[.bool false, .slice A1 n1 c1]) ?_
 simp only [pX]
 refine WE.store2 (g := (w.heap.size)) (x := .bool false) (y := .slice A1 n1 c1) (t := 24) rfl rfl (by rfl) (fun w hb => ?_) B1.out (by rfl) fun ws hk hs => ?_
 ·have c0 := hb.k 0; have f0 := hb.free 0; have c1 := hb.k 1; have f1 := hb.free 1; go_simp
 intro hbx
 replace E := hid (E.out.keptG hk (by simp))
 replace B1 := hid hbx
 replace R1 := hid (R1.out.kz hs)
 clear hk hs hbx
 refine WE.done ?_
 have r0 := B1.out.cell (o := 0) (v := .bool false) rfl
 have r1 := B1.out.cell (o := 1) (v := .slice A1 n1 c1) rfl
 go_wp2
 exact bodyPost_ret (v := .agg #[.bool false, .slice A1 n1 c1]) (by simp [results, Tryz.results82, go_sem, r0, r1]) rfl ⟨_, rfl, IsZ.mk (by simpa using HN.out) (by rw [← HM.out]; exact R1.out), E.out⟩
theorem of_z {n : Int} (h1 : -9223372036854775808 ≤ n) (h2 : n ≤ 9223372036854775807) (w : World) : Calls Tryz.prog 82 #[.int .i64 n] w (GivesZ w n 3) := by
 rcases (by omega : n < 0 ∨ 0 ≤ n) with h | h
 ·exact of_neg h h1 h2 w
 ·exact of_pos h h1 h2 w
set_option maxHeartbeats 2000000 in
theorem floor_step {w : World} {u v : Value} {Z Y : Int} {j k : Nat} (hu : InZ w u Z j) (hv : InZ w v Y k) (hj : Hid (j ≤ 1000000)) (hk : Hid (k ≤ 1000000)) (hc : (Z.sign * ((Z.natAbs % Y.natAbs : Nat) : Int)).sign * Y.sign < 0) :
 Calls Tryz.prog 151 #[u, v] w (GivesI2 w (Z.fdiv Y) (max j 3 + 1) (Z.fmod Y) (max j k + 1)) := by
 obtain ⟨s, A, n, c, rfl, hs, hm⟩ := hu.form
 obtain ⟨t, A', n', c', rfl, ht, hm'⟩ := hv.form
 have HS := hid hs
 have HT := hid ht
 have R := hid hm
 have R' := hid hm'
 clear hs ht hm hm' hu hv
 have HD := hid (show -1 ≤ s ∧ s ≤ 1 by rw [HS.out]; exact side_of Z)
 have HE := hid (show -1 ≤ t ∧ t ≤ 1 by rw [HT.out]; exact side_of Y)
 have HC := hid hc
 clear hc
 obtain ⟨q, hq⟩ : ∃ q : Int, q = Z.sign * Y.sign * ((Z.natAbs / Y.natAbs : Nat) : Int) := ⟨_, rfl⟩
 obtain ⟨x, hx⟩ : ∃ x : Int, x = Z.sign * ((Z.natAbs % Y.natAbs : Nat) : Int) := ⟨_, rfl⟩
 rw [← hx] at HC
 have HQ := hid hq
 have HX := hid hx
 clear hq hx
 go_enter Tryz.func151, Tryz.ntmps151
 go_upto_region 1 with (fail)
 obtain ⟨E, B1, B2, B3, B4⟩ := open4 w #[.int .i64 s, .slice A n c] 132 #[.int .i64 t, .slice A' n' c'] 132 #[.int .i64 0, .slice none 0 0] 132 #[.int .i64 0, .slice none 0 0] 132
 replace R := hid (R.out.up E.out)
 replace R' := hid (R'.out.up E.out)
 refine wp_region_S [(0, 0), (1, 0), (2, 0), (3, 0), (4, 1), (5, 0), (6, 0), (7, 0), (8, 0), (9, 0)] fun wd hb => ?_
 replace E := hid (E.out.trans hb)
 replace B1 := hid (B1.out.up hb)
 replace B2 := hid (B2.out.up hb)
 replace B3 := hid (B3.out.up hb)
 replace B4 := hid (B4.out.up hb)
 replace R := hid (R.out.up hb)
 replace R' := hid (R'.out.up hb)
 clear hb
 refine WE.p 9 (.pointer (some ⟨(w.heap.size), 1, none⟩)) ?_
 refine WE.q 10 (.slice A n c) rfl (fun w' hk => by have c1 := (B1.out.up hk).k 1; go_simp) ?_
 refine WE.p 11 (.pointer (some ⟨(w.heap.size + 1), 1, none⟩)) ?_
 refine WE.q 12 (.slice A' n' c') rfl (fun w' hk => by have c1 := (B2.out.up hk).k 1; go_simp) ?_
 refine WE.call (d := some 13) rfl rfl (by rfl) (f := 171) (args := #[(.slice A n c), (.slice A' n' c')]) (by go_simp) ?_
 refine (div_N R.out R'.out hj.out).mono ?_
 rintro e wn ⟨vq, vr, rfl, hq, hr, hb⟩
 obtain ⟨A3, n3, c3, rfl⟩ := hq.1.slice
 obtain ⟨A4, n4, c4, rfl⟩ := hr.1.slice
 refine ⟨_, rfl, hb, ?_⟩
 replace E := hid (E.out.trans hb)
 replace B1 := hid (B1.out.up hb)
 replace B2 := hid (B2.out.up hb)
 replace B3 := hid (B3.out.up hb)
 replace B4 := hid (B4.out.up hb)
 replace R' := hid (R'.out.up hb)
 have R3 := hid hq
 have R4 := hid hr
 clear hb hq hr
 refine WE.p 8 (.tuple #[(.slice A3 n3 c3), (.slice A4 n4 c4)]) ?_
 simp only [pX]
 refine WE.p 14 (.slice A3 n3 c3) ?_
 refine WE.p 15 (.slice A4 n4 c4) ?_
 refine WE.p 6 (.slice A3 n3 c3) ?_
 refine WE.p 7 (.slice A4 n4 c4) ?_
 simp only [pX]
 refine WE.done ?_
 go_upto_region 2 with (fail)
 refine wp_region_D [(0, 0), (1, 0), (2, 0), (3, 0), (5, 0), (7, 0), (8, 0), (9, 0), (4, 1), (6, 1), (10, 1), (11, 4), (12, 4)] fun wd hb => ?_
 replace E := hid (E.out.trans hb)
 replace B1 := hid (B1.out.up hb)
 replace B2 := hid (B2.out.up hb)
 replace B3 := hid (B3.out.up hb)
 replace B4 := hid (B4.out.up hb)
 replace R' := hid (R'.out.up hb)
 replace R3 := hid (R3.out.up hb)
 replace R4 := hid (R4.out.up hb)
 clear hb
 refine WE.p 16 (.pointer (some ⟨(w.heap.size), 0, none⟩)) ?_
 refine WE.q 17 (.agg #[.int .i64 s]) rfl (fun w' hk => by have c0 := (B1.out.up hk).k 0; go_simp) ?_
 refine WE.p 18 (.pointer (some ⟨(w.heap.size + 1), 0, none⟩)) ?_
 refine WE.q 19 (.agg #[.int .i64 t]) rfl (fun w' hk => by have c0 := (B2.out.up hk).k 0; go_simp) ?_
 refine WE.p 21 (.slice A3 n3 c3) ?_
 refine WE.p 23 (.pointer (some ⟨(w.heap.size), 0, none⟩)) ?_
 simp only [pX]
 refine WE.q 24 (.agg #[.int .i64 s]) rfl (fun w' hk => by have c0 := (B1.out.up hk).k 0; go_simp) ?_
 refine WE.p 25 (.slice A4 n4 c4) ?_
 refine WE.call (d := some 20) rfl rfl (by rfl) (f := 146) (args := #[(.agg #[.int .i64 s]), (.agg #[.int .i64 t])]) (by go_simp) ?_
 refine (times_s _ s t HD.out.1 HD.out.2 HE.out.1 HE.out.2).mono ?_
 rintro e wn ⟨rfl, hb⟩
 refine ⟨_, rfl, hb, ?_⟩
 replace E := hid (E.out.trans hb)
 replace B2 := hid (B2.out.up hb)
 replace B3 := hid (B3.out.up hb)
 replace B4 := hid (B4.out.up hb)
 replace R' := hid (R'.out.up hb)
 replace R3 := hid (R3.out.up hb)
 replace R4 := hid (R4.out.up hb)
 clear hb
 refine WE.call (d := some 22) rfl rfl (by rfl) (f := 132) (args := #[(.agg #[.int .i64 (s * t)]), (.slice A3 n3 c3)]) (by go_simp) ?_
 refine (signed_n R3.out (Z := q) (by rw [HQ.out]; exact (M.quo_parts Z Y).1) (fun h => by rw [HS.out, HT.out]; rw [HQ.out] at h ⊢; exact (M.quo_parts Z Y).2 h)).mono ?_
 rintro e wn ⟨vx, rfl, hx, hb⟩
 obtain ⟨s5, A5, n5, c5, rfl, hs5, hr5⟩ := hx.form
 clear hx
 refine ⟨_, rfl, hb, ?_⟩
 replace E := hid (E.out.trans hb)
 replace B2 := hid (B2.out.up hb)
 replace B3 := hid (B3.out.up hb)
 replace B4 := hid (B4.out.up hb)
 replace R' := hid (R'.out.up hb)
 replace R4 := hid (R4.out.up hb)
 have HS5 := hid hs5
 have R5 := hid hr5
 clear hb hs5 hr5
 refine WE.call (d := some 26) rfl rfl (by rfl) (f := 132) (args := #[(.agg #[.int .i64 s]), (.slice A4 n4 c4)]) (by go_simp) ?_
 refine (signed_n R4.out (Z := x) (by rw [HX.out]; exact (M.rest_parts Z Y).1) (fun h => by rw [HS.out]; rw [HX.out] at h ⊢; exact (M.rest_parts Z Y).2 h)).mono ?_
 rintro e wn ⟨vx, rfl, hx, hb⟩
 obtain ⟨s6, A6, n6, c6, rfl, hs6, hr6⟩ := hx.form
 clear hx
 refine ⟨_, rfl, hb, ?_⟩
 replace E := hid (E.out.trans hb)
 replace B2 := hid (B2.out.up hb)
 replace B3 := hid (B3.out.up hb)
 replace B4 := hid (B4.out.up hb)
 replace R' := hid (R'.out.up hb)
 replace R5 := hid (R5.out.up hb)
 have HS6 := hid hs6
 have R6 := hid hr6
 clear hb hs6 hr6
 simp only [pX]
 refine WE.store2 (g := (w.heap.size + 2)) (x := .int .i64 s5) (y := .slice A5 n5 c5) (t := 132) rfl rfl (by rfl) (fun w hb => ?_) B3.out (by rfl) fun ws hk hs => ?_
 ·have c0 := hb.k 0; have f0 := hb.free 0; have c1 := hb.k 1; have f1 := hb.free 1; go_simp
 intro hbx
 replace E := hid (E.out.keptG hk (by simp))
 replace B2 := hid (B2.out.kept hk (by simp))
 replace B3 := hid hbx
 replace B4 := hid (B4.out.kept hk (by simp))
 replace R' := hid (R'.out.kz hs)
 replace R5 := hid (R5.out.kz hs)
 replace R6 := hid (R6.out.kz hs)
 clear hk hs hbx
 refine WE.store2 (g := (w.heap.size + 3)) (x := .int .i64 s6) (y := .slice A6 n6 c6) (t := 132) rfl rfl (by rfl) (fun w hb => ?_) B4.out (by rfl) fun ws hk hs => ?_
 ·have c0 := hb.k 0; have f0 := hb.free 0; have c1 := hb.k 1; have f1 := hb.free 1; go_simp
 intro hbx
 replace E := hid (E.out.keptG hk (by simp))
 replace B2 := hid (B2.out.kept hk (by simp))
 replace B3 := hid (B3.out.kept hk (by simp))
 replace B4 := hid hbx
 replace R' := hid (R'.out.kz hs)
 replace R5 := hid (R5.out.kz hs)
 replace R6 := hid (R6.out.kz hs)
 clear hk hs hbx
 refine WE.done ?_
 have HF := hid (show -1 ≤ s6 ∧ s6 ≤ 1 by rw [HS6.out]; exact side_of _)
 have HB := hid (show decide (s6 * t < 0) = true by rw [HS6.out, HT.out]; simpa using HC.out)
 go_upto_region 3 with (fail)
 refine wp_region_S [(0, 0), (1, 0), (2, 0), (3, 0), (4, 1)] fun wd hb => ?_
 replace E := hid (E.out.trans hb)
 replace B2 := hid (B2.out.up hb)
 replace B3 := hid (B3.out.up hb)
 replace B4 := hid (B4.out.up hb)
 replace R' := hid (R'.out.up hb)
 replace R5 := hid (R5.out.up hb)
 replace R6 := hid (R6.out.up hb)
 clear hb
 refine WE.p 27 (.pointer (some ⟨(w.heap.size + 3), 0, none⟩)) ?_
 refine WE.q 28 (.agg #[.int .i64 s6]) rfl (fun w' hk => by have c0 := (B4.out.up hk).k 0; go_simp) ?_
 refine WE.p 29 (.pointer (some ⟨(w.heap.size + 1), 0, none⟩)) ?_
 refine WE.q 30 (.agg #[.int .i64 t]) rfl (fun w' hk => by have c0 := (B2.out.up hk).k 0; go_simp) ?_
 refine WE.call (d := some 31) rfl rfl (by rfl) (f := 172) (args := #[(.agg #[.int .i64 s6]), (.agg #[.int .i64 t])]) (by go_simp) ?_
 refine (against_s _ s6 t HF.out.1 HF.out.2 HE.out.1 HE.out.2).mono ?_
 rw [HB.out]
 rintro e wn ⟨rfl, hb⟩
 refine ⟨_, rfl, hb, ?_⟩
 replace E := hid (E.out.trans hb)
 replace B2 := hid (B2.out.up hb)
 replace B3 := hid (B3.out.up hb)
 replace B4 := hid (B4.out.up hb)
 replace R' := hid (R'.out.up hb)
 replace R5 := hid (R5.out.up hb)
 replace R6 := hid (R6.out.up hb)
 clear hb
 simp only [pX]
 refine WE.done ?_
 go_upto_region 4 with (fail)
 refine wp_region_D [(0, 0), (4, 0), (5, 0), (1, 1), (2, 1), (3, 1), (6, 1), (7, 4), (8, 4)] fun wd hb => ?_
 replace E := hid (E.out.trans hb)
 replace B2 := hid (B2.out.up hb)
 replace B3 := hid (B3.out.up hb)
 replace B4 := hid (B4.out.up hb)
 replace R' := hid (R'.out.up hb)
 replace R5 := hid (R5.out.up hb)
 replace R6 := hid (R6.out.up hb)
 clear hb
 refine WE.q 32 (.agg #[.int .i64 s5, .slice A5 n5 c5]) rfl (fun w' hk => by have c0 := (B3.out.up hk).k 0; have c1 := (B3.out.up hk).k 1; go_simp) ?_
 refine WE.q 36 (.agg #[.int .i64 s6, .slice A6 n6 c6]) rfl (fun w' hk => by have c0 := (B4.out.up hk).k 0; have c1 := (B4.out.up hk).k 1; go_simp) ?_
 refine WE.q 37 (.agg #[.int .i64 t, .slice A' n' c']) rfl (fun w' hk => by have c0 := (B2.out.up hk).k 0; have c1 := (B2.out.up hk).k 1; go_simp) ?_
 refine WE.call (d := some 33) rfl rfl (by rfl) (f := 82) (args := #[(.int .i64 (-1))]) (by go_simp) ?_
 refine (of_z (n := -1) (by omega) (by omega) _).mono ?_
 rintro e wn ⟨vx, rfl, hx, hb⟩
 obtain ⟨g7, A7, n7, c7, rfl, hs7, hr7⟩ := hx.form
 clear hx
 refine ⟨_, rfl, hb, ?_⟩
 replace E := hid (E.out.trans hb)
 replace B3 := hid (B3.out.up hb)
 replace B4 := hid (B4.out.up hb)
 replace R' := hid (R'.out.up hb)
 replace R5 := hid (R5.out.up hb)
 replace R6 := hid (R6.out.up hb)
 have HS7 := hid hs7
 have R7 := hid hr7
 clear hb hs7 hr7
 refine WE.call (d := some 34) rfl rfl (by rfl) (f := 107) (args := #[(.agg #[.bool g7, .slice A7 n7 c7])]) (by go_simp) ?_
 refine (read_w (IsZ.mk HS7.out R7.out).worth).mono ?_
 rintro e wn ⟨vx, rfl, hx, hb⟩
 obtain ⟨s8, A8, n8, c8, rfl, hs8, hr8⟩ := hx.form
 clear hx
 refine ⟨_, rfl, hb, ?_⟩
 replace E := hid (E.out.trans hb)
 replace B3 := hid (B3.out.up hb)
 replace B4 := hid (B4.out.up hb)
 replace R' := hid (R'.out.up hb)
 replace R5 := hid (R5.out.up hb)
 replace R6 := hid (R6.out.up hb)
 have HS8 := hid hs8
 have R8 := hid hr8
 clear hb hs8 hr8
 refine WE.call (d := some 35) rfl rfl (by rfl) (f := 166) (args := #[(.agg #[.int .i64 s5, .slice A5 n5 c5]), (.agg #[.int .i64 s8, .slice A8 n8 c8])]) (by go_simp) ?_
 refine (plus_i (InZ.mk HS5.out R5.out) (InZ.mk HS8.out R8.out) (by have := hj.out; omega) (by omega)).mono ?_
 rintro e wn ⟨vx, rfl, hx, hb⟩
 obtain ⟨s9, A9, n9, c9, rfl, hs9, hr9⟩ := hx.form
 clear hx
 refine ⟨_, rfl, hb, ?_⟩
 replace E := hid (E.out.trans hb)
 replace B3 := hid (B3.out.up hb)
 replace B4 := hid (B4.out.up hb)
 replace R' := hid (R'.out.up hb)
 replace R6 := hid (R6.out.up hb)
 have HS9 := hid hs9
 have R9 := hid hr9
 clear hb hs9 hr9
 simp only [pX]
 refine WE.call (d := some 38) rfl rfl (by rfl) (f := 166) (args := #[(.agg #[.int .i64 s6, .slice A6 n6 c6]), (.agg #[.int .i64 t, .slice A' n' c'])]) (by go_simp) ?_
 refine (plus_i (InZ.mk HS6.out R6.out) (InZ.mk HT.out R'.out) (by have := hj.out; omega) (by have := hk.out; omega)).mono ?_
 rintro e wn ⟨vx, rfl, hx, hb⟩
 obtain ⟨s10, A10, n10, c10, rfl, hs10, hr10⟩ := hx.form
 clear hx
 refine ⟨_, rfl, hb, ?_⟩
 replace E := hid (E.out.trans hb)
 replace B3 := hid (B3.out.up hb)
 replace B4 := hid (B4.out.up hb)
 replace R9 := hid (R9.out.up hb)
 have HS10 := hid hs10
 have R10 := hid hr10
 clear hb hs10 hr10
 simp only [pX]
 refine WE.store2 (g := (w.heap.size + 2)) (x := .int .i64 s9) (y := .slice A9 n9 c9) (t := 132) rfl rfl (by rfl) (fun w hb => ?_) B3.out (by rfl) fun ws hk hs => ?_
 ·have c0 := hb.k 0; have f0 := hb.free 0; have c1 := hb.k 1; have f1 := hb.free 1; go_simp
 intro hbx
 replace E := hid (E.out.keptG hk (by simp))
 replace B3 := hid hbx
 replace B4 := hid (B4.out.kept hk (by simp))
 replace R9 := hid (R9.out.kz hs)
 replace R10 := hid (R10.out.kz hs)
 clear hk hs hbx
 refine WE.store2 (g := (w.heap.size + 3)) (x := .int .i64 s10) (y := .slice A10 n10 c10) (t := 132) rfl rfl (by rfl) (fun w hb => ?_) B4.out (by rfl) fun ws hk hs => ?_
 ·have c0 := hb.k 0; have f0 := hb.free 0; have c1 := hb.k 1; have f1 := hb.free 1; go_simp
 intro hbx
 replace E := hid (E.out.keptG hk (by simp))
 replace B3 := hid (B3.out.kept hk (by simp))
 replace B4 := hid hbx
 replace R9 := hid (R9.out.kz hs)
 replace R10 := hid (R10.out.kz hs)
 clear hk hs hbx
 refine WE.done ?_
 have r0 := B3.out.cell (o := 0) (v := .int .i64 s9) rfl
 have r1 := B3.out.cell (o := 1) (v := .slice A9 n9 c9) rfl
 have r2 := B4.out.cell (o := 0) (v := .int .i64 s10) rfl
 have r3 := B4.out.cell (o := 1) (v := .slice A10 n10 c10) rfl
 go_wp2
 exact bodyPost_ret (v := .tuple #[.agg #[.int .i64 s9, .slice A9 n9 c9], .agg #[.int .i64 s10, .slice A10 n10 c10]]) (by simp [results, Tryz.results151, go_sem, r0, r1, r2, r3]) rfl ⟨_, _, rfl, InZ.to (InZ.mk HS9.out R9.out) (by rw [HQ.out]; exact (M.floor_step (by rw [← HX.out]; exact HC.out)).1.symm), InZ.to (InZ.mk HS10.out R10.out) (by rw [HX.out]; exact (M.floor_step (by rw [← HX.out]; exact HC.out)).2.symm), E.out⟩
set_option maxHeartbeats 2000000 in
theorem floor_keep {w : World} {u v : Value} {Z Y : Int} {j k : Nat} (hu : InZ w u Z j) (hv : InZ w v Y k) (hj : Hid (j ≤ 1000000)) (hk : Hid (k ≤ 1000000)) (hc : ¬ (Z.sign * ((Z.natAbs % Y.natAbs : Nat) : Int)).sign * Y.sign < 0) :
 Calls Tryz.prog 151 #[u, v] w (GivesI2 w (Z.fdiv Y) (max j 3 + 1) (Z.fmod Y) (max j k + 1)) := by
 obtain ⟨s, A, n, c, rfl, hs, hm⟩ := hu.form
 obtain ⟨t, A', n', c', rfl, ht, hm'⟩ := hv.form
 have HS := hid hs
 have HT := hid ht
 have R := hid hm
 have R' := hid hm'
 clear hs ht hm hm' hu hv
 have HD := hid (show -1 ≤ s ∧ s ≤ 1 by rw [HS.out]; exact side_of Z)
 have HE := hid (show -1 ≤ t ∧ t ≤ 1 by rw [HT.out]; exact side_of Y)
 have HC := hid hc
 clear hc
 obtain ⟨q, hq⟩ : ∃ q : Int, q = Z.sign * Y.sign * ((Z.natAbs / Y.natAbs : Nat) : Int) := ⟨_, rfl⟩
 obtain ⟨x, hx⟩ : ∃ x : Int, x = Z.sign * ((Z.natAbs % Y.natAbs : Nat) : Int) := ⟨_, rfl⟩
 rw [← hx] at HC
 have HQ := hid hq
 have HX := hid hx
 clear hq hx
 go_enter Tryz.func151, Tryz.ntmps151
 go_upto_region 1 with (fail)
 obtain ⟨E, B1, B2, B3, B4⟩ := open4 w #[.int .i64 s, .slice A n c] 132 #[.int .i64 t, .slice A' n' c'] 132 #[.int .i64 0, .slice none 0 0] 132 #[.int .i64 0, .slice none 0 0] 132
 replace R := hid (R.out.up E.out)
 replace R' := hid (R'.out.up E.out)
 refine wp_region_S [(0, 0), (1, 0), (2, 0), (3, 0), (4, 1), (5, 0), (6, 0), (7, 0), (8, 0), (9, 0)] fun wd hb => ?_
 replace E := hid (E.out.trans hb)
 replace B1 := hid (B1.out.up hb)
 replace B2 := hid (B2.out.up hb)
 replace B3 := hid (B3.out.up hb)
 replace B4 := hid (B4.out.up hb)
 replace R := hid (R.out.up hb)
 replace R' := hid (R'.out.up hb)
 clear hb
 refine WE.p 9 (.pointer (some ⟨(w.heap.size), 1, none⟩)) ?_
 refine WE.q 10 (.slice A n c) rfl (fun w' hk => by have c1 := (B1.out.up hk).k 1; go_simp) ?_
 refine WE.p 11 (.pointer (some ⟨(w.heap.size + 1), 1, none⟩)) ?_
 refine WE.q 12 (.slice A' n' c') rfl (fun w' hk => by have c1 := (B2.out.up hk).k 1; go_simp) ?_
 refine WE.call (d := some 13) rfl rfl (by rfl) (f := 171) (args := #[(.slice A n c), (.slice A' n' c')]) (by go_simp) ?_
 refine (div_N R.out R'.out hj.out).mono ?_
 rintro e wn ⟨vq, vr, rfl, hq, hr, hb⟩
 obtain ⟨A3, n3, c3, rfl⟩ := hq.1.slice
 obtain ⟨A4, n4, c4, rfl⟩ := hr.1.slice
 refine ⟨_, rfl, hb, ?_⟩
 replace E := hid (E.out.trans hb)
 replace B1 := hid (B1.out.up hb)
 replace B2 := hid (B2.out.up hb)
 replace B3 := hid (B3.out.up hb)
 replace B4 := hid (B4.out.up hb)
 have R3 := hid hq
 have R4 := hid hr
 clear hb hq hr
 refine WE.p 8 (.tuple #[(.slice A3 n3 c3), (.slice A4 n4 c4)]) ?_
 simp only [pX]
 refine WE.p 14 (.slice A3 n3 c3) ?_
 refine WE.p 15 (.slice A4 n4 c4) ?_
 refine WE.p 6 (.slice A3 n3 c3) ?_
 refine WE.p 7 (.slice A4 n4 c4) ?_
 simp only [pX]
 refine WE.done ?_
 go_upto_region 2 with (fail)
 refine wp_region_D [(0, 0), (1, 0), (2, 0), (3, 0), (5, 0), (7, 0), (8, 0), (9, 0), (4, 1), (6, 1), (10, 1), (11, 4), (12, 4)] fun wd hb => ?_
 replace E := hid (E.out.trans hb)
 replace B1 := hid (B1.out.up hb)
 replace B2 := hid (B2.out.up hb)
 replace B3 := hid (B3.out.up hb)
 replace B4 := hid (B4.out.up hb)
 replace R3 := hid (R3.out.up hb)
 replace R4 := hid (R4.out.up hb)
 clear hb
 refine WE.p 16 (.pointer (some ⟨(w.heap.size), 0, none⟩)) ?_
 refine WE.q 17 (.agg #[.int .i64 s]) rfl (fun w' hk => by have c0 := (B1.out.up hk).k 0; go_simp) ?_
 refine WE.p 18 (.pointer (some ⟨(w.heap.size + 1), 0, none⟩)) ?_
 refine WE.q 19 (.agg #[.int .i64 t]) rfl (fun w' hk => by have c0 := (B2.out.up hk).k 0; go_simp) ?_
 refine WE.p 21 (.slice A3 n3 c3) ?_
 refine WE.p 23 (.pointer (some ⟨(w.heap.size), 0, none⟩)) ?_
 simp only [pX]
 refine WE.q 24 (.agg #[.int .i64 s]) rfl (fun w' hk => by have c0 := (B1.out.up hk).k 0; go_simp) ?_
 refine WE.p 25 (.slice A4 n4 c4) ?_
 refine WE.call (d := some 20) rfl rfl (by rfl) (f := 146) (args := #[(.agg #[.int .i64 s]), (.agg #[.int .i64 t])]) (by go_simp) ?_
 refine (times_s _ s t HD.out.1 HD.out.2 HE.out.1 HE.out.2).mono ?_
 rintro e wn ⟨rfl, hb⟩
 refine ⟨_, rfl, hb, ?_⟩
 replace E := hid (E.out.trans hb)
 replace B2 := hid (B2.out.up hb)
 replace B3 := hid (B3.out.up hb)
 replace B4 := hid (B4.out.up hb)
 replace R3 := hid (R3.out.up hb)
 replace R4 := hid (R4.out.up hb)
 clear hb
 refine WE.call (d := some 22) rfl rfl (by rfl) (f := 132) (args := #[(.agg #[.int .i64 (s * t)]), (.slice A3 n3 c3)]) (by go_simp) ?_
 refine (signed_n R3.out (Z := q) (by rw [HQ.out]; exact (M.quo_parts Z Y).1) (fun h => by rw [HS.out, HT.out]; rw [HQ.out] at h ⊢; exact (M.quo_parts Z Y).2 h)).mono ?_
 rintro e wn ⟨vx, rfl, hx, hb⟩
 obtain ⟨s5, A5, n5, c5, rfl, hs5, hr5⟩ := hx.form
 clear hx
 refine ⟨_, rfl, hb, ?_⟩
 replace E := hid (E.out.trans hb)
 replace B2 := hid (B2.out.up hb)
 replace B3 := hid (B3.out.up hb)
 replace B4 := hid (B4.out.up hb)
 replace R4 := hid (R4.out.up hb)
 have HS5 := hid hs5
 have R5 := hid hr5
 clear hb hs5 hr5
 refine WE.call (d := some 26) rfl rfl (by rfl) (f := 132) (args := #[(.agg #[.int .i64 s]), (.slice A4 n4 c4)]) (by go_simp) ?_
 refine (signed_n R4.out (Z := x) (by rw [HX.out]; exact (M.rest_parts Z Y).1) (fun h => by rw [HS.out]; rw [HX.out] at h ⊢; exact (M.rest_parts Z Y).2 h)).mono ?_
 rintro e wn ⟨vx, rfl, hx, hb⟩
 obtain ⟨s6, A6, n6, c6, rfl, hs6, hr6⟩ := hx.form
 clear hx
 refine ⟨_, rfl, hb, ?_⟩
 replace E := hid (E.out.trans hb)
 replace B2 := hid (B2.out.up hb)
 replace B3 := hid (B3.out.up hb)
 replace B4 := hid (B4.out.up hb)
 replace R5 := hid (R5.out.up hb)
 have HS6 := hid hs6
 have R6 := hid hr6
 clear hb hs6 hr6
 simp only [pX]
 refine WE.store2 (g := (w.heap.size + 2)) (x := .int .i64 s5) (y := .slice A5 n5 c5) (t := 132) rfl rfl (by rfl) (fun w hb => ?_) B3.out (by rfl) fun ws hk hs => ?_
 ·have c0 := hb.k 0; have f0 := hb.free 0; have c1 := hb.k 1; have f1 := hb.free 1; go_simp
 intro hbx
 replace E := hid (E.out.keptG hk (by simp))
 replace B2 := hid (B2.out.kept hk (by simp))
 replace B3 := hid hbx
 replace B4 := hid (B4.out.kept hk (by simp))
 replace R5 := hid (R5.out.kz hs)
 replace R6 := hid (R6.out.kz hs)
 clear hk hs hbx
 refine WE.store2 (g := (w.heap.size + 3)) (x := .int .i64 s6) (y := .slice A6 n6 c6) (t := 132) rfl rfl (by rfl) (fun w hb => ?_) B4.out (by rfl) fun ws hk hs => ?_
 ·have c0 := hb.k 0; have f0 := hb.free 0; have c1 := hb.k 1; have f1 := hb.free 1; go_simp
 intro hbx
 replace E := hid (E.out.keptG hk (by simp))
 replace B2 := hid (B2.out.kept hk (by simp))
 replace B3 := hid (B3.out.kept hk (by simp))
 replace B4 := hid hbx
 replace R5 := hid (R5.out.kz hs)
 replace R6 := hid (R6.out.kz hs)
 clear hk hs hbx
 refine WE.done ?_
 have HF := hid (show -1 ≤ s6 ∧ s6 ≤ 1 by rw [HS6.out]; exact side_of _)
 have HB := hid (show decide (s6 * t < 0) = false by rw [HS6.out, HT.out]; simpa using HC.out)
 go_upto_region 3 with (fail)
 refine wp_region_S [(0, 0), (1, 0), (2, 0), (3, 0), (4, 1)] fun wd hb => ?_
 replace E := hid (E.out.trans hb)
 replace B2 := hid (B2.out.up hb)
 replace B3 := hid (B3.out.up hb)
 replace B4 := hid (B4.out.up hb)
 replace R5 := hid (R5.out.up hb)
 replace R6 := hid (R6.out.up hb)
 clear hb
 refine WE.p 27 (.pointer (some ⟨(w.heap.size + 3), 0, none⟩)) ?_
 refine WE.q 28 (.agg #[.int .i64 s6]) rfl (fun w' hk => by have c0 := (B4.out.up hk).k 0; go_simp) ?_
 refine WE.p 29 (.pointer (some ⟨(w.heap.size + 1), 0, none⟩)) ?_
 refine WE.q 30 (.agg #[.int .i64 t]) rfl (fun w' hk => by have c0 := (B2.out.up hk).k 0; go_simp) ?_
 refine WE.call (d := some 31) rfl rfl (by rfl) (f := 172) (args := #[(.agg #[.int .i64 s6]), (.agg #[.int .i64 t])]) (by go_simp) ?_
 refine (against_s _ s6 t HF.out.1 HF.out.2 HE.out.1 HE.out.2).mono ?_
 rw [HB.out]
 rintro e wn ⟨rfl, hb⟩
 refine ⟨_, rfl, hb, ?_⟩
 replace E := hid (E.out.trans hb)
 replace B3 := hid (B3.out.up hb)
 replace B4 := hid (B4.out.up hb)
 replace R5 := hid (R5.out.up hb)
 replace R6 := hid (R6.out.up hb)
 clear hb
 simp only [pX]
 refine WE.done ?_
 go_upto_region 5 with (fail)
 refine wp_region_D [(0, 0), (1, 0), (2, 1), (3, 1)] fun wd hb => ?_
 replace E := hid (E.out.trans hb)
 replace B3 := hid (B3.out.up hb)
 replace B4 := hid (B4.out.up hb)
 replace R5 := hid (R5.out.up hb)
 replace R6 := hid (R6.out.up hb)
 clear hb
 refine WE.q 39 (.agg #[.int .i64 s5, .slice A5 n5 c5]) rfl (fun w' hk => by have c0 := (B3.out.up hk).k 0; have c1 := (B3.out.up hk).k 1; go_simp) ?_
 refine WE.q 40 (.agg #[.int .i64 s6, .slice A6 n6 c6]) rfl (fun w' hk => by have c0 := (B4.out.up hk).k 0; have c1 := (B4.out.up hk).k 1; go_simp) ?_
 simp only [pX]
 refine WE.store2s (g := (w.heap.size + 2)) (x := .int .i64 s5) (y := .slice A5 n5 c5) (t := 132) rfl rfl (by rfl) (fun w hb => ?_) B3.out fun ws hb => ?_
 ·have c0 := hb.k 0; have f0 := hb.free 0; have c1 := hb.k 1; have f1 := hb.free 1; go_simp
 replace E := hid (E.out.trans hb)
 replace B3 := hid (B3.out.up hb)
 replace B4 := hid (B4.out.up hb)
 replace R5 := hid (R5.out.up hb)
 replace R6 := hid (R6.out.up hb)
 clear hb
 refine WE.store2s (g := (w.heap.size + 3)) (x := .int .i64 s6) (y := .slice A6 n6 c6) (t := 132) rfl rfl (by rfl) (fun w hb => ?_) B4.out fun ws hb => ?_
 ·have c0 := hb.k 0; have f0 := hb.free 0; have c1 := hb.k 1; have f1 := hb.free 1; go_simp
 replace E := hid (E.out.trans hb)
 replace B3 := hid (B3.out.up hb)
 replace B4 := hid (B4.out.up hb)
 replace R5 := hid (R5.out.up hb)
 replace R6 := hid (R6.out.up hb)
 clear hb
 refine WE.done ?_
 have r0 := B3.out.cell (o := 0) (v := .int .i64 s5) rfl
 have r1 := B3.out.cell (o := 1) (v := .slice A5 n5 c5) rfl
 have r2 := B4.out.cell (o := 0) (v := .int .i64 s6) rfl
 have r3 := B4.out.cell (o := 1) (v := .slice A6 n6 c6) rfl
 go_wp2
 exact bodyPost_ret (v := .tuple #[.agg #[.int .i64 s5, .slice A5 n5 c5], .agg #[.int .i64 s6, .slice A6 n6 c6]]) (by simp [results, Tryz.results151, go_sem, r0, r1, r2, r3]) rfl ⟨_, _, rfl, (InZ.to (InZ.mk HS5.out R5.out) (by rw [HQ.out]; exact (M.floor_keep (by rw [← HX.out]; exact fun hcon => by have h0 := HC.out; first | exact h0 hcon | exact absurd hcon (Int.not_lt.2 h0))).1.symm)).wide (by omega), (InZ.to (InZ.mk HS6.out R6.out) (by rw [HX.out]; exact (M.floor_keep (by rw [← HX.out]; exact fun hcon => by have h0 := HC.out; first | exact h0 hcon | exact absurd hcon (Int.not_lt.2 h0))).2.symm)).wide (by omega), E.out⟩
theorem floor_i {w : World} {u v : Value} {Z Y : Int} {j k : Nat} (hu : InZ w u Z j) (hv : InZ w v Y k) (hj : j ≤ 1000000) (hk : k ≤ 1000000) : Calls Tryz.prog 151 #[u, v] w (GivesI2 w (Z.fdiv Y) (max j 3 + 1) (Z.fmod Y) (max j k + 1)) := by
 by_cases h : (Z.sign * ((Z.natAbs % Y.natAbs : Nat) : Int)).sign * Y.sign < 0
 ·exact floor_step hu hv hj hk h
 ·exact floor_keep hu hv hj hk h
namespace M
theorem euclid_parts (a b : Int) : (a.fdiv b.natAbs).natAbs = (a / b).natAbs ∧ ((a / b).natAbs ≠ 0 → (a.fdiv b.natAbs).sign * b.sign = (a / b).sign) := by
 rw [(euclid_of a b).1]
 rcases sign_cases b with ⟨hb, eb⟩ | ⟨hb, eb⟩ | ⟨hb, eb⟩
 ·rw [eb]
  exact ⟨by rw [Int.natAbs_mul]; simp, fun _ => by rw [Int.sign_mul]; rfl⟩
 ·subst hb; simp
 ·rw [eb]
  exact ⟨by rw [Int.natAbs_mul]; simp, fun _ => by rw [Int.sign_mul]; rfl⟩
end M
theorem Worth.shape {w : World} {v : Value} {Z : Int} {k : Nat} (h : Worth w v Z k) : ∃ g A n c, v = .agg #[.bool g, .slice A n c] := by
 obtain ⟨g, A, n, c, _, e, _⟩ := h
 exact ⟨g, A, n, c, e⟩
theorem Worth.wide {w : World} {v : Value} {Z : Int} {j k : Nat} (h : Worth w v Z j) (hk : j ≤ k) : Worth w v Z k := by
 obtain ⟨g, A, n, c, l, h1, h2, h3, h4⟩ := h; exact ⟨g, A, n, c, l, h1, h2, Nat.le_trans h3 hk, h4⟩
end Go.Proofs.YtkhmgdfhggejaaaGreatDoor
