/-
  What each law of layer 7 asks first: few terms, few points, what is known.
-/
import Derived.Test.YtklmnmkmpkobhaaGreatBFaceB
import Derived.Test.YtklmnmkmpkobhaaGreatLRefE
namespace Go.Proofs.YtklmnmkmpkobhaaGreat
open Go.RowKit
set_option linter.unusedSimpArgs false
set_option linter.unusedVariables false

set_option maxHeartbeats 4000000 in
theorem fewL7_any {w : World} {g1 : Bool} {A1 B1 : Option Addr} {n1 c1 m1 d1 : Nat} {ls : List (Int × Bool × List Nat)} {l1 : List Nat} (h1 : LList w (.slice A1 n1 c1) ls) (h2 : Num w w.heap.size (.slice B1 m1 d1) l1) {b : Bool} (hb : M.fewL ls l1 = b) :
 Calls Tryz.prog 41 #[.agg #[.slice A1 n1 c1, .bool g1, .slice B1 m1 d1]] w (GivesB w b) := by
 have HL := hid h1
 have HC := hid h1.count
 have HB := hid hb
 have hb9 : n1 ≤ 9223372036854775807 := h1.count.2.2
 have HK := hid h2.cnt
 have hm9 : m1 ≤ 9223372036854775807 := h2.cnt.2
 clear h1 h2 hb
 go_enter Tryz.func41, Tryz.ntmps41
 go_upto_region 1 with (fail)
 obtain ⟨E, BX0⟩ := open1 w #[.slice A1 n1 c1, .bool g1, .slice B1 m1 d1] 27
 refine wp_region_S [(0, 0)] fun wd hb => ?_
 replace E := hid (E.out.trans hb)
 replace BX0 := hid (BX0.out.up hb)
 clear hb
 have EY := hid (Ext.refl wd)
 refine WE.pp 3 (.int .i64 (0)) ?_
 simp only [Act.put, pA, pB, pC]
 refine WE.done ?_
 go_wp2
 go_loopw [3] (fun x3 wr => ∃ (k : Nat), x3 = .int .i64 (k : Int) ∧ k ≤ n1 ∧ (∀ x ∈ ls.take k, (decide (x.2.2.length ≤ 4) && decide (x.1 ≤ 100)) = true) ∧ Ext w wr ∧ Box wr w.heap.size #[.slice A1 n1 c1, .bool g1, .slice B1 m1 d1] 27) (fun x3 _ => n1 - (intOf x3).toNat)
 case atStart => exact ⟨0, rfl, Nat.zero_le _, fun x hx => by simp at hx, (E.out.trans EY.out), (BX0.out.up EY.out)⟩
 case round =>
  clear E EY BX0
  obtain ⟨k, rfl, hr0, hr1, hr2, hr3⟩ := hrel
  have HOK := hid hr1
  have E := hid hr2
  have BX0 := hid hr3
  clear hr1 hr2 hr3
  have EY := hid (Ext.refl wr)
  have hk := hr0
  by_cases hlt : k < n1
  ·have hlt' : decide ((k : Int) < (n1 : Int)) = true := decide_eq_true (by omega)
   obtain ⟨x, hx⟩ : ∃ x, ls[k]? = some x := ⟨_, List.getElem?_eq_getElem (by rw [← HC.out.1]; exact hlt)⟩
   obtain ⟨ad, Ae, ne, ce, rfl, ka, kb, kc, kn⟩ := HL.out.get hx
   obtain ⟨xv, ge, le⟩ := x
   have HX := hid hx
   have KA := hid ka
   have KC := hid kc
   have HNE := hid (show ne = le.length ∧ ne ≤ 9223372036854775807 from kn.cnt)
   clear hx ka kb kc kn
   go_upto_region 2 with (fail)
   refine wp_region_S [(0, 0), (1, 0), (2, 0), (3, 0), (4, 0)] fun wd hb => ?_
   replace EY := hid (EY.out.trans hb)
   clear hb
   refine WE.pp 4 (.int .i64 (k : Int)) ?_
   refine WE.pp 5 (.pointer (some ⟨(w.heap.size), 0, none⟩)) ?_
   refine WE.qq 6 (.slice (some ad) n1 c1) rfl (fun w' hk => by have ce0 := ((BX0.out.up EY.out).up hk).k 0; go_simp) ?_
   refine WE.pp 7 (.int .i64 (n1 : Int)) ?_
   refine WE.pp 8 (.bool true) ?_
   simp only [Act.put, pA, pB, pC]
   refine WE.done ?_
   by_cases hg : 4 < ne
   ·have hgd : decide ((4 : Int) < (ne : Int)) = true := decide_eq_true (by omega)
    go_upto_region 4 with (fail)
    refine wp_region_S [(0, 0), (1, 0), (2, 0), (3, 0), (4, 0), (5, 0), (6, 0), (7, 0), (8, 0), (9, 0), (10, 0), (11, 0), (12, 0), (13, 0), (14, 0), (15, 0), (16, 0), (17, 0)] fun wd hb => ?_
    replace EY := hid (EY.out.trans hb)
    clear hb
    refine WE.pp 11 (.pointer (some ⟨(w.heap.size), 0, none⟩)) ?_
    refine WE.qq 12 (.slice (some ad) n1 c1) rfl (fun w' hk => by have ce0 := ((BX0.out.up EY.out).up hk).k 0; go_simp) ?_
    refine WE.pp 13 (.int .i64 (k : Int)) ?_
    refine WE.pp 14 (.pointer (some (ad.add (k * 3)))) ?_
    refine WE.pp 15 (.pointer (some ⟨(ad.add (k * 3)).block, (ad.add (k * 3)).off + 1, none⟩)) ?_
    refine WE.pp 16 (.pointer (some ⟨(ad.add (k * 3)).block, (ad.add (k * 3)).off + 2, none⟩)) ?_
    simp only [Act.put, pA, pB, pC]
    refine WE.qq 17 (.slice Ae ne ce) rfl (fun w' hk => by have ce2 : w'.cell? ⟨(ad.add (k * 3)).block, (ad.add (k * 3)).off + 2, none⟩ = some (.slice Ae ne ce) := (KC.out.up (E.out.trans EY.out)).up hk; go_simp) ?_
    refine WE.pp 18 (.int .i64 (ne : Int)) ?_
    refine WE.pp 19 (.bool true) ?_
    refine WE.pp 20 (.bool true) ?_
    refine WE.ss 21 ?_
    refine WE.ss 22 ?_
    simp only [Act.put, pA, pB, pC]
    refine WE.ss 23 ?_
    refine WE.ss 24 ?_
    refine WE.ss 25 ?_
    refine WE.ss 26 ?_
    refine WE.ss 27 ?_
    refine WE.pp 28 (.bool true) ?_
    simp only [Act.put, pA, pB, pC]
    refine WE.done ?_
    go_upto_region 5 with (fail)
    refine wp_region_S [(0, 0)] fun wd hb => ?_
    replace EY := hid (EY.out.trans hb)
    clear hb
    refine WE.pp 2 (.bool false) ?_
    simp only [Act.put, pA, pB, pC]
    refine WE.done ?_
    repeat go_step
    go_ret
    exact ⟨by rw [← HB.out, M.fewL_no (List.mem_of_getElem? HX.out) (by rw [decide_eq_false (show ¬ le.length ≤ 4 by have := HNE.out.1; omega)]; rfl)]; rfl, (E.out.trans EY.out)⟩
   have hgd : decide ((4 : Int) < (ne : Int)) = false := decide_eq_false (by omega)
   by_cases hv : 100 < xv
   ·have hvd : decide ((100 : Int) < xv) = true := decide_eq_true hv
    go_upto_region 4 with (fail)
    refine wp_region_S [(0, 0), (1, 0), (2, 0), (3, 0), (4, 0), (5, 0), (6, 0), (7, 0), (8, 0), (9, 0), (10, 0), (11, 0), (12, 0), (13, 0), (14, 0), (15, 0), (16, 0), (17, 0)] fun wd hb => ?_
    replace EY := hid (EY.out.trans hb)
    clear hb
    refine WE.pp 11 (.pointer (some ⟨(w.heap.size), 0, none⟩)) ?_
    refine WE.qq 12 (.slice (some ad) n1 c1) rfl (fun w' hk => by have ce0 := ((BX0.out.up EY.out).up hk).k 0; go_simp) ?_
    refine WE.pp 13 (.int .i64 (k : Int)) ?_
    refine WE.pp 14 (.pointer (some (ad.add (k * 3)))) ?_
    refine WE.pp 15 (.pointer (some ⟨(ad.add (k * 3)).block, (ad.add (k * 3)).off + 1, none⟩)) ?_
    refine WE.pp 16 (.pointer (some ⟨(ad.add (k * 3)).block, (ad.add (k * 3)).off + 2, none⟩)) ?_
    simp only [Act.put, pA, pB, pC]
    refine WE.qq 17 (.slice Ae ne ce) rfl (fun w' hk => by have ce2 : w'.cell? ⟨(ad.add (k * 3)).block, (ad.add (k * 3)).off + 2, none⟩ = some (.slice Ae ne ce) := (KC.out.up (E.out.trans EY.out)).up hk; go_simp) ?_
    refine WE.pp 18 (.int .i64 (ne : Int)) ?_
    refine WE.pp 19 (.bool false) ?_
    refine WE.pp 20 (.bool false) ?_
    refine WE.pp 21 (.pointer (some ⟨(w.heap.size), 0, none⟩)) ?_
    refine WE.qq 22 (.slice (some ad) n1 c1) rfl (fun w' hk => by have ce0 := ((BX0.out.up EY.out).up hk).k 0; go_simp) ?_
    simp only [Act.put, pA, pB, pC]
    refine WE.pp 23 (.int .i64 (k : Int)) ?_
    refine WE.pp 24 (.pointer (some (ad.add (k * 3)))) ?_
    refine WE.pp 25 (.pointer (some (ad.add (k * 3)))) ?_
    refine WE.qq 26 (.int .i64 xv) rfl (fun w' hk => by have ce0 : w'.cell? (ad.add (k * 3)) = some (.int .i64 xv) := (KA.out.up (E.out.trans EY.out)).up hk; go_simp) ?_
    refine WE.pp 27 (.bool true) ?_
    refine WE.pp 28 (.bool true) ?_
    simp only [Act.put, pA, pB, pC]
    refine WE.done ?_
    go_upto_region 5 with (fail)
    refine wp_region_S [(0, 0)] fun wd hb => ?_
    replace EY := hid (EY.out.trans hb)
    clear hb
    refine WE.pp 2 (.bool false) ?_
    simp only [Act.put, pA, pB, pC]
    refine WE.done ?_
    repeat go_step
    go_ret
    exact ⟨by rw [← HB.out, M.fewL_no (List.mem_of_getElem? HX.out) (by rw [Bool.and_eq_false_iff]; exact .inr (decide_eq_false (show ¬ xv ≤ 100 by omega)))]; rfl, (E.out.trans EY.out)⟩
   have hvd : decide ((100 : Int) < xv) = false := decide_eq_false hv
   go_upto_region 4 with (fail)
   refine wp_region_S [(0, 0), (1, 0), (2, 0), (3, 0), (4, 0), (5, 0), (6, 0), (7, 0), (8, 0), (9, 0), (10, 0), (11, 0), (12, 0), (13, 0), (14, 0), (15, 0), (16, 0), (17, 0)] fun wd hb => ?_
   replace EY := hid (EY.out.trans hb)
   clear hb
   refine WE.pp 11 (.pointer (some ⟨(w.heap.size), 0, none⟩)) ?_
   refine WE.qq 12 (.slice (some ad) n1 c1) rfl (fun w' hk => by have ce0 := ((BX0.out.up EY.out).up hk).k 0; go_simp) ?_
   refine WE.pp 13 (.int .i64 (k : Int)) ?_
   refine WE.pp 14 (.pointer (some (ad.add (k * 3)))) ?_
   refine WE.pp 15 (.pointer (some ⟨(ad.add (k * 3)).block, (ad.add (k * 3)).off + 1, none⟩)) ?_
   refine WE.pp 16 (.pointer (some ⟨(ad.add (k * 3)).block, (ad.add (k * 3)).off + 2, none⟩)) ?_
   simp only [Act.put, pA, pB, pC]
   refine WE.qq 17 (.slice Ae ne ce) rfl (fun w' hk => by have ce2 : w'.cell? ⟨(ad.add (k * 3)).block, (ad.add (k * 3)).off + 2, none⟩ = some (.slice Ae ne ce) := (KC.out.up (E.out.trans EY.out)).up hk; go_simp) ?_
   refine WE.pp 18 (.int .i64 (ne : Int)) ?_
   refine WE.pp 19 (.bool false) ?_
   refine WE.pp 20 (.bool false) ?_
   refine WE.pp 21 (.pointer (some ⟨(w.heap.size), 0, none⟩)) ?_
   refine WE.qq 22 (.slice (some ad) n1 c1) rfl (fun w' hk => by have ce0 := ((BX0.out.up EY.out).up hk).k 0; go_simp) ?_
   simp only [Act.put, pA, pB, pC]
   refine WE.pp 23 (.int .i64 (k : Int)) ?_
   refine WE.pp 24 (.pointer (some (ad.add (k * 3)))) ?_
   refine WE.pp 25 (.pointer (some (ad.add (k * 3)))) ?_
   refine WE.qq 26 (.int .i64 xv) rfl (fun w' hk => by have ce0 : w'.cell? (ad.add (k * 3)) = some (.int .i64 xv) := (KA.out.up (E.out.trans EY.out)).up hk; go_simp) ?_
   refine WE.pp 27 (.bool false) ?_
   refine WE.pp 28 (.bool false) ?_
   simp only [Act.put, pA, pB, pC]
   refine WE.done ?_
   go_wp2
   go_roundw
   case rel => exact ⟨k + 1, by go_num, by omega, fun y hy => by rw [List.take_add_one, HX.out, Option.toList_some] at hy; rcases List.mem_append.1 hy with hy | hy; exact HOK.out y hy; simp only [List.mem_singleton] at hy; subst hy; show (decide (le.length ≤ 4) && decide (xv ≤ 100)) = true; rw [decide_eq_true (show le.length ≤ 4 by have := HNE.out.1; omega), decide_eq_true (show xv ≤ 100 by omega)]; rfl, (E.out.trans EY.out), (BX0.out.up EY.out)⟩
   case measure => simp [intOf]; all_goals omega
  ·obtain rfl : k = n1 := by omega
   have hlt' : decide ((k : Int) < (k : Int)) = false := by simp
   go_upto_region 2 with (fail)
   refine wp_region_S [(0, 0), (1, 0), (2, 0), (3, 0), (4, 0)] fun wd hb => ?_
   replace EY := hid (EY.out.trans hb)
   clear hb
   refine WE.pp 4 (.int .i64 (k : Int)) ?_
   refine WE.pp 5 (.pointer (some ⟨(w.heap.size), 0, none⟩)) ?_
   refine WE.qq 6 (.slice A1 k c1) rfl (fun w' hk => by have ce0 := ((BX0.out.up EY.out).up hk).k 0; go_simp) ?_
   refine WE.pp 7 (.int .i64 (k : Int)) ?_
   refine WE.pp 8 (.bool false) ?_
   simp only [Act.put, pA, pB, pC]
   refine WE.done ?_
   have HALL := hid (show ∀ x ∈ ls, (decide (x.2.2.length ≤ 4) && decide (x.1 ≤ 100)) = true from fun x hx => HOK.out x (by rw [HC.out.1, List.take_length]; exact hx))
   have HFEW := hid (show (decide (ls.length ≤ 8) && decide (l1.length ≤ 4)) = b by rw [← HB.out]; unfold M.fewL; rw [List.all_eq_true.2 HALL.out, Bool.true_and])
   by_cases h8 : k ≤ 8
   ·have h8d : decide ((k : Int) ≤ 8) = true := decide_eq_true (by omega)
    obtain ⟨b4, hb4⟩ : ∃ b : Bool, decide ((m1 : Int) ≤ 4) = b := ⟨_, rfl⟩
    go_upto_region 6 with (fail)
    refine wp_region_S [(0, 0), (1, 0), (2, 0), (3, 0), (4, 0), (5, 0), (6, 0), (7, 0), (8, 0), (9, 0), (10, 0), (11, 0)] fun wd hb => ?_
    replace EY := hid (EY.out.trans hb)
    clear hb
    refine WE.pp 29 (.pointer (some ⟨(w.heap.size), 0, none⟩)) ?_
    refine WE.qq 30 (.slice A1 k c1) rfl (fun w' hk => by have ce0 := ((BX0.out.up EY.out).up hk).k 0; go_simp) ?_
    refine WE.pp 31 (.int .i64 (k : Int)) ?_
    refine WE.pp 32 (.bool true) ?_
    refine WE.pp 33 (.bool true) ?_
    refine WE.pp 34 (.pointer (some ⟨(w.heap.size), 1, none⟩)) ?_
    simp only [Act.put, pA, pB, pC]
    refine WE.pp 35 (.pointer (some ⟨(w.heap.size), 2, none⟩)) ?_
    refine WE.qq 36 (.slice B1 m1 d1) rfl (fun w' hk => by have ce2 := ((BX0.out.up EY.out).up hk).k 2; go_simp) ?_
    refine WE.pp 37 (.int .i64 (m1 : Int)) ?_
    refine WE.pp 38 (.bool b4) ?_
    refine WE.pp 39 (.bool b4) ?_
    refine WE.pp 2 (.bool b4) ?_
    simp only [Act.put, pA, pB, pC]
    refine WE.done ?_
    repeat go_step
    go_ret
    have hbb : b = b4 := by rw [← HFEW.out, decide_eq_true (by have := HC.out.1; omega), Bool.true_and, ← hb4, Bool.eq_iff_iff, decide_eq_true_iff, decide_eq_true_iff]; have := HK.out.1; omega
    exact ⟨by rw [hbb]; rfl, (E.out.trans EY.out)⟩
   ·have h8d : decide ((k : Int) ≤ 8) = false := decide_eq_false (by omega)
    go_upto_region 6 with (fail)
    refine wp_region_S [(0, 0), (1, 0), (2, 0), (3, 0), (4, 0), (5, 0), (6, 0), (7, 0), (8, 0), (9, 0), (10, 0), (11, 0)] fun wd hb => ?_
    replace EY := hid (EY.out.trans hb)
    clear hb
    refine WE.pp 29 (.pointer (some ⟨(w.heap.size), 0, none⟩)) ?_
    refine WE.qq 30 (.slice A1 k c1) rfl (fun w' hk => by have ce0 := ((BX0.out.up EY.out).up hk).k 0; go_simp) ?_
    refine WE.pp 31 (.int .i64 (k : Int)) ?_
    refine WE.pp 32 (.bool false) ?_
    refine WE.pp 33 (.bool false) ?_
    refine WE.ss 34 ?_
    simp only [Act.put, pA, pB, pC]
    refine WE.ss 35 ?_
    refine WE.ss 36 ?_
    refine WE.ss 37 ?_
    refine WE.ss 38 ?_
    refine WE.pp 39 (.bool false) ?_
    refine WE.pp 2 (.bool false) ?_
    simp only [Act.put, pA, pB, pC]
    refine WE.done ?_
    repeat go_step
    go_ret
    exact ⟨by rw [← HFEW.out, decide_eq_false (by have := HC.out.1; omega)]; rfl, (E.out.trans EY.out)⟩

set_option maxHeartbeats 4000000 in
theorem fewP7_any {w : World} {A1 : Option Addr} {n1 c1 : Nat} {xs : List (Bool × List Nat)} (h1 : ZList w (.slice A1 n1 c1) xs) {b : Bool} (hb : M.fewP xs = b) :
 Calls Tryz.prog 42 #[.slice A1 n1 c1] w (GivesB w b) := by
 have HL := hid h1
 have HC := hid h1.count
 have HB := hid hb
 have hb9 : n1 ≤ 9223372036854775807 := h1.count.2.2
 clear h1 hb
 go_enter Tryz.func42, Tryz.ntmps42
 go_upto_region 1 with (fail)
 have E := hid (Ext.refl w)
 refine wp_region_S [(0, 0)] fun wd hb => ?_
 replace E := hid (E.out.trans hb)
 clear hb
 have EY := hid (Ext.refl wd)
 refine WE.pp 3 (.int .i64 (0)) ?_
 simp only [Act.put, pA, pB, pC]
 refine WE.done ?_
 go_wp2
 go_loopw [3] (fun x3 wr => ∃ (k : Nat), x3 = .int .i64 (k : Int) ∧ k ≤ n1 ∧ (∀ x ∈ xs.take k, decide (x.2.length ≤ 4) = true) ∧ Ext w wr) (fun x3 _ => n1 - (intOf x3).toNat)
 case atStart => exact ⟨0, rfl, Nat.zero_le _, fun x hx => by simp at hx, (E.out.trans EY.out)⟩
 case round =>
  clear E EY
  obtain ⟨k, rfl, hr0, hr1, hr2⟩ := hrel
  have HOK := hid hr1
  have E := hid hr2
  clear hr1 hr2
  have EY := hid (Ext.refl wr)
  have hk := hr0
  by_cases hlt : k < n1
  ·have hlt' : decide ((k : Int) < (n1 : Int)) = true := decide_eq_true (by omega)
   obtain ⟨x, hx⟩ : ∃ x, xs[k]? = some x := ⟨_, List.getElem?_eq_getElem (by rw [← HC.out.1]; exact hlt)⟩
   obtain ⟨ad, Ae, ne, ce, rfl, kb, kc, kn⟩ := HL.out.get hx
   obtain ⟨ge, le⟩ := x
   have HX := hid hx
   have KC := hid kc
   have HNE := hid (show ne = le.length ∧ ne ≤ 9223372036854775807 from kn.cnt)
   clear hx kb kc kn
   go_upto_region 2 with (fail)
   refine wp_region_S [(0, 0), (1, 0), (2, 0), (3, 0)] fun wd hb => ?_
   replace EY := hid (EY.out.trans hb)
   clear hb
   refine WE.pp 4 (.int .i64 (k : Int)) ?_
   refine WE.pp 5 (.slice (some ad) n1 c1) ?_
   refine WE.pp 6 (.int .i64 (n1 : Int)) ?_
   refine WE.pp 7 (.bool true) ?_
   simp only [Act.put, pA, pB, pC]
   refine WE.done ?_
   by_cases hg : 4 < ne
   ·have hgd : decide ((4 : Int) < (ne : Int)) = true := decide_eq_true (by omega)
    go_upto_region 4 with (fail)
    refine wp_region_S [(0, 0), (1, 0), (2, 0), (3, 0), (4, 0), (5, 0), (6, 0)] fun wd hb => ?_
    replace EY := hid (EY.out.trans hb)
    clear hb
    refine WE.pp 10 (.slice (some ad) n1 c1) ?_
    refine WE.pp 11 (.int .i64 (k : Int)) ?_
    refine WE.pp 12 (.pointer (some (ad.add (k * 2)))) ?_
    refine WE.pp 13 (.pointer (some ⟨(ad.add (k * 2)).block, (ad.add (k * 2)).off + 1, none⟩)) ?_
    refine WE.qq 14 (.slice Ae ne ce) rfl (fun w' hk => by have ce1 : w'.cell? ⟨(ad.add (k * 2)).block, (ad.add (k * 2)).off + 1, none⟩ = some (.slice Ae ne ce) := (KC.out.up (E.out.trans EY.out)).up hk; go_simp) ?_
    refine WE.pp 15 (.int .i64 (ne : Int)) ?_
    simp only [Act.put, pA, pB, pC]
    refine WE.pp 16 (.bool true) ?_
    simp only [Act.put, pA, pB, pC]
    refine WE.done ?_
    go_upto_region 5 with (fail)
    refine wp_region_S [(0, 0)] fun wd hb => ?_
    replace EY := hid (EY.out.trans hb)
    clear hb
    refine WE.pp 2 (.bool false) ?_
    simp only [Act.put, pA, pB, pC]
    refine WE.done ?_
    repeat go_step
    go_ret
    exact ⟨by rw [← HB.out, M.fewP_no (List.mem_of_getElem? HX.out) (decide_eq_false (show ¬ le.length ≤ 4 by have := HNE.out.1; omega))]; rfl, (E.out.trans EY.out)⟩
   have hgd : decide ((4 : Int) < (ne : Int)) = false := decide_eq_false (by omega)
   go_upto_region 4 with (fail)
   refine wp_region_S [(0, 0), (1, 0), (2, 0), (3, 0), (4, 0), (5, 0), (6, 0)] fun wd hb => ?_
   replace EY := hid (EY.out.trans hb)
   clear hb
   refine WE.pp 10 (.slice (some ad) n1 c1) ?_
   refine WE.pp 11 (.int .i64 (k : Int)) ?_
   refine WE.pp 12 (.pointer (some (ad.add (k * 2)))) ?_
   refine WE.pp 13 (.pointer (some ⟨(ad.add (k * 2)).block, (ad.add (k * 2)).off + 1, none⟩)) ?_
   refine WE.qq 14 (.slice Ae ne ce) rfl (fun w' hk => by have ce1 : w'.cell? ⟨(ad.add (k * 2)).block, (ad.add (k * 2)).off + 1, none⟩ = some (.slice Ae ne ce) := (KC.out.up (E.out.trans EY.out)).up hk; go_simp) ?_
   refine WE.pp 15 (.int .i64 (ne : Int)) ?_
   simp only [Act.put, pA, pB, pC]
   refine WE.pp 16 (.bool false) ?_
   simp only [Act.put, pA, pB, pC]
   refine WE.done ?_
   go_wp2
   go_roundw
   case rel => exact ⟨k + 1, by go_num, by omega, fun y hy => by rw [List.take_add_one, HX.out, Option.toList_some] at hy; rcases List.mem_append.1 hy with hy | hy; exact HOK.out y hy; simp only [List.mem_singleton] at hy; subst hy; exact decide_eq_true (show le.length ≤ 4 by have := HNE.out.1; omega), (E.out.trans EY.out)⟩
   case measure => simp [intOf]; all_goals omega
  ·obtain rfl : k = n1 := by omega
   have hlt' : decide ((k : Int) < (k : Int)) = false := by simp
   go_upto_region 2 with (fail)
   refine wp_region_S [(0, 0), (1, 0), (2, 0), (3, 0)] fun wd hb => ?_
   replace EY := hid (EY.out.trans hb)
   clear hb
   refine WE.pp 4 (.int .i64 (k : Int)) ?_
   refine WE.pp 5 (.slice A1 k c1) ?_
   refine WE.pp 6 (.int .i64 (k : Int)) ?_
   refine WE.pp 7 (.bool false) ?_
   simp only [Act.put, pA, pB, pC]
   refine WE.done ?_
   have HALL := hid (show ∀ x ∈ xs, decide (x.2.length ≤ 4) = true from fun x hx => HOK.out x (by rw [HC.out.1, List.take_length]; exact hx))
   obtain ⟨b4, hb4⟩ : ∃ b : Bool, decide ((k : Int) ≤ 12) = b := ⟨_, rfl⟩
   go_upto_region 6 with (fail)
   refine wp_region_S [(0, 0), (1, 0), (2, 0), (3, 0)] fun wd hb => ?_
   replace EY := hid (EY.out.trans hb)
   clear hb
   refine WE.pp 17 (.slice A1 k c1) ?_
   refine WE.pp 18 (.int .i64 (k : Int)) ?_
   refine WE.pp 19 (.bool b4) ?_
   refine WE.pp 2 (.bool b4) ?_
   simp only [Act.put, pA, pB, pC]
   refine WE.done ?_
   repeat go_step
   go_ret
   have hbb : b = b4 := by rw [← HB.out, ← hb4]; unfold M.fewP; rw [List.all_eq_true.2 HALL.out, Bool.true_and, Bool.eq_iff_iff, decide_eq_true_iff, decide_eq_true_iff]; have := HC.out.1; omega
   exact ⟨by rw [hbb]; rfl, (E.out.trans EY.out)⟩

theorem normB_to {w : World} {u : Value} {t s : M.Tm} {κ μ c : Int} {W : Nat} (h1 : WorthL w u t κ W) (hw : W ≤ 50) (hn : t.length ≤ 1000) (hT : M.nT t = s) (hK : M.nK t κ = μ) (hC : M.nC t κ = c) : Calls Tryz.prog 43 #[u] w (GivesNC w s μ c (W + 4)) := by
 subst hT hK hC; exact normB_l h1 hw hn
theorem notB_to {w : World} {u : Value} {t s : M.Tm} {κ μ : Int} {W : Nat} (h1 : WorthL w u t κ W) (hw : W ≤ 40) (hn : t.length ≤ 150) (hT : M.scaleT t (-1) = s) (hK : 1 + κ * -1 = μ) : Calls Tryz.prog 45 #[u] w (GivesL w s μ (W + 4)) := by
 subst hT hK; exact notB_l h1 hw hn
theorem zlist1 {w : World} {g : Nat} {T : TypeId} {g0 : Bool} {A0 : Option Addr} {n0 c0 : Nat} {l0 : List Nat} (hb : Box w g #[.bool g0, .slice A0 n0 c0] T) (h0 : Num w w.heap.size (.slice A0 n0 c0) l0) :
 ZList w (.slice (some ⟨g, 0, none⟩) 1 1) [(g0, l0)] := by
 refine ⟨_, _, _, rfl, rfl, Nat.le_refl _, by unfold maxLen; omega, fun k x hk => ⟨_, rfl, hb.lt, ?_⟩⟩
 rcases k with _ | k
 ·simp at hk; subst hk
  exact ⟨_, _, _, by rw [Addr.add_lit]; exact hb.cell rfl, by rw [Addr.add_lit, Addr.add_lit]; exact hb.cell rfl, h0⟩
 ·simp at hk
theorem M.at_one {g : Bool} {x : Int} (hg : g = decide (x < 0)) (κ c : Int) : κ + M.atT (M.valAt [(g, M.limbs x.natAbs)]) [(0, c)] = κ + c * x := by
 subst hg
 rw [M.atT_cons, M.atT_nil, Int.add_zero]
 show κ + c * M.zv (decide (x < 0)) (M.limbs x.natAbs) = _
 rw [M.zv_of]

set_option maxHeartbeats 8000000 in
theorem known7 (w : World) :
 Calls Tryz.prog 40 #[] w (GivesB w true) := by
 go_enter Tryz.func40, Tryz.ntmps40
 go_upto_region 1 with (fail)
 have E := hid (Ext.refl w)
 refine wp_region_S [(0, 1), (1, 0), (2, 1), (3, 1), (4, 0), (5, 1), (6, 4)] fun wd hb => ?_
 replace E := hid (E.out.trans hb)
 clear hb
 have EY := hid (Ext.refl wd)
 refine WE.cc 6 ((rOf_z (n := 2) (by decide) (by decide) _).mono ?_)
 rintro e wn ⟨v1, rfl, x1, hb⟩
 obtain ⟨g11, A11, n11, c11, rfl⟩ := x1.shape
 refine ⟨_, rfl, hb, ?_⟩
 replace EY := hid (EY.out.trans hb)
 have Q11 := hid x1
 clear hb x1
 refine WE.pp 7 (.agg #[.int .i64 (0), .bool g11, .slice A11 n11 c11]) ?_
 simp only [Act.put, pA, pB, pC]
 refine WE.new (d := some 8) (cs := #[.int .i64 (0), .bool g11, .slice A11 n11 c11]) (t := 56) (v := fun g => (.slice (some ⟨g, 0, none⟩) 1 1)) rfl rfl (by rfl) (fun w => by go_simp) fun gLM wv hx0 hbox hge => ?_
 replace EY := hid (EY.out.trans hx0)
 replace Q11 := hid (Q11.out.up hx0)
 have LM : Hid (Box wv gLM #[.int .i64 (0), .bool g11, .slice A11 n11 c11] 56) := hid hbox
 clear hx0 hbox hge
 refine WE.cc 9 ((rOf_z (n := (-3)) (by decide) (by decide) _).mono ?_)
 rintro e wn ⟨v1, rfl, x1, hb⟩
 obtain ⟨g12, A12, n12, c12, rfl⟩ := x1.shape
 refine ⟨_, rfl, hb, ?_⟩
 replace EY := hid (EY.out.trans hb)
 replace LM := hid (LM.out.up hb)
 replace Q11 := hid (Q11.out.up hb)
 have Q12 := hid x1
 clear hb x1
 refine WE.pp 10 (.agg #[.slice (some ⟨gLM, 0, none⟩) 1 1, .bool g12, .slice A12 n12 c12]) ?_
 simp only [Act.put, pA, pB, pC]
 have S13 := hid (show IsL _ (.agg #[.slice (some ⟨gLM, 0, none⟩) 1 1, .bool g12, .slice A12 n12 c12]) [(0, 2)] (-3) 3 from ⟨_, _, _, _, _, _, _, rfl, LTm.lit LM.out (Q11.out.wide (by omega)), Q12.out.wide (by omega), ⟨by decide, by decide, trivial⟩⟩)
 refine WE.new (d := some 1) (cs := #[.slice none 0 0, .bool false, .slice none 0 0]) (t := 27) (v := fun g => (.pointer (some ⟨g, 0, none⟩))) rfl rfl (by rfl) (fun w => by go_simp) fun gV1 wv hx0 hbox hge => ?_
 have HNV1LM := hid (show gV1 ≠ gLM by have := LM.out.lt; omega)
 have HGV1 := hid (show w.heap.size ≤ gV1 by have := (E.out.trans EY.out).size; omega)
 replace EY := hid (EY.out.trans hx0)
 replace LM := hid (LM.out.up hx0)
 replace S13 := hid (S13.out.up hx0)
 have V1 : Hid (Box wv gV1 #[.slice none 0 0, .bool false, .slice none 0 0] 27) := hid hbox
 clear hx0 hbox hge
 simp only [Act.put, pA, pB, pC]
 refine WE.store3 (g := gV1) (x := .slice (some ⟨gLM, 0, none⟩) 1 1) (y := .bool g12) (z := .slice A12 n12 c12) (t := 27) rfl rfl (by rfl) (fun w hb => ?_) V1.out (by rfl) fun ws hk hs => ?_
 ·obtain ⟨ce0, ce1, ce2⟩ := hb.c3; obtain ⟨f0, f1, f2⟩ := hb.f3; go_simp
 intro hbx
 replace S13 := hid (S13.out.kb V1.out (by rfl) hk hs)
 replace E := hid ((E.out.trans EY.out).keptG hk HGV1.out)
 replace LM := hid (LM.out.kept hk (by simpa using HNV1LM.out.symm))
 replace V1 := hid hbx
 clear hk hs hbx
 replace EY := hid (Ext.refl ws)
 refine WE.done ?_
 go_upto_region 2 with (fail)
 refine wp_region_S [(0, 0), (1, 1), (2, 0), (3, 0), (4, 0), (5, 1), (6, 4), (7, 0)] fun wd hb => ?_
 replace EY := hid (EY.out.trans hb)
 clear hb
 refine WE.qq 12 (.agg #[.slice (some ⟨gLM, 0, none⟩) 1 1, .bool g12, .slice A12 n12 c12]) rfl (fun w' hk => by obtain ⟨ce0, ce1, ce2⟩ := ((V1.out.up EY.out).up hk).c3; go_simp) ?_
 refine WE.cc 13 ((normB_to (WorthL.wide (S13.out.up EY.out).worth (U := 3) (by omega)) (by omega) (by decide) (s := [(0, 1)]) (μ := -1) (c := 1) (by decide +kernel) (by decide +kernel) (by decide)).mono ?_)
 rintro e wn ⟨v1, rfl, x1, hb⟩
 obtain ⟨A14, n14, c14, g14, B14, m14, d14, rfl⟩ := x1.shape
 refine ⟨_, rfl, hb, ?_⟩
 replace EY := hid (EY.out.trans hb)
 have S14 := hid x1
 clear hb x1
 refine WE.pp 11 (.tuple #[(.agg #[.slice A14 n14 c14, .bool g14, .slice B14 m14 d14]), (.int .i64 1)]) ?_
 refine WE.pp 14 (.agg #[.slice A14 n14 c14, .bool g14, .slice B14 m14 d14]) ?_
 refine WE.pp 15 (.int .i64 1) ?_
 simp only [Act.put, pA, pB, pC]
 refine WE.new (d := some 2) (cs := #[.slice none 0 0, .bool false, .slice none 0 0]) (t := 27) (v := fun g => (.pointer (some ⟨g, 0, none⟩))) rfl rfl (by rfl) (fun w => by go_simp) fun gV2 wv hx0 hbox hge => ?_
 have HNV2LM := hid (show gV2 ≠ gLM by have := (LM.out.up EY.out).lt; omega)
 have HNV2V1 := hid (show gV2 ≠ gV1 by have := (V1.out.up EY.out).lt; omega)
 have HGV2 := hid (show w.heap.size ≤ gV2 by have := (E.out.trans EY.out).size; omega)
 replace EY := hid (EY.out.trans hx0)
 replace S14 := hid (S14.out.up hx0)
 have V2 : Hid (Box wv gV2 #[.slice none 0 0, .bool false, .slice none 0 0] 27) := hid hbox
 clear hx0 hbox hge
 simp only [Act.put, pA, pB, pC]
 refine WE.store3 (g := gV2) (x := .slice A14 n14 c14) (y := .bool g14) (z := .slice B14 m14 d14) (t := 27) rfl rfl (by rfl) (fun w hb => ?_) V2.out (by rfl) fun ws hk hs => ?_
 ·obtain ⟨ce0, ce1, ce2⟩ := hb.c3; obtain ⟨f0, f1, f2⟩ := hb.f3; go_simp
 intro hbx
 replace S13 := hid ((S13.out.up EY.out).kb V2.out (by rfl) hk hs)
 replace S14 := hid (S14.out.kb V2.out (by rfl) hk hs)
 replace E := hid ((E.out.trans EY.out).keptG hk HGV2.out)
 replace LM := hid ((LM.out.up EY.out).kept hk (by simpa using HNV2LM.out.symm))
 replace V1 := hid ((V1.out.up EY.out).kept hk (by simpa using HNV2V1.out.symm))
 replace V2 := hid hbx
 clear hk hs hbx
 replace EY := hid (Ext.refl ws)
 refine WE.pp 3 (.int .i64 1) ?_
 simp only [Act.put, pA, pB, pC]
 refine WE.done ?_
 go_upto_region 3 with (fail)
 refine wp_region_S [(0, 1), (1, 0), (2, 1), (3, 0), (4, 0), (5, 0), (6, 1), (7, 4), (8, 0)] fun wd hb => ?_
 replace EY := hid (EY.out.trans hb)
 clear hb
 refine WE.cc 17 ((rOf_z (n := 1) (by decide) (by decide) _).mono ?_)
 rintro e wn ⟨v1, rfl, x1, hb⟩
 obtain ⟨g15, A15, n15, c15, rfl⟩ := x1.shape
 refine ⟨_, rfl, hb, ?_⟩
 replace EY := hid (EY.out.trans hb)
 have Q15 := hid x1
 clear hb x1
 refine WE.pp 18 (.agg #[.slice none 0 0, .bool g15, .slice A15 n15 c15]) ?_
 simp only [Act.put, pA, pB, pC]
 have S16 := hid (show IsL _ (.agg #[.slice none 0 0, .bool g15, .slice A15 n15 c15]) [] 1 3 from ⟨_, _, _, _, _, _, _, rfl, LTm.nil _ _, Q15.out.wide (by omega), trivial⟩)
 refine WE.cc 19 ((normB_to (WorthL.wide S16.out.worth (U := 3) (by omega)) (by omega) (by decide) (s := []) (μ := 1) (c := 3) rfl (M.nK_nil 1) (by decide)).mono ?_)
 rintro e wn ⟨v1, rfl, x1, hb⟩
 obtain ⟨A17, n17, c17, g17, B17, m17, d17, rfl⟩ := x1.shape
 refine ⟨_, rfl, hb, ?_⟩
 replace EY := hid (EY.out.trans hb)
 clear hb x1
 refine WE.pp 16 (.tuple #[(.agg #[.slice A17 n17 c17, .bool g17, .slice B17 m17 d17]), (.int .i64 3)]) ?_
 refine WE.pp 20 (.agg #[.slice A17 n17 c17, .bool g17, .slice B17 m17 d17]) ?_
 refine WE.pp 21 (.int .i64 3) ?_
 simp only [Act.put, pA, pB, pC]
 refine WE.new (d := some 4) (cs := #[.slice none 0 0, .bool false, .slice none 0 0]) (t := 27) (v := fun g => (.pointer (some ⟨g, 0, none⟩))) rfl rfl (by rfl) (fun w => by go_simp) fun gV4 wv hx0 hbox hge => ?_
 have HNV4LM := hid (show gV4 ≠ gLM by have := (LM.out.up EY.out).lt; omega)
 have HNV4V1 := hid (show gV4 ≠ gV1 by have := (V1.out.up EY.out).lt; omega)
 have HNV4V2 := hid (show gV4 ≠ gV2 by have := (V2.out.up EY.out).lt; omega)
 have HGV4 := hid (show w.heap.size ≤ gV4 by have := (E.out.trans EY.out).size; omega)
 replace EY := hid (EY.out.trans hx0)
 have V4 : Hid (Box wv gV4 #[.slice none 0 0, .bool false, .slice none 0 0] 27) := hid hbox
 clear hx0 hbox hge
 simp only [Act.put, pA, pB, pC]
 refine WE.store3 (g := gV4) (x := .slice A17 n17 c17) (y := .bool g17) (z := .slice B17 m17 d17) (t := 27) rfl rfl (by rfl) (fun w hb => ?_) V4.out (by rfl) fun ws hk hs => ?_
 ·obtain ⟨ce0, ce1, ce2⟩ := hb.c3; obtain ⟨f0, f1, f2⟩ := hb.f3; go_simp
 intro hbx
 replace S13 := hid ((S13.out.up EY.out).kb V4.out (by rfl) hk hs)
 replace S14 := hid ((S14.out.up EY.out).kb V4.out (by rfl) hk hs)
 replace E := hid ((E.out.trans EY.out).keptG hk HGV4.out)
 replace LM := hid ((LM.out.up EY.out).kept hk (by simpa using HNV4LM.out.symm))
 replace V1 := hid ((V1.out.up EY.out).kept hk (by simpa using HNV4V1.out.symm))
 replace V2 := hid ((V2.out.up EY.out).kept hk (by simpa using HNV4V2.out.symm))
 replace V4 := hid hbx
 clear hk hs hbx
 replace EY := hid (Ext.refl ws)
 refine WE.pp 5 (.int .i64 3) ?_
 simp only [Act.put, pA, pB, pC]
 refine WE.done ?_
 go_upto_region 4 with (fail)
 refine wp_region_X [] [(0, 0), (1, 0), (2, 0), (3, 0), (4, 0), (5, 0), (6, 0), (7, 0), (8, 1), (9, 0), (10, 6), (11, 2), (12, 0), (13, 1), (14, 0), (15, 0), (16, 0), (17, 1), (18, 1), (19, 1), (20, 0), (21, 0), (22, 0), (23, 1), (24, 1), (25, 1), (26, 0), (27, 0), (28, 0), (29, 0), (30, 1), (31, 1), (32, 1), (33, 1), (34, 0), (35, 0), (36, 1), (37, 0), (38, 0)] (fun _ => (0, #[])) rfl (by kernel_rfl) (by intro j hj; cases hj) (fun _ _ d _ _ => by cases d <;> exact Iff.rfl) fun wd hb => ?_
 replace EY := hid (EY.out.trans hb)
 clear hb
 have HL1LM := hid (LM.out.up EY.out).lt
 have HL1V1 := hid (V1.out.up EY.out).lt
 have HL1V2 := hid (V2.out.up EY.out).lt
 have HL1V4 := hid (V4.out.up EY.out).lt
 refine WX.pp 22 (.int .i64 1) ?_
 refine WX.pp 23 (.bool true) ?_
 refine WX.pp 24 (.bool true) ?_
 refine WX.pp 25 (.int .i64 3) ?_
 refine WX.pp 26 (.bool true) ?_
 refine WX.pp 27 (.bool true) ?_
 simp only [Act.put, pA, pB, pC]
 refine WX.pp 28 (.bool true) ?_
 refine WX.qq 29 (.agg #[.slice A14 n14 c14, .bool g14, .slice B14 m14 d14]) rfl (fun w' hk => by obtain ⟨ce0, ce1, ce2⟩ := ((V2.out.up EY.out).up hk).c3; go_simp) ?_
 refine WX.cc 30 ((rOf_z (n := 1) (by decide) (by decide) _).mono ?_)
 rintro e wn ⟨v1, rfl, x1, hb⟩
 obtain ⟨g18, A18, n18, c18, rfl⟩ := x1.shape
 refine ⟨_, rfl, hb, ?_⟩
 replace EY := hid (EY.out.trans hb)
 have Q18 := hid x1
 clear hb x1
 refine WX.pp 31 (.agg #[.int .i64 (0), .bool g18, .slice A18 n18 c18]) ?_
 simp only [Act.put, pA, pB, pC]
 refine WX.fork ?_ ?_
 ·refine WX.newR (d := some 32) (cs := #[.int .i64 (0), .bool g18, .slice A18 n18 c18]) (t := 56) (v := fun g => (.slice (some ⟨g, 0, none⟩) 1 1)) rfl rfl (by rfl) (fun w => by go_simp) fun gLN wv hx0 hbox hge => ?_
  replace EY := hid (EY.out.trans hx0)
  replace Q18 := hid (Q18.out.up hx0)
  have LN : Hid (Box wv gLN #[.int .i64 (0), .bool g18, .slice A18 n18 c18] 56) := hid hbox
  clear hx0 hbox hge
  refine WX.callR (d := some 33) rfl rfl (by rfl) (f := 51) (args := #[(.int .i64 (-1))]) (fun w => by go_simp) (fun wx hx0 => ?_)
  replace EY := hid (EY.out.trans hx0)
  replace LN := hid (LN.out.up hx0)
  replace Q18 := hid (Q18.out.up hx0)
  clear hx0
  refine (rOf_z (n := (-1)) (by decide) (by decide) _).mono ?_
  rintro e wn ⟨v1, rfl, x1, hb⟩
  obtain ⟨g19, A19, n19, c19, rfl⟩ := x1.shape
  refine ⟨_, rfl, hb, ?_⟩
  replace EY := hid (EY.out.trans hb)
  replace LN := hid (LN.out.up hb)
  replace Q18 := hid (Q18.out.up hb)
  have Q19 := hid x1
  clear hb x1
  refine WX.pp 34 (.agg #[.slice (some ⟨gLN, 0, none⟩) 1 1, .bool g19, .slice A19 n19 c19]) ?_
  simp only [Act.put, pA, pB, pC]
  have S20 := hid (show IsL _ (.agg #[.slice (some ⟨gLN, 0, none⟩) 1 1, .bool g19, .slice A19 n19 c19]) [(0, 1)] (-1) 3 from ⟨_, _, _, _, _, _, _, rfl, LTm.lit LN.out (Q18.out.wide (by omega)), Q19.out.wide (by omega), ⟨by decide, by decide, trivial⟩⟩)
  refine WX.cc 35 ((rEqualL_l (S14.out.up EY.out) S20.out (b := true) (by decide)).mono ?_)
  rintro e wn ⟨rfl, hb⟩
  refine ⟨_, rfl, hb, ?_⟩
  replace EY := hid (EY.out.trans hb)
  replace LN := hid (LN.out.up hb)
  replace Q18 := hid (Q18.out.up hb)
  replace Q19 := hid (Q19.out.up hb)
  replace S20 := hid (S20.out.up hb)
  clear hb
  refine WX.pp 36 (.bool true) ?_
  refine WX.pp 37 (.bool true) ?_
  refine WX.qq 38 (.agg #[.slice (some ⟨gLM, 0, none⟩) 1 1, .bool g12, .slice A12 n12 c12]) rfl (fun w' hk => by obtain ⟨ce0, ce1, ce2⟩ := ((V1.out.up EY.out).up hk).c3; go_simp) ?_
  refine WX.cc 39 ((rOf_z (n := 1) (by decide) (by decide) _).mono ?_)
  rintro e wn ⟨v1, rfl, x1, hb⟩
  obtain ⟨g21, A21, n21, c21, rfl⟩ := x1.shape
  refine ⟨_, rfl, hb, ?_⟩
  replace EY := hid (EY.out.trans hb)
  replace LN := hid (LN.out.up hb)
  replace Q18 := hid (Q18.out.up hb)
  replace Q19 := hid (Q19.out.up hb)
  replace S20 := hid (S20.out.up hb)
  have Q21 := hid x1
  clear hb x1
  simp only [Act.put, pA, pB, pC]
  refine WX.new (d := some 40) (cs := #[.bool g21, .slice A21 n21 c21]) (t := 25) (v := fun g => (.slice (some ⟨g, 0, none⟩) 1 1)) rfl rfl (by rfl) (fun w => by go_simp) fun gP1 wv hx0 hbox hge => ?_
  replace EY := hid (EY.out.trans hx0)
  replace LN := hid (LN.out.up hx0)
  replace Q18 := hid (Q18.out.up hx0)
  replace Q19 := hid (Q19.out.up hx0)
  replace S20 := hid (S20.out.up hx0)
  replace Q21 := hid (Q21.out.up hx0)
  have P1 : Hid (Box wv gP1 #[.bool g21, .slice A21 n21 c21] 25) := hid hbox
  clear hx0 hbox hge
  refine WX.cc 41 ((holdsB_l (WorthL.wide (S13.out.up EY.out).worth (U := 7) (by omega)) (zlist1 P1.out Q21.out.fields.2.1) (fun x hx => by have h3 := Q21.out.fields.2.2; simp at hx; subst hx; exact Nat.le_trans h3 (by decide)) (by omega) (by decide) (b := true) (by rw [M.at_one Q21.out.fields.1]; decide)).mono ?_)
  rintro e wn ⟨rfl, hb⟩
  refine ⟨_, rfl, hb, ?_⟩
  replace EY := hid (EY.out.trans hb)
  replace LN := hid (LN.out.up hb)
  replace P1 := hid (P1.out.up hb)
  replace Q18 := hid (Q18.out.up hb)
  replace Q19 := hid (Q19.out.up hb)
  replace S20 := hid (S20.out.up hb)
  replace Q21 := hid (Q21.out.up hb)
  clear hb
  refine WX.pp 42 (.bool true) ?_
  refine WX.pp 43 (.bool true) ?_
  refine WX.qq 44 (.agg #[.slice (some ⟨gLM, 0, none⟩) 1 1, .bool g12, .slice A12 n12 c12]) rfl (fun w' hk => by obtain ⟨ce0, ce1, ce2⟩ := ((V1.out.up EY.out).up hk).c3; go_simp) ?_
  refine WX.cc 45 ((rOf_z (n := 2) (by decide) (by decide) _).mono ?_)
  rintro e wn ⟨v1, rfl, x1, hb⟩
  obtain ⟨g22, A22, n22, c22, rfl⟩ := x1.shape
  refine ⟨_, rfl, hb, ?_⟩
  replace EY := hid (EY.out.trans hb)
  replace LN := hid (LN.out.up hb)
  replace P1 := hid (P1.out.up hb)
  replace Q18 := hid (Q18.out.up hb)
  replace Q19 := hid (Q19.out.up hb)
  replace S20 := hid (S20.out.up hb)
  replace Q21 := hid (Q21.out.up hb)
  have Q22 := hid x1
  clear hb x1
  simp only [Act.put, pA, pB, pC]
  refine WX.new (d := some 46) (cs := #[.bool g22, .slice A22 n22 c22]) (t := 25) (v := fun g => (.slice (some ⟨g, 0, none⟩) 1 1)) rfl rfl (by rfl) (fun w => by go_simp) fun gP2 wv hx0 hbox hge => ?_
  replace EY := hid (EY.out.trans hx0)
  replace LN := hid (LN.out.up hx0)
  replace P1 := hid (P1.out.up hx0)
  replace Q18 := hid (Q18.out.up hx0)
  replace Q19 := hid (Q19.out.up hx0)
  replace S20 := hid (S20.out.up hx0)
  replace Q21 := hid (Q21.out.up hx0)
  replace Q22 := hid (Q22.out.up hx0)
  have P2 : Hid (Box wv gP2 #[.bool g22, .slice A22 n22 c22] 25) := hid hbox
  clear hx0 hbox hge
  refine WX.cc 47 ((holdsB_l (WorthL.wide (S13.out.up EY.out).worth (U := 7) (by omega)) (zlist1 P2.out Q22.out.fields.2.1) (fun x hx => by have h3 := Q22.out.fields.2.2; simp at hx; subst hx; exact Nat.le_trans h3 (by decide)) (by omega) (by decide) (b := false) (by rw [M.at_one Q22.out.fields.1]; decide)).mono ?_)
  rintro e wn ⟨rfl, hb⟩
  refine ⟨_, rfl, hb, ?_⟩
  replace EY := hid (EY.out.trans hb)
  replace LN := hid (LN.out.up hb)
  replace P1 := hid (P1.out.up hb)
  replace P2 := hid (P2.out.up hb)
  replace Q18 := hid (Q18.out.up hb)
  replace Q19 := hid (Q19.out.up hb)
  replace S20 := hid (S20.out.up hb)
  replace Q21 := hid (Q21.out.up hb)
  replace Q22 := hid (Q22.out.up hb)
  clear hb
  refine WX.pp 48 (.bool true) ?_
  refine WX.pp 49 (.bool true) ?_
  refine WX.pp 50 (.bool true) ?_
  refine WX.qq 51 (.agg #[.slice (some ⟨gLM, 0, none⟩) 1 1, .bool g12, .slice A12 n12 c12]) rfl (fun w' hk => by obtain ⟨ce0, ce1, ce2⟩ := ((V1.out.up EY.out).up hk).c3; go_simp) ?_
  simp only [Act.put, pA, pB, pC]
  refine WX.cc 52 ((notB_to (WorthL.wide (S13.out.up EY.out).worth (U := 3) (by omega)) (by omega) (by decide) (s := [(0, -2)]) (μ := 4) (by decide) (by decide)).mono ?_)
  rintro e wn ⟨v1, rfl, x1, hb⟩
  obtain ⟨A23, n23, c23, g23, B23, m23, d23, rfl⟩ := x1.shape
  refine ⟨_, rfl, hb, ?_⟩
  replace EY := hid (EY.out.trans hb)
  replace LN := hid (LN.out.up hb)
  replace P1 := hid (P1.out.up hb)
  replace P2 := hid (P2.out.up hb)
  replace Q18 := hid (Q18.out.up hb)
  replace Q19 := hid (Q19.out.up hb)
  replace S20 := hid (S20.out.up hb)
  replace Q21 := hid (Q21.out.up hb)
  replace Q22 := hid (Q22.out.up hb)
  have S23 := hid x1
  clear hb x1
  refine WX.cc 53 ((rOf_z (n := 2) (by decide) (by decide) _).mono ?_)
  rintro e wn ⟨v1, rfl, x1, hb⟩
  obtain ⟨g24, A24, n24, c24, rfl⟩ := x1.shape
  refine ⟨_, rfl, hb, ?_⟩
  replace EY := hid (EY.out.trans hb)
  replace LN := hid (LN.out.up hb)
  replace P1 := hid (P1.out.up hb)
  replace P2 := hid (P2.out.up hb)
  replace Q18 := hid (Q18.out.up hb)
  replace Q19 := hid (Q19.out.up hb)
  replace S20 := hid (S20.out.up hb)
  replace Q21 := hid (Q21.out.up hb)
  replace Q22 := hid (Q22.out.up hb)
  replace S23 := hid (S23.out.up hb)
  have Q24 := hid x1
  clear hb x1
  simp only [Act.put, pA, pB, pC]
  refine WX.new (d := some 54) (cs := #[.bool g24, .slice A24 n24 c24]) (t := 25) (v := fun g => (.slice (some ⟨g, 0, none⟩) 1 1)) rfl rfl (by rfl) (fun w => by go_simp) fun gP3 wv hx0 hbox hge => ?_
  replace EY := hid (EY.out.trans hx0)
  replace LN := hid (LN.out.up hx0)
  replace P1 := hid (P1.out.up hx0)
  replace P2 := hid (P2.out.up hx0)
  replace Q18 := hid (Q18.out.up hx0)
  replace Q19 := hid (Q19.out.up hx0)
  replace S20 := hid (S20.out.up hx0)
  replace Q21 := hid (Q21.out.up hx0)
  replace Q22 := hid (Q22.out.up hx0)
  replace S23 := hid (S23.out.up hx0)
  replace Q24 := hid (Q24.out.up hx0)
  have P3 : Hid (Box wv gP3 #[.bool g24, .slice A24 n24 c24] 25) := hid hbox
  clear hx0 hbox hge
  refine WX.cc 55 ((holdsB_l (WorthL.wide S23.out.worth (U := 7) (by omega)) (zlist1 P3.out Q24.out.fields.2.1) (fun x hx => by have h3 := Q24.out.fields.2.2; simp at hx; subst hx; exact Nat.le_trans h3 (by decide)) (by omega) (by decide) (b := true) (by rw [M.at_one Q24.out.fields.1]; decide)).mono ?_)
  rintro e wn ⟨rfl, hb⟩
  refine ⟨_, rfl, hb, ?_⟩
  replace EY := hid (EY.out.trans hb)
  replace LN := hid (LN.out.up hb)
  replace P1 := hid (P1.out.up hb)
  replace P2 := hid (P2.out.up hb)
  replace P3 := hid (P3.out.up hb)
  replace Q18 := hid (Q18.out.up hb)
  replace Q19 := hid (Q19.out.up hb)
  replace S20 := hid (S20.out.up hb)
  replace Q21 := hid (Q21.out.up hb)
  replace Q22 := hid (Q22.out.up hb)
  replace S23 := hid (S23.out.up hb)
  replace Q24 := hid (Q24.out.up hb)
  clear hb
  refine WX.pp 56 (.bool true) ?_
  refine WX.pp 57 (.bool true) ?_
  refine WX.cc 58 ((allB_l (WList.nil _ 0 (Nat.zero_le _) none 0) (ZList.nil _ 0 (Nat.zero_le _) none) (fun x hx => by simp at hx) (by omega) (fun x hx => by simp at hx) (b := true) rfl).mono ?_)
  rintro e wn ⟨rfl, hb⟩
  refine ⟨_, rfl, hb, ?_⟩
  replace EY := hid (EY.out.trans hb)
  replace LN := hid (LN.out.up hb)
  replace P1 := hid (P1.out.up hb)
  replace P2 := hid (P2.out.up hb)
  replace P3 := hid (P3.out.up hb)
  replace Q18 := hid (Q18.out.up hb)
  replace Q19 := hid (Q19.out.up hb)
  replace S20 := hid (S20.out.up hb)
  replace Q21 := hid (Q21.out.up hb)
  replace Q22 := hid (Q22.out.up hb)
  replace S23 := hid (S23.out.up hb)
  replace Q24 := hid (Q24.out.up hb)
  clear hb
  refine WX.pp 59 (.bool true) ?_
  simp only [Act.put, pA, pB, pC]
  refine WX.pp 0 (.bool true) ?_
  simp only [Act.put, pA, pB, pC]
  refine WX.done ?_
  repeat go_step
  go_ret
  exact ⟨rfl, (E.out.trans EY.out)⟩
 ·refine WX.callR (d := some 33) rfl rfl (by rfl) (f := 51) (args := #[(.int .i64 (-1))]) (fun w => by go_simp) (fun wx hx0 => ?_)
  replace EY := hid (EY.out.trans hx0)
  replace Q18 := hid (Q18.out.up hx0)
  clear hx0
  refine (rOf_z (n := (-1)) (by decide) (by decide) _).mono ?_
  rintro e wn ⟨v1, rfl, x1, hb⟩
  obtain ⟨g19, A19, n19, c19, rfl⟩ := x1.shape
  refine ⟨_, rfl, hb, ?_⟩
  replace EY := hid (EY.out.trans hb)
  replace Q18 := hid (Q18.out.up hb)
  have Q19 := hid x1
  clear hb x1
  refine WX.newR (d := some 32) (cs := #[.int .i64 (0), .bool g18, .slice A18 n18 c18]) (t := 56) (v := fun g => (.slice (some ⟨g, 0, none⟩) 1 1)) rfl rfl (by rfl) (fun w => by go_simp) fun gLN wv hx0 hbox hge => ?_
  replace EY := hid (EY.out.trans hx0)
  replace Q18 := hid (Q18.out.up hx0)
  replace Q19 := hid (Q19.out.up hx0)
  have LN : Hid (Box wv gLN #[.int .i64 (0), .bool g18, .slice A18 n18 c18] 56) := hid hbox
  clear hx0 hbox hge
  refine WX.pp 34 (.agg #[.slice (some ⟨gLN, 0, none⟩) 1 1, .bool g19, .slice A19 n19 c19]) ?_
  simp only [Act.put, pA, pB, pC]
  have S20 := hid (show IsL _ (.agg #[.slice (some ⟨gLN, 0, none⟩) 1 1, .bool g19, .slice A19 n19 c19]) [(0, 1)] (-1) 3 from ⟨_, _, _, _, _, _, _, rfl, LTm.lit LN.out (Q18.out.wide (by omega)), Q19.out.wide (by omega), ⟨by decide, by decide, trivial⟩⟩)
  refine WX.cc 35 ((rEqualL_l (S14.out.up EY.out) S20.out (b := true) (by decide)).mono ?_)
  rintro e wn ⟨rfl, hb⟩
  refine ⟨_, rfl, hb, ?_⟩
  replace EY := hid (EY.out.trans hb)
  clear hb
  refine WX.pp 36 (.bool true) ?_
  refine WX.pp 37 (.bool true) ?_
  refine WX.qq 38 (.agg #[.slice (some ⟨gLM, 0, none⟩) 1 1, .bool g12, .slice A12 n12 c12]) rfl (fun w' hk => by obtain ⟨ce0, ce1, ce2⟩ := ((V1.out.up EY.out).up hk).c3; go_simp) ?_
  refine WX.cc 39 ((rOf_z (n := 1) (by decide) (by decide) _).mono ?_)
  rintro e wn ⟨v1, rfl, x1, hb⟩
  obtain ⟨g21, A21, n21, c21, rfl⟩ := x1.shape
  refine ⟨_, rfl, hb, ?_⟩
  replace EY := hid (EY.out.trans hb)
  have Q21 := hid x1
  clear hb x1
  simp only [Act.put, pA, pB, pC]
  refine WX.new (d := some 40) (cs := #[.bool g21, .slice A21 n21 c21]) (t := 25) (v := fun g => (.slice (some ⟨g, 0, none⟩) 1 1)) rfl rfl (by rfl) (fun w => by go_simp) fun gP1 wv hx0 hbox hge => ?_
  replace EY := hid (EY.out.trans hx0)
  replace Q21 := hid (Q21.out.up hx0)
  have P1 : Hid (Box wv gP1 #[.bool g21, .slice A21 n21 c21] 25) := hid hbox
  clear hx0 hbox hge
  refine WX.cc 41 ((holdsB_l (WorthL.wide (S13.out.up EY.out).worth (U := 7) (by omega)) (zlist1 P1.out Q21.out.fields.2.1) (fun x hx => by have h3 := Q21.out.fields.2.2; simp at hx; subst hx; exact Nat.le_trans h3 (by decide)) (by omega) (by decide) (b := true) (by rw [M.at_one Q21.out.fields.1]; decide)).mono ?_)
  rintro e wn ⟨rfl, hb⟩
  refine ⟨_, rfl, hb, ?_⟩
  replace EY := hid (EY.out.trans hb)
  clear hb
  refine WX.pp 42 (.bool true) ?_
  refine WX.pp 43 (.bool true) ?_
  refine WX.qq 44 (.agg #[.slice (some ⟨gLM, 0, none⟩) 1 1, .bool g12, .slice A12 n12 c12]) rfl (fun w' hk => by obtain ⟨ce0, ce1, ce2⟩ := ((V1.out.up EY.out).up hk).c3; go_simp) ?_
  refine WX.cc 45 ((rOf_z (n := 2) (by decide) (by decide) _).mono ?_)
  rintro e wn ⟨v1, rfl, x1, hb⟩
  obtain ⟨g22, A22, n22, c22, rfl⟩ := x1.shape
  refine ⟨_, rfl, hb, ?_⟩
  replace EY := hid (EY.out.trans hb)
  have Q22 := hid x1
  clear hb x1
  simp only [Act.put, pA, pB, pC]
  refine WX.new (d := some 46) (cs := #[.bool g22, .slice A22 n22 c22]) (t := 25) (v := fun g => (.slice (some ⟨g, 0, none⟩) 1 1)) rfl rfl (by rfl) (fun w => by go_simp) fun gP2 wv hx0 hbox hge => ?_
  replace EY := hid (EY.out.trans hx0)
  replace Q22 := hid (Q22.out.up hx0)
  have P2 : Hid (Box wv gP2 #[.bool g22, .slice A22 n22 c22] 25) := hid hbox
  clear hx0 hbox hge
  refine WX.cc 47 ((holdsB_l (WorthL.wide (S13.out.up EY.out).worth (U := 7) (by omega)) (zlist1 P2.out Q22.out.fields.2.1) (fun x hx => by have h3 := Q22.out.fields.2.2; simp at hx; subst hx; exact Nat.le_trans h3 (by decide)) (by omega) (by decide) (b := false) (by rw [M.at_one Q22.out.fields.1]; decide)).mono ?_)
  rintro e wn ⟨rfl, hb⟩
  refine ⟨_, rfl, hb, ?_⟩
  replace EY := hid (EY.out.trans hb)
  clear hb
  refine WX.pp 48 (.bool true) ?_
  refine WX.pp 49 (.bool true) ?_
  refine WX.pp 50 (.bool true) ?_
  refine WX.qq 51 (.agg #[.slice (some ⟨gLM, 0, none⟩) 1 1, .bool g12, .slice A12 n12 c12]) rfl (fun w' hk => by obtain ⟨ce0, ce1, ce2⟩ := ((V1.out.up EY.out).up hk).c3; go_simp) ?_
  simp only [Act.put, pA, pB, pC]
  refine WX.cc 52 ((notB_to (WorthL.wide (S13.out.up EY.out).worth (U := 3) (by omega)) (by omega) (by decide) (s := [(0, -2)]) (μ := 4) (by decide) (by decide)).mono ?_)
  rintro e wn ⟨v1, rfl, x1, hb⟩
  obtain ⟨A23, n23, c23, g23, B23, m23, d23, rfl⟩ := x1.shape
  refine ⟨_, rfl, hb, ?_⟩
  replace EY := hid (EY.out.trans hb)
  have S23 := hid x1
  clear hb x1
  refine WX.cc 53 ((rOf_z (n := 2) (by decide) (by decide) _).mono ?_)
  rintro e wn ⟨v1, rfl, x1, hb⟩
  obtain ⟨g24, A24, n24, c24, rfl⟩ := x1.shape
  refine ⟨_, rfl, hb, ?_⟩
  replace EY := hid (EY.out.trans hb)
  replace S23 := hid (S23.out.up hb)
  have Q24 := hid x1
  clear hb x1
  simp only [Act.put, pA, pB, pC]
  refine WX.new (d := some 54) (cs := #[.bool g24, .slice A24 n24 c24]) (t := 25) (v := fun g => (.slice (some ⟨g, 0, none⟩) 1 1)) rfl rfl (by rfl) (fun w => by go_simp) fun gP3 wv hx0 hbox hge => ?_
  replace EY := hid (EY.out.trans hx0)
  replace S23 := hid (S23.out.up hx0)
  replace Q24 := hid (Q24.out.up hx0)
  have P3 : Hid (Box wv gP3 #[.bool g24, .slice A24 n24 c24] 25) := hid hbox
  clear hx0 hbox hge
  refine WX.cc 55 ((holdsB_l (WorthL.wide S23.out.worth (U := 7) (by omega)) (zlist1 P3.out Q24.out.fields.2.1) (fun x hx => by have h3 := Q24.out.fields.2.2; simp at hx; subst hx; exact Nat.le_trans h3 (by decide)) (by omega) (by decide) (b := true) (by rw [M.at_one Q24.out.fields.1]; decide)).mono ?_)
  rintro e wn ⟨rfl, hb⟩
  refine ⟨_, rfl, hb, ?_⟩
  replace EY := hid (EY.out.trans hb)
  clear hb
  refine WX.pp 56 (.bool true) ?_
  refine WX.pp 57 (.bool true) ?_
  refine WX.cc 58 ((allB_l (WList.nil _ 0 (Nat.zero_le _) none 0) (ZList.nil _ 0 (Nat.zero_le _) none) (fun x hx => by simp at hx) (by omega) (fun x hx => by simp at hx) (b := true) rfl).mono ?_)
  rintro e wn ⟨rfl, hb⟩
  refine ⟨_, rfl, hb, ?_⟩
  replace EY := hid (EY.out.trans hb)
  clear hb
  refine WX.pp 59 (.bool true) ?_
  simp only [Act.put, pA, pB, pC]
  refine WX.pp 0 (.bool true) ?_
  simp only [Act.put, pA, pB, pC]
  refine WX.done ?_
  repeat go_step
  go_ret
  exact ⟨rfl, (E.out.trans EY.out)⟩

end Go.Proofs.YtklmnmkmpkobhaaGreat
