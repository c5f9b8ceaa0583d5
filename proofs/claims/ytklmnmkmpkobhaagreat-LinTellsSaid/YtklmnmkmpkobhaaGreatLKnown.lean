/-
  What each law of layer 6 asks first: few terms, few points, what is known.
-/
import Derived.Test.YtklmnmkmpkobhaaGreatLOpen
import Derived.Test.YtklmnmkmpkobhaaGreatLFaceD
import Derived.Test.YtklmnmkmpkobhaaGreatLFaceV
import Derived.Test.YtklmnmkmpkobhaaGreatLFaceP
import Derived.Test.YtklmnmkmpkobhaaGreatLRefE
namespace Go.Proofs.YtklmnmkmpkobhaaGreat
open Go.RowKit
set_option linter.unusedSimpArgs false
set_option linter.unusedVariables false

set_option maxHeartbeats 4000000 in
theorem fewL_any {w : World} {g1 : Bool} {A1 B1 : Option Addr} {n1 c1 m1 d1 : Nat} {ls : List (Int × Bool × List Nat)} {l1 : List Nat} (h1 : LList w (.slice A1 n1 c1) ls) (h2 : Num w w.heap.size (.slice B1 m1 d1) l1) {b : Bool} (hb : M.fewL ls l1 = b) :
 Calls Tryz.prog 10 #[.agg #[.slice A1 n1 c1, .bool g1, .slice B1 m1 d1]] w (GivesB w b) := by
 have HL := hid h1
 have HC := hid h1.count
 have HB := hid hb
 have hb9 : n1 ≤ 9223372036854775807 := h1.count.2.2
 have HK := hid h2.cnt
 have hm9 : m1 ≤ 9223372036854775807 := h2.cnt.2
 clear h1 h2 hb
 go_enter Tryz.func10, Tryz.ntmps10
 go_upto_region 1 with (fail)
 obtain ⟨E, BX0⟩ := open1 w #[.slice A1 n1 c1, .bool g1, .slice B1 m1 d1] 27
 refine wp_region_S [(0, 0)] fun wd hb => ?_
 replace E := hid (E.out.trans hb)
 replace BX0 := hid (BX0.out.up hb)
 clear hb
 have EY := hid (Ext.refl wd)
 refine WE.pp 3 (.int .i64 (0)) ?_
 simp only [Act.put, pA, pB, pC]
 refine WE.done ?_
 go_wp2
 go_loopw [3] (fun x3 wr => ∃ (k : Nat), x3 = .int .i64 (k : Int) ∧ k ≤ n1 ∧ (∀ x ∈ ls.take k, (decide (x.2.2.length ≤ 4) && decide (x.1 ≤ 100)) = true) ∧ Ext w wr ∧ Box wr w.heap.size #[.slice A1 n1 c1, .bool g1, .slice B1 m1 d1] 27) (fun x3 _ => n1 - (intOf x3).toNat)
 case atStart => exact ⟨0, rfl, Nat.zero_le _, fun x hx => by simp at hx, (E.out.trans EY.out), (BX0.out.up EY.out)⟩
 case round =>
  clear E EY BX0
  obtain ⟨k, rfl, hr0, hr1, hr2, hr3⟩ := hrel
  have HOK := hid hr1
  have E := hid hr2
  have BX0 := hid hr3
  clear hr1 hr2 hr3
  have EY := hid (Ext.refl wr)
  have hk := hr0
  by_cases hlt : k < n1
  ·have hlt' : decide ((k : Int) < (n1 : Int)) = true := decide_eq_true (by omega)
   obtain ⟨x, hx⟩ : ∃ x, ls[k]? = some x := ⟨_, List.getElem?_eq_getElem (by rw [← HC.out.1]; exact hlt)⟩
   obtain ⟨ad, Ae, ne, ce, rfl, ka, kb, kc, kn⟩ := HL.out.get hx
   obtain ⟨xv, ge, le⟩ := x
   have HX := hid hx
   have KA := hid ka
   have KC := hid kc
   have HNE := hid (show ne = le.length ∧ ne ≤ 9223372036854775807 from kn.cnt)
   clear hx ka kb kc kn
   go_upto_region 2 with (fail)
   refine wp_region_S [(0, 0), (1, 0), (2, 0), (3, 0), (4, 0)] fun wd hb => ?_
   replace EY := hid (EY.out.trans hb)
   clear hb
   refine WE.pp 4 (.int .i64 (k : Int)) ?_
   refine WE.pp 5 (.pointer (some ⟨(w.heap.size), 0, none⟩)) ?_
   refine WE.qq 6 (.slice (some ad) n1 c1) rfl (fun w' hk => by have ce0 := ((BX0.out.up EY.out).up hk).k 0; go_simp) ?_
   refine WE.pp 7 (.int .i64 (n1 : Int)) ?_
   refine WE.pp 8 (.bool true) ?_
   simp only [Act.put, pA, pB, pC]
   refine WE.done ?_
   by_cases hg : 4 < ne
   ·have hgd : decide ((4 : Int) < (ne : Int)) = true := decide_eq_true (by omega)
    go_upto_region 4 with (fail)
    refine wp_region_S [(0, 0), (1, 0), (2, 0), (3, 0), (4, 0), (5, 0), (6, 0), (7, 0), (8, 0), (9, 0), (10, 0), (11, 0), (12, 0), (13, 0), (14, 0), (15, 0), (16, 0), (17, 0)] fun wd hb => ?_
    replace EY := hid (EY.out.trans hb)
    clear hb
    refine WE.pp 11 (.pointer (some ⟨(w.heap.size), 0, none⟩)) ?_
    refine WE.qq 12 (.slice (some ad) n1 c1) rfl (fun w' hk => by have ce0 := ((BX0.out.up EY.out).up hk).k 0; go_simp) ?_
    refine WE.pp 13 (.int .i64 (k : Int)) ?_
    refine WE.pp 14 (.pointer (some (ad.add (k * 3)))) ?_
    refine WE.pp 15 (.pointer (some ⟨(ad.add (k * 3)).block, (ad.add (k * 3)).off + 1, none⟩)) ?_
    refine WE.pp 16 (.pointer (some ⟨(ad.add (k * 3)).block, (ad.add (k * 3)).off + 2, none⟩)) ?_
    simp only [Act.put, pA, pB, pC]
    refine WE.qq 17 (.slice Ae ne ce) rfl (fun w' hk => by have ce2 : w'.cell? ⟨(ad.add (k * 3)).block, (ad.add (k * 3)).off + 2, none⟩ = some (.slice Ae ne ce) := (KC.out.up (E.out.trans EY.out)).up hk; go_simp) ?_
    refine WE.pp 18 (.int .i64 (ne : Int)) ?_
    refine WE.pp 19 (.bool true) ?_
    refine WE.pp 20 (.bool true) ?_
    refine WE.ss 21 ?_
    refine WE.ss 22 ?_
    simp only [Act.put, pA, pB, pC]
    refine WE.ss 23 ?_
    refine WE.ss 24 ?_
    refine WE.ss 25 ?_
    refine WE.ss 26 ?_
    refine WE.ss 27 ?_
    refine WE.pp 28 (.bool true) ?_
    simp only [Act.put, pA, pB, pC]
    refine WE.done ?_
    go_upto_region 5 with (fail)
    refine wp_region_S [(0, 0)] fun wd hb => ?_
    replace EY := hid (EY.out.trans hb)
    clear hb
    refine WE.pp 2 (.bool false) ?_
    simp only [Act.put, pA, pB, pC]
    refine WE.done ?_
    repeat go_step
    go_ret
    exact ⟨by rw [← HB.out, M.fewL_no (List.mem_of_getElem? HX.out) (by rw [decide_eq_false (show ¬ le.length ≤ 4 by have := HNE.out.1; omega)]; rfl)]; rfl, (E.out.trans EY.out)⟩
   have hgd : decide ((4 : Int) < (ne : Int)) = false := decide_eq_false (by omega)
   by_cases hv : 100 < xv
   ·have hvd : decide ((100 : Int) < xv) = true := decide_eq_true hv
    go_upto_region 4 with (fail)
    refine wp_region_S [(0, 0), (1, 0), (2, 0), (3, 0), (4, 0), (5, 0), (6, 0), (7, 0), (8, 0), (9, 0), (10, 0), (11, 0), (12, 0), (13, 0), (14, 0), (15, 0), (16, 0), (17, 0)] fun wd hb => ?_
    replace EY := hid (EY.out.trans hb)
    clear hb
    refine WE.pp 11 (.pointer (some ⟨(w.heap.size), 0, none⟩)) ?_
    refine WE.qq 12 (.slice (some ad) n1 c1) rfl (fun w' hk => by have ce0 := ((BX0.out.up EY.out).up hk).k 0; go_simp) ?_
    refine WE.pp 13 (.int .i64 (k : Int)) ?_
    refine WE.pp 14 (.pointer (some (ad.add (k * 3)))) ?_
    refine WE.pp 15 (.pointer (some ⟨(ad.add (k * 3)).block, (ad.add (k * 3)).off + 1, none⟩)) ?_
    refine WE.pp 16 (.pointer (some ⟨(ad.add (k * 3)).block, (ad.add (k * 3)).off + 2, none⟩)) ?_
    simp only [Act.put, pA, pB, pC]
    refine WE.qq 17 (.slice Ae ne ce) rfl (fun w' hk => by have ce2 : w'.cell? ⟨(ad.add (k * 3)).block, (ad.add (k * 3)).off + 2, none⟩ = some (.slice Ae ne ce) := (KC.out.up (E.out.trans EY.out)).up hk; go_simp) ?_
    refine WE.pp 18 (.int .i64 (ne : Int)) ?_
    refine WE.pp 19 (.bool false) ?_
    refine WE.pp 20 (.bool false) ?_
    refine WE.pp 21 (.pointer (some ⟨(w.heap.size), 0, none⟩)) ?_
    refine WE.qq 22 (.slice (some ad) n1 c1) rfl (fun w' hk => by have ce0 := ((BX0.out.up EY.out).up hk).k 0; go_simp) ?_
    simp only [Act.put, pA, pB, pC]
    refine WE.pp 23 (.int .i64 (k : Int)) ?_
    refine WE.pp 24 (.pointer (some (ad.add (k * 3)))) ?_
    refine WE.pp 25 (.pointer (some (ad.add (k * 3)))) ?_
    refine WE.qq 26 (.int .i64 xv) rfl (fun w' hk => by have ce0 : w'.cell? (ad.add (k * 3)) = some (.int .i64 xv) := (KA.out.up (E.out.trans EY.out)).up hk; go_simp) ?_
    refine WE.pp 27 (.bool true) ?_
    refine WE.pp 28 (.bool true) ?_
    simp only [Act.put, pA, pB, pC]
    refine WE.done ?_
    go_upto_region 5 with (fail)
    refine wp_region_S [(0, 0)] fun wd hb => ?_
    replace EY := hid (EY.out.trans hb)
    clear hb
    refine WE.pp 2 (.bool false) ?_
    simp only [Act.put, pA, pB, pC]
    refine WE.done ?_
    repeat go_step
    go_ret
    exact ⟨by rw [← HB.out, M.fewL_no (List.mem_of_getElem? HX.out) (by rw [Bool.and_eq_false_iff]; exact .inr (decide_eq_false (show ¬ xv ≤ 100 by omega)))]; rfl, (E.out.trans EY.out)⟩
   have hvd : decide ((100 : Int) < xv) = false := decide_eq_false hv
   go_upto_region 4 with (fail)
   refine wp_region_S [(0, 0), (1, 0), (2, 0), (3, 0), (4, 0), (5, 0), (6, 0), (7, 0), (8, 0), (9, 0), (10, 0), (11, 0), (12, 0), (13, 0), (14, 0), (15, 0), (16, 0), (17, 0)] fun wd hb => ?_
   replace EY := hid (EY.out.trans hb)
   clear hb
   refine WE.pp 11 (.pointer (some ⟨(w.heap.size), 0, none⟩)) ?_
   refine WE.qq 12 (.slice (some ad) n1 c1) rfl (fun w' hk => by have ce0 := ((BX0.out.up EY.out).up hk).k 0; go_simp) ?_
   refine WE.pp 13 (.int .i64 (k : Int)) ?_
   refine WE.pp 14 (.pointer (some (ad.add (k * 3)))) ?_
   refine WE.pp 15 (.pointer (some ⟨(ad.add (k * 3)).block, (ad.add (k * 3)).off + 1, none⟩)) ?_
   refine WE.pp 16 (.pointer (some ⟨(ad.add (k * 3)).block, (ad.add (k * 3)).off + 2, none⟩)) ?_
   simp only [Act.put, pA, pB, pC]
   refine WE.qq 17 (.slice Ae ne ce) rfl (fun w' hk => by have ce2 : w'.cell? ⟨(ad.add (k * 3)).block, (ad.add (k * 3)).off + 2, none⟩ = some (.slice Ae ne ce) := (KC.out.up (E.out.trans EY.out)).up hk; go_simp) ?_
   refine WE.pp 18 (.int .i64 (ne : Int)) ?_
   refine WE.pp 19 (.bool false) ?_
   refine WE.pp 20 (.bool false) ?_
   refine WE.pp 21 (.pointer (some ⟨(w.heap.size), 0, none⟩)) ?_
   refine WE.qq 22 (.slice (some ad) n1 c1) rfl (fun w' hk => by have ce0 := ((BX0.out.up EY.out).up hk).k 0; go_simp) ?_
   simp only [Act.put, pA, pB, pC]
   refine WE.pp 23 (.int .i64 (k : Int)) ?_
   refine WE.pp 24 (.pointer (some (ad.add (k * 3)))) ?_
   refine WE.pp 25 (.pointer (some (ad.add (k * 3)))) ?_
   refine WE.qq 26 (.int .i64 xv) rfl (fun w' hk => by have ce0 : w'.cell? (ad.add (k * 3)) = some (.int .i64 xv) := (KA.out.up (E.out.trans EY.out)).up hk; go_simp) ?_
   refine WE.pp 27 (.bool false) ?_
   refine WE.pp 28 (.bool false) ?_
   simp only [Act.put, pA, pB, pC]
   refine WE.done ?_
   go_wp2
   go_roundw
   case rel => exact ⟨k + 1, by go_num, by omega, fun y hy => by rw [List.take_add_one, HX.out, Option.toList_some] at hy; rcases List.mem_append.1 hy with hy | hy; exact HOK.out y hy; simp only [List.mem_singleton] at hy; subst hy; show (decide (le.length ≤ 4) && decide (xv ≤ 100)) = true; rw [decide_eq_true (show le.length ≤ 4 by have := HNE.out.1; omega), decide_eq_true (show xv ≤ 100 by omega)]; rfl, (E.out.trans EY.out), (BX0.out.up EY.out)⟩
   case measure => simp [intOf]; all_goals omega
  ·obtain rfl : k = n1 := by omega
   have hlt' : decide ((k : Int) < (k : Int)) = false := by simp
   go_upto_region 2 with (fail)
   refine wp_region_S [(0, 0), (1, 0), (2, 0), (3, 0), (4, 0)] fun wd hb => ?_
   replace EY := hid (EY.out.trans hb)
   clear hb
   refine WE.pp 4 (.int .i64 (k : Int)) ?_
   refine WE.pp 5 (.pointer (some ⟨(w.heap.size), 0, none⟩)) ?_
   refine WE.qq 6 (.slice A1 k c1) rfl (fun w' hk => by have ce0 := ((BX0.out.up EY.out).up hk).k 0; go_simp) ?_
   refine WE.pp 7 (.int .i64 (k : Int)) ?_
   refine WE.pp 8 (.bool false) ?_
   simp only [Act.put, pA, pB, pC]
   refine WE.done ?_
   have HALL := hid (show ∀ x ∈ ls, (decide (x.2.2.length ≤ 4) && decide (x.1 ≤ 100)) = true from fun x hx => HOK.out x (by rw [HC.out.1, List.take_length]; exact hx))
   have HFEW := hid (show (decide (ls.length ≤ 8) && decide (l1.length ≤ 4)) = b by rw [← HB.out]; unfold M.fewL; rw [List.all_eq_true.2 HALL.out, Bool.true_and])
   by_cases h8 : k ≤ 8
   ·have h8d : decide ((k : Int) ≤ 8) = true := decide_eq_true (by omega)
    obtain ⟨b4, hb4⟩ : ∃ b : Bool, decide ((m1 : Int) ≤ 4) = b := ⟨_, rfl⟩
    go_upto_region 6 with (fail)
    refine wp_region_S [(0, 0), (1, 0), (2, 0), (3, 0), (4, 0), (5, 0), (6, 0), (7, 0), (8, 0), (9, 0), (10, 0), (11, 0)] fun wd hb => ?_
    replace EY := hid (EY.out.trans hb)
    clear hb
    refine WE.pp 29 (.pointer (some ⟨(w.heap.size), 0, none⟩)) ?_
    refine WE.qq 30 (.slice A1 k c1) rfl (fun w' hk => by have ce0 := ((BX0.out.up EY.out).up hk).k 0; go_simp) ?_
    refine WE.pp 31 (.int .i64 (k : Int)) ?_
    refine WE.pp 32 (.bool true) ?_
    refine WE.pp 33 (.bool true) ?_
    refine WE.pp 34 (.pointer (some ⟨(w.heap.size), 1, none⟩)) ?_
    simp only [Act.put, pA, pB, pC]
    refine WE.pp 35 (.pointer (some ⟨(w.heap.size), 2, none⟩)) ?_
    refine WE.qq 36 (.slice B1 m1 d1) rfl (fun w' hk => by have ce2 := ((BX0.out.up EY.out).up hk).k 2; go_simp) ?_
    refine WE.pp 37 (.int .i64 (m1 : Int)) ?_
    refine WE.pp 38 (.bool b4) ?_
    refine WE.pp 39 (.bool b4) ?_
    refine WE.pp 2 (.bool b4) ?_
    simp only [Act.put, pA, pB, pC]
    refine WE.done ?_
    repeat go_step
    go_ret
    have hbb : b = b4 := by rw [← HFEW.out, decide_eq_true (by have := HC.out.1; omega), Bool.true_and, ← hb4, Bool.eq_iff_iff, decide_eq_true_iff, decide_eq_true_iff]; have := HK.out.1; omega
    exact ⟨by rw [hbb]; rfl, (E.out.trans EY.out)⟩
   ·have h8d : decide ((k : Int) ≤ 8) = false := decide_eq_false (by omega)
    go_upto_region 6 with (fail)
    refine wp_region_S [(0, 0), (1, 0), (2, 0), (3, 0), (4, 0), (5, 0), (6, 0), (7, 0), (8, 0), (9, 0), (10, 0), (11, 0)] fun wd hb => ?_
    replace EY := hid (EY.out.trans hb)
    clear hb
    refine WE.pp 29 (.pointer (some ⟨(w.heap.size), 0, none⟩)) ?_
    refine WE.qq 30 (.slice A1 k c1) rfl (fun w' hk => by have ce0 := ((BX0.out.up EY.out).up hk).k 0; go_simp) ?_
    refine WE.pp 31 (.int .i64 (k : Int)) ?_
    refine WE.pp 32 (.bool false) ?_
    refine WE.pp 33 (.bool false) ?_
    refine WE.ss 34 ?_
    simp only [Act.put, pA, pB, pC]
    refine WE.ss 35 ?_
    refine WE.ss 36 ?_
    refine WE.ss 37 ?_
    refine WE.ss 38 ?_
    refine WE.pp 39 (.bool false) ?_
    refine WE.pp 2 (.bool false) ?_
    simp only [Act.put, pA, pB, pC]
    refine WE.done ?_
    repeat go_step
    go_ret
    exact ⟨by rw [← HFEW.out, decide_eq_false (by have := HC.out.1; omega)]; rfl, (E.out.trans EY.out)⟩

set_option maxHeartbeats 4000000 in
theorem fewP_any {w : World} {A1 : Option Addr} {n1 c1 : Nat} {xs : List (Bool × List Nat)} (h1 : ZList w (.slice A1 n1 c1) xs) {b : Bool} (hb : M.fewP xs = b) :
 Calls Tryz.prog 11 #[.slice A1 n1 c1] w (GivesB w b) := by
 have HL := hid h1
 have HC := hid h1.count
 have HB := hid hb
 have hb9 : n1 ≤ 9223372036854775807 := h1.count.2.2
 clear h1 hb
 go_enter Tryz.func11, Tryz.ntmps11
 go_upto_region 1 with (fail)
 have E := hid (Ext.refl w)
 refine wp_region_S [(0, 0)] fun wd hb => ?_
 replace E := hid (E.out.trans hb)
 clear hb
 have EY := hid (Ext.refl wd)
 refine WE.pp 3 (.int .i64 (0)) ?_
 simp only [Act.put, pA, pB, pC]
 refine WE.done ?_
 go_wp2
 go_loopw [3] (fun x3 wr => ∃ (k : Nat), x3 = .int .i64 (k : Int) ∧ k ≤ n1 ∧ (∀ x ∈ xs.take k, decide (x.2.length ≤ 4) = true) ∧ Ext w wr) (fun x3 _ => n1 - (intOf x3).toNat)
 case atStart => exact ⟨0, rfl, Nat.zero_le _, fun x hx => by simp at hx, (E.out.trans EY.out)⟩
 case round =>
  clear E EY
  obtain ⟨k, rfl, hr0, hr1, hr2⟩ := hrel
  have HOK := hid hr1
  have E := hid hr2
  clear hr1 hr2
  have EY := hid (Ext.refl wr)
  have hk := hr0
  by_cases hlt : k < n1
  ·have hlt' : decide ((k : Int) < (n1 : Int)) = true := decide_eq_true (by omega)
   obtain ⟨x, hx⟩ : ∃ x, xs[k]? = some x := ⟨_, List.getElem?_eq_getElem (by rw [← HC.out.1]; exact hlt)⟩
   obtain ⟨ad, Ae, ne, ce, rfl, kb, kc, kn⟩ := HL.out.get hx
   obtain ⟨ge, le⟩ := x
   have HX := hid hx
   have KC := hid kc
   have HNE := hid (show ne = le.length ∧ ne ≤ 9223372036854775807 from kn.cnt)
   clear hx kb kc kn
   go_upto_region 2 with (fail)
   refine wp_region_S [(0, 0), (1, 0), (2, 0), (3, 0)] fun wd hb => ?_
   replace EY := hid (EY.out.trans hb)
   clear hb
   refine WE.pp 4 (.int .i64 (k : Int)) ?_
   refine WE.pp 5 (.slice (some ad) n1 c1) ?_
   refine WE.pp 6 (.int .i64 (n1 : Int)) ?_
   refine WE.pp 7 (.bool true) ?_
   simp only [Act.put, pA, pB, pC]
   refine WE.done ?_
   by_cases hg : 4 < ne
   ·have hgd : decide ((4 : Int) < (ne : Int)) = true := decide_eq_true (by omega)
    go_upto_region 4 with (fail)
    refine wp_region_S [(0, 0), (1, 0), (2, 0), (3, 0), (4, 0), (5, 0), (6, 0)] fun wd hb => ?_
    replace EY := hid (EY.out.trans hb)
    clear hb
    refine WE.pp 10 (.slice (some ad) n1 c1) ?_
    refine WE.pp 11 (.int .i64 (k : Int)) ?_
    refine WE.pp 12 (.pointer (some (ad.add (k * 2)))) ?_
    refine WE.pp 13 (.pointer (some ⟨(ad.add (k * 2)).block, (ad.add (k * 2)).off + 1, none⟩)) ?_
    refine WE.qq 14 (.slice Ae ne ce) rfl (fun w' hk => by have ce1 : w'.cell? ⟨(ad.add (k * 2)).block, (ad.add (k * 2)).off + 1, none⟩ = some (.slice Ae ne ce) := (KC.out.up (E.out.trans EY.out)).up hk; go_simp) ?_
    refine WE.pp 15 (.int .i64 (ne : Int)) ?_
    simp only [Act.put, pA, pB, pC]
    refine WE.pp 16 (.bool true) ?_
    simp only [Act.put, pA, pB, pC]
    refine WE.done ?_
    go_upto_region 5 with (fail)
    refine wp_region_S [(0, 0)] fun wd hb => ?_
    replace EY := hid (EY.out.trans hb)
    clear hb
    refine WE.pp 2 (.bool false) ?_
    simp only [Act.put, pA, pB, pC]
    refine WE.done ?_
    repeat go_step
    go_ret
    exact ⟨by rw [← HB.out, M.fewP_no (List.mem_of_getElem? HX.out) (decide_eq_false (show ¬ le.length ≤ 4 by have := HNE.out.1; omega))]; rfl, (E.out.trans EY.out)⟩
   have hgd : decide ((4 : Int) < (ne : Int)) = false := decide_eq_false (by omega)
   go_upto_region 4 with (fail)
   refine wp_region_S [(0, 0), (1, 0), (2, 0), (3, 0), (4, 0), (5, 0), (6, 0)] fun wd hb => ?_
   replace EY := hid (EY.out.trans hb)
   clear hb
   refine WE.pp 10 (.slice (some ad) n1 c1) ?_
   refine WE.pp 11 (.int .i64 (k : Int)) ?_
   refine WE.pp 12 (.pointer (some (ad.add (k * 2)))) ?_
   refine WE.pp 13 (.pointer (some ⟨(ad.add (k * 2)).block, (ad.add (k * 2)).off + 1, none⟩)) ?_
   refine WE.qq 14 (.slice Ae ne ce) rfl (fun w' hk => by have ce1 : w'.cell? ⟨(ad.add (k * 2)).block, (ad.add (k * 2)).off + 1, none⟩ = some (.slice Ae ne ce) := (KC.out.up (E.out.trans EY.out)).up hk; go_simp) ?_
   refine WE.pp 15 (.int .i64 (ne : Int)) ?_
   simp only [Act.put, pA, pB, pC]
   refine WE.pp 16 (.bool false) ?_
   simp only [Act.put, pA, pB, pC]
   refine WE.done ?_
   go_wp2
   go_roundw
   case rel => exact ⟨k + 1, by go_num, by omega, fun y hy => by rw [List.take_add_one, HX.out, Option.toList_some] at hy; rcases List.mem_append.1 hy with hy | hy; exact HOK.out y hy; simp only [List.mem_singleton] at hy; subst hy; exact decide_eq_true (show le.length ≤ 4 by have := HNE.out.1; omega), (E.out.trans EY.out)⟩
   case measure => simp [intOf]; all_goals omega
  ·obtain rfl : k = n1 := by omega
   have hlt' : decide ((k : Int) < (k : Int)) = false := by simp
   go_upto_region 2 with (fail)
   refine wp_region_S [(0, 0), (1, 0), (2, 0), (3, 0)] fun wd hb => ?_
   replace EY := hid (EY.out.trans hb)
   clear hb
   refine WE.pp 4 (.int .i64 (k : Int)) ?_
   refine WE.pp 5 (.slice A1 k c1) ?_
   refine WE.pp 6 (.int .i64 (k : Int)) ?_
   refine WE.pp 7 (.bool false) ?_
   simp only [Act.put, pA, pB, pC]
   refine WE.done ?_
   have HALL := hid (show ∀ x ∈ xs, decide (x.2.length ≤ 4) = true from fun x hx => HOK.out x (by rw [HC.out.1, List.take_length]; exact hx))
   obtain ⟨b4, hb4⟩ : ∃ b : Bool, decide ((k : Int) ≤ 12) = b := ⟨_, rfl⟩
   go_upto_region 6 with (fail)
   refine wp_region_S [(0, 0), (1, 0), (2, 0), (3, 0)] fun wd hb => ?_
   replace EY := hid (EY.out.trans hb)
   clear hb
   refine WE.pp 17 (.slice A1 k c1) ?_
   refine WE.pp 18 (.int .i64 (k : Int)) ?_
   refine WE.pp 19 (.bool b4) ?_
   refine WE.pp 2 (.bool b4) ?_
   simp only [Act.put, pA, pB, pC]
   refine WE.done ?_
   repeat go_step
   go_ret
   have hbb : b = b4 := by rw [← HB.out, ← hb4]; unfold M.fewP; rw [List.all_eq_true.2 HALL.out, Bool.true_and, Bool.eq_iff_iff, decide_eq_true_iff, decide_eq_true_iff]; have := HC.out.1; omega
   exact ⟨by rw [hbb]; rfl, (E.out.trans EY.out)⟩

theorem zlist3 {w : World} {g : Nat} {T : TypeId} {g0 g1 g2 : Bool} {A0 A1 A2 : Option Addr} {n0 c0 n1 c1 n2 c2 : Nat} {l0 l1 l2 : List Nat} (hb : Box w g #[.bool g0, .slice A0 n0 c0, .bool g1, .slice A1 n1 c1, .bool g2, .slice A2 n2 c2] T) (h0 : Num w w.heap.size (.slice A0 n0 c0) l0) (h1 : Num w w.heap.size (.slice A1 n1 c1) l1) (h2 : Num w w.heap.size (.slice A2 n2 c2) l2) :
 ZList w (.slice (some ⟨g, 0, none⟩) 3 3) [(g0, l0), (g1, l1), (g2, l2)] := by
 refine ⟨_, _, _, rfl, rfl, Nat.le_refl _, by unfold maxLen; omega, fun k x hk => ⟨_, rfl, hb.lt, ?_⟩⟩
 rcases k with _ | _ | _ | k
 ·simp at hk; subst hk
  exact ⟨_, _, _, by rw [Addr.add_lit]; exact hb.cell rfl, by rw [Addr.add_lit, Addr.add_lit]; exact hb.cell rfl, h0⟩
 ·simp at hk; subst hk
  exact ⟨_, _, _, by rw [Addr.add_lit]; exact hb.cell rfl, by rw [Addr.add_lit, Addr.add_lit]; exact hb.cell rfl, h1⟩
 ·simp at hk; subst hk
  exact ⟨_, _, _, by rw [Addr.add_lit]; exact hb.cell rfl, by rw [Addr.add_lit, Addr.add_lit]; exact hb.cell rfl, h2⟩
 ·simp at hk

set_option maxHeartbeats 8000000 in
theorem known6 (w : World) :
 Calls Tryz.prog 9 #[] w (GivesB w true) := by
 go_enter Tryz.func9, Tryz.ntmps9
 go_upto_region 1 with (fail)
 have E := hid (Ext.refl w)
 refine wp_region_S [(0, 1), (1, 1), (2, 4)] fun wd hb => ?_
 replace E := hid (E.out.trans hb)
 clear hb
 have EY := hid (Ext.refl wd)
 refine WE.cc 4 ((varL_l (v := 2)).mono ?_)
 rintro e wn ⟨v1, rfl, x1, hb⟩
 obtain ⟨A11, n11, c11, g11, B11, m11, d11, rfl⟩ := x1.shape
 replace x1 := IsL.to (s := [(2, 1)]) (μ := 0) x1 (by decide) rfl
 refine ⟨_, rfl, hb, ?_⟩
 replace EY := hid (EY.out.trans hb)
 have S11 := hid x1
 clear hb x1
 simp only [Act.put, pA, pB, pC]
 refine WE.new (d := some 1) (cs := #[.slice none 0 0, .bool false, .slice none 0 0]) (t := 27) (v := fun g => (.pointer (some ⟨g, 0, none⟩))) rfl rfl (by rfl) (fun w => by go_simp) fun gV1 wv hx0 hbox hge => ?_
 have HGV1 := hid (show w.heap.size ≤ gV1 by have := (E.out.trans EY.out).size; omega)
 replace EY := hid (EY.out.trans hx0)
 replace S11 := hid (S11.out.up hx0)
 have V1 : Hid (Box wv gV1 #[.slice none 0 0, .bool false, .slice none 0 0] 27) := hid hbox
 clear hx0 hbox hge
 simp only [Act.put, pA, pB, pC]
 refine WE.store3 (g := gV1) (x := .slice A11 n11 c11) (y := .bool g11) (z := .slice B11 m11 d11) (t := 27) rfl rfl (by rfl) (fun w hb => ?_) V1.out (by rfl) fun ws hk hs => ?_
 ·obtain ⟨ce0, ce1, ce2⟩ := hb.c3; obtain ⟨f0, f1, f2⟩ := hb.f3; go_simp
 intro hbx
 replace S11 := hid (S11.out.kb V1.out (by rfl) hk hs)
 replace E := hid ((E.out.trans EY.out).keptG hk HGV1.out)
 replace V1 := hid hbx
 clear hk hs hbx
 replace EY := hid (Ext.refl ws)
 refine WE.done ?_
 go_upto_region 2 with (fail)
 refine wp_region_L [(0, 0), (1, 2), (2, 2), (3, 2), (4, 2), (5, 2), (6, 3), (7, 4)] 27 #[.slice none 0 0, .bool false, .slice none 0 0] fun wd hb => ?_
 replace EY := hid (EY.out.trans hb)
 clear hb
 have HL1V1 := hid (V1.out.up EY.out).lt
 have HW1 := hid (show w.heap.size ≤ wd.heap.size from (E.out.trans EY.out).size)
 refine WE.qq 5 (.agg #[.slice A11 n11 c11, .bool g11, .slice B11 m11 d11]) rfl (fun w' hk => by obtain ⟨ce0, ce1, ce2⟩ := ((V1.out.up EY.out).up hk).c3; go_simp) ?_
 simp only [Act.put, pA, pB, pC]
 refine WE.callR (d := some 6) rfl rfl (by rfl) (f := 51) (args := #[(.int .i64 (3))]) (fun w => by go_simp) (fun wx hx0 => ?_)
 replace EY := hid (EY.out.trans hx0)
 clear hx0
 refine (rOf_z (n := (3)) (by decide) (by decide) _).mono ?_
 rintro e wn ⟨v1, rfl, x1, hb⟩
 obtain ⟨g12, A12, n12, c12, rfl⟩ := x1.shape
 refine ⟨_, rfl, hb, ?_⟩
 replace EY := hid (EY.out.trans hb)
 have Q12 := hid x1
 clear hb x1
 simp only [Act.put, pA, pB, pC]
 refine WE.callR (d := some 7) rfl rfl (by rfl) (f := 25) (args := #[(.agg #[.slice A11 n11 c11, .bool g11, .slice B11 m11 d11]), (.agg #[.bool g12, .slice A12 n12 c12])]) (fun w => by go_simp) (fun wx hx0 => ?_)
 replace EY := hid (EY.out.trans hx0)
 replace Q12 := hid (Q12.out.up hx0)
 clear hx0
 refine (scaleL_l (WorthL.wide (S11.out.up EY.out).worth (U := 3) (by omega)) (Worth.wide Q12.out.worth (k := 3) (by omega)) (by omega) (by decide)).mono ?_
 rintro e wn ⟨v1, rfl, x1, hb⟩
 obtain ⟨A13, n13, c13, g13, B13, m13, d13, rfl⟩ := x1.shape
 replace x1 := IsL.to (s := [(2, 3)]) (μ := 0) x1 (by decide) (by decide)
 refine ⟨_, rfl, hb, ?_⟩
 replace EY := hid (EY.out.trans hb)
 have S13 := hid x1
 clear hb x1
 simp only [Act.put, pA, pB, pC]
 refine WE.callR (d := some 8) rfl rfl (by rfl) (f := 51) (args := #[(.int .i64 (5))]) (fun w => by go_simp) (fun wx hx0 => ?_)
 replace EY := hid (EY.out.trans hx0)
 replace S13 := hid (S13.out.up hx0)
 clear hx0
 refine (rOf_z (n := (5)) (by decide) (by decide) _).mono ?_
 rintro e wn ⟨v1, rfl, x1, hb⟩
 obtain ⟨g14, A14, n14, c14, rfl⟩ := x1.shape
 refine ⟨_, rfl, hb, ?_⟩
 replace EY := hid (EY.out.trans hb)
 replace S13 := hid (S13.out.up hb)
 have Q14 := hid x1
 clear hb x1
 simp only [Act.put, pA, pB, pC]
 refine WE.callR (d := some 9) rfl rfl (by rfl) (f := 17) (args := #[(.agg #[.bool g14, .slice A14 n14 c14])]) (fun w => by go_simp) (fun wx hx0 => ?_)
 replace EY := hid (EY.out.trans hx0)
 replace S13 := hid (S13.out.up hx0)
 replace Q14 := hid (Q14.out.up hx0)
 clear hx0
 refine (constL_l (Worth.wide Q14.out.worth (k := 3) (by omega)) (by decide)).mono ?_
 rintro e wn ⟨v1, rfl, x1, hb⟩
 obtain ⟨A15, n15, c15, g15, B15, m15, d15, rfl⟩ := x1.shape
 refine ⟨_, rfl, hb, ?_⟩
 replace EY := hid (EY.out.trans hb)
 replace S13 := hid (S13.out.up hb)
 have S15 := hid x1
 clear hb x1
 simp only [Act.put, pA, pB, pC]
 refine WE.callR (d := some 10) rfl rfl (by rfl) (f := 21) (args := #[(.agg #[.slice A13 n13 c13, .bool g13, .slice B13 m13 d13]), (.agg #[.slice A15 n15 c15, .bool g15, .slice B15 m15 d15])]) (fun w => by go_simp) (fun wx hx0 => ?_)
 replace EY := hid (EY.out.trans hx0)
 replace S13 := hid (S13.out.up hx0)
 replace S15 := hid (S15.out.up hx0)
 clear hx0
 refine (addL_l (WorthL.wide S13.out.worth (U := 6) (by omega)) (WorthL.wide S15.out.worth (U := 6) (by omega)) (by omega) (by decide) (by decide)).mono ?_
 rintro e wn ⟨v1, rfl, x1, hb⟩
 obtain ⟨A16, n16, c16, g16, B16, m16, d16, rfl⟩ := x1.shape
 replace x1 := IsL.to (s := [(2, 3)]) (μ := 5) x1 (M.addT_nil _) (by decide)
 refine ⟨_, rfl, hb, ?_⟩
 replace EY := hid (EY.out.trans hb)
 have S16 := hid x1
 clear hb x1
 simp only [Act.put, pA, pB, pC]
 refine WE.var (d := some 2) rfl fun gV2 wv hx0 hbox hge hng => ?_
 have HNV2V1 := hid (show gV2 ≠ gV1 by have := HL1V1.out; omega)
 have HGV2 := hid (show w.heap.size ≤ gV2 by have := HW1.out; omega)
 replace EY := hid (EY.out.trans hx0)
 replace S16 := hid (S16.out.up hx0)
 have V2 : Hid (Box wv gV2 #[.slice none 0 0, .bool false, .slice none 0 0] 27) := hid hbox
 clear hx0 hbox hge hng
 simp only [Act.put, pA, pB, pC]
 refine WE.store3 (g := gV2) (x := .slice A16 n16 c16) (y := .bool g16) (z := .slice B16 m16 d16) (t := 27) rfl rfl (by rfl) (fun w hb => ?_) V2.out (by rfl) fun ws hk hs => ?_
 ·obtain ⟨ce0, ce1, ce2⟩ := hb.c3; obtain ⟨f0, f1, f2⟩ := hb.f3; go_simp
 intro hbx
 replace S11 := hid ((S11.out.up EY.out).kb V2.out (by rfl) hk hs)
 replace S16 := hid (S16.out.kb V2.out (by rfl) hk hs)
 replace E := hid ((E.out.trans EY.out).keptG hk HGV2.out)
 replace V1 := hid ((V1.out.up EY.out).kept hk (by simpa using HNV2V1.out.symm))
 replace V2 := hid hbx
 clear hk hs hbx
 replace EY := hid (Ext.refl ws)
 refine WE.done ?_
 go_upto_region 3 with (fail)
 refine wp_region_L [(0, 0), (1, 2), (2, 2), (3, 3), (4, 4)] 27 #[.slice none 0 0, .bool false, .slice none 0 0] fun wd hb => ?_
 replace EY := hid (EY.out.trans hb)
 clear hb
 have HL2V1 := hid (V1.out.up EY.out).lt
 have HL2V2 := hid (V2.out.up EY.out).lt
 have HW2 := hid (show w.heap.size ≤ wd.heap.size from (E.out.trans EY.out).size)
 refine WE.qq 11 (.agg #[.slice A16 n16 c16, .bool g16, .slice B16 m16 d16]) rfl (fun w' hk => by obtain ⟨ce0, ce1, ce2⟩ := ((V2.out.up EY.out).up hk).c3; go_simp) ?_
 simp only [Act.put, pA, pB, pC]
 refine WE.callR (d := some 12) rfl rfl (by rfl) (f := 19) (args := #[(.int .i64 (0))]) (fun w => by go_simp) (fun wx hx0 => ?_)
 replace EY := hid (EY.out.trans hx0)
 clear hx0
 refine (varL_l (v := 0)).mono ?_
 rintro e wn ⟨v1, rfl, x1, hb⟩
 obtain ⟨A17, n17, c17, g17, B17, m17, d17, rfl⟩ := x1.shape
 replace x1 := IsL.to (s := [(0, 1)]) (μ := 0) x1 (by decide) rfl
 refine ⟨_, rfl, hb, ?_⟩
 replace EY := hid (EY.out.trans hb)
 have S17 := hid x1
 clear hb x1
 simp only [Act.put, pA, pB, pC]
 refine WE.callR (d := some 13) rfl rfl (by rfl) (f := 30) (args := #[(.agg #[.slice A16 n16 c16, .bool g16, .slice B16 m16 d16]), (.int .i64 (2)), (.agg #[.slice A17 n17 c17, .bool g17, .slice B17 m17 d17])]) (fun w => by go_simp) (fun wx hx0 => ?_)
 replace EY := hid (EY.out.trans hx0)
 replace S17 := hid (S17.out.up hx0)
 clear hx0
 refine (putL_l (WorthL.wide (S16.out.up EY.out).worth (U := 7) (by omega)) (WorthL.wide S17.out.worth (U := 7) (by omega)) (by omega) (by decide) (by decide) (v := 2)).mono ?_
 rintro e wn ⟨v1, rfl, x1, hb⟩
 obtain ⟨A18, n18, c18, g18, B18, m18, d18, rfl⟩ := x1.shape
 replace x1 := IsL.to (s := [(0, 3)]) (μ := 5) x1 (by unfold M.putT; rw [show M.dropT [(2, 3)] 2 = [] by decide, M.nil_addT]; decide) (by decide)
 refine ⟨_, rfl, hb, ?_⟩
 replace EY := hid (EY.out.trans hb)
 have S18 := hid x1
 clear hb x1
 simp only [Act.put, pA, pB, pC]
 refine WE.var (d := some 3) rfl fun gV3 wv hx0 hbox hge hng => ?_
 have HNV3V1 := hid (show gV3 ≠ gV1 by have := HL2V1.out; omega)
 have HNV3V2 := hid (show gV3 ≠ gV2 by have := HL2V2.out; omega)
 have HGV3 := hid (show w.heap.size ≤ gV3 by have := HW2.out; omega)
 replace EY := hid (EY.out.trans hx0)
 replace S18 := hid (S18.out.up hx0)
 have V3 : Hid (Box wv gV3 #[.slice none 0 0, .bool false, .slice none 0 0] 27) := hid hbox
 clear hx0 hbox hge hng
 simp only [Act.put, pA, pB, pC]
 refine WE.store3 (g := gV3) (x := .slice A18 n18 c18) (y := .bool g18) (z := .slice B18 m18 d18) (t := 27) rfl rfl (by rfl) (fun w hb => ?_) V3.out (by rfl) fun ws hk hs => ?_
 ·obtain ⟨ce0, ce1, ce2⟩ := hb.c3; obtain ⟨f0, f1, f2⟩ := hb.f3; go_simp
 intro hbx
 replace S11 := hid ((S11.out.up EY.out).kb V3.out (by rfl) hk hs)
 replace S16 := hid ((S16.out.up EY.out).kb V3.out (by rfl) hk hs)
 replace S18 := hid (S18.out.kb V3.out (by rfl) hk hs)
 replace E := hid ((E.out.trans EY.out).keptG hk HGV3.out)
 replace V1 := hid ((V1.out.up EY.out).kept hk (by simpa using HNV3V1.out.symm))
 replace V2 := hid ((V2.out.up EY.out).kept hk (by simpa using HNV3V2.out.symm))
 replace V3 := hid hbx
 clear hk hs hbx
 replace EY := hid (Ext.refl ws)
 refine WE.done ?_
 go_upto_region 4 with (fail)
 refine wp_region_X [] [(0, 0), (1, 1), (2, 0), (3, 0), (4, 1), (5, 0), (6, 6), (7, 2), (8, 0), (9, 1), (10, 0), (11, 0), (12, 0), (13, 1), (14, 1), (15, 1), (16, 0), (17, 0), (18, 0), (19, 0), (20, 0), (21, 1), (22, 1), (23, 1), (24, 1), (25, 1), (26, 0), (27, 0), (28, 0), (29, 0), (31, 0), (30, 1), (32, 1), (33, 0), (34, 0), (35, 0), (36, 1), (37, 1), (38, 1), (39, 0), (40, 0)] (fun _ => (0, #[])) rfl (by kernel_rfl) (by intro j hj; cases hj) (fun _ _ d _ _ => by cases d <;> exact Iff.rfl) fun wd hb => ?_
 replace EY := hid (EY.out.trans hb)
 clear hb
 have HL3V1 := hid (V1.out.up EY.out).lt
 have HL3V2 := hid (V2.out.up EY.out).lt
 have HL3V3 := hid (V3.out.up EY.out).lt
 refine WX.qq 14 (.agg #[.slice A11 n11 c11, .bool g11, .slice B11 m11 d11]) rfl (fun w' hk => by obtain ⟨ce0, ce1, ce2⟩ := ((V1.out.up EY.out).up hk).c3; go_simp) ?_
 refine WX.cc 15 (((S11.out.up EY.out).is_yes).mono ?_)
 rintro e wn ⟨rfl, hb⟩
 refine ⟨_, rfl, hb, ?_⟩
 replace EY := hid (EY.out.trans hb)
 clear hb
 refine WX.pp 16 (.bool true) ?_
 refine WX.qq 17 (.agg #[.slice A16 n16 c16, .bool g16, .slice B16 m16 d16]) rfl (fun w' hk => by obtain ⟨ce0, ce1, ce2⟩ := ((V2.out.up EY.out).up hk).c3; go_simp) ?_
 refine WX.cc 18 ((rOf_z (n := (3)) (by decide) (by decide) _).mono ?_)
 rintro e wn ⟨v1, rfl, x1, hb⟩
 obtain ⟨g19, A19, n19, c19, rfl⟩ := x1.shape
 refine ⟨_, rfl, hb, ?_⟩
 replace EY := hid (EY.out.trans hb)
 have Q19 := hid x1
 clear hb x1
 refine WX.pp 19 (.agg #[.int .i64 (2), .bool g19, .slice A19 n19 c19]) ?_
 simp only [Act.put, pA, pB, pC]
 refine WX.fork ?_ ?_
 ·refine WX.newR (d := some 20) (cs := #[.int .i64 (2), .bool g19, .slice A19 n19 c19]) (t := 56) (v := fun g => (.slice (some ⟨g, 0, none⟩) 1 1)) rfl rfl (by rfl) (fun w => by go_simp) fun gLM wv hx0 hbox hge => ?_
  replace EY := hid (EY.out.trans hx0)
  replace Q19 := hid (Q19.out.up hx0)
  have LM : Hid (Box wv gLM #[.int .i64 (2), .bool g19, .slice A19 n19 c19] 56) := hid hbox
  clear hx0 hbox hge
  refine WX.callR (d := some 21) rfl rfl (by rfl) (f := 51) (args := #[(.int .i64 (5))]) (fun w => by go_simp) (fun wx hx0 => ?_)
  replace EY := hid (EY.out.trans hx0)
  replace LM := hid (LM.out.up hx0)
  replace Q19 := hid (Q19.out.up hx0)
  clear hx0
  refine (rOf_z (n := (5)) (by decide) (by decide) _).mono ?_
  rintro e wn ⟨v1, rfl, x1, hb⟩
  obtain ⟨g20, A20, n20, c20, rfl⟩ := x1.shape
  refine ⟨_, rfl, hb, ?_⟩
  replace EY := hid (EY.out.trans hb)
  replace LM := hid (LM.out.up hb)
  replace Q19 := hid (Q19.out.up hb)
  have Q20 := hid x1
  clear hb x1
  refine WX.pp 22 (.agg #[.slice (some ⟨gLM, 0, none⟩) 1 1, .bool g20, .slice A20 n20 c20]) ?_
  refine WX.cc 23 ((rEqualL_l (S16.out.up EY.out) (show IsL _ _ [(2, 3)] 5 3 from ⟨_, _, _, _, _, _, _, rfl, LTm.lit LM.out Q19.out, Q20.out, ⟨by decide, by decide, trivial⟩⟩) (b := true) (by decide)).mono ?_)
  rintro e wn ⟨rfl, hb⟩
  refine ⟨_, rfl, hb, ?_⟩
  replace EY := hid (EY.out.trans hb)
  replace LM := hid (LM.out.up hb)
  replace Q19 := hid (Q19.out.up hb)
  replace Q20 := hid (Q20.out.up hb)
  clear hb
  refine WX.pp 24 (.bool true) ?_
  refine WX.pp 25 (.bool true) ?_
  refine WX.qq 26 (.agg #[.slice A18 n18 c18, .bool g18, .slice B18 m18 d18]) rfl (fun w' hk => by obtain ⟨ce0, ce1, ce2⟩ := ((V3.out.up EY.out).up hk).c3; go_simp) ?_
  simp only [Act.put, pA, pB, pC]
  refine WX.cc 27 ((coefL_l (WorthL.wide (S18.out.up EY.out).worth (U := 15) (by omega)) (by decide) (by omega) (v := 0)).mono ?_)
  rintro e wn ⟨v1, rfl, x1, hb⟩
  obtain ⟨g21, A21, n21, c21, rfl⟩ := x1.shape
  replace x1 := IsZ.to (Y := 3) x1 (by decide)
  refine ⟨_, rfl, hb, ?_⟩
  replace EY := hid (EY.out.trans hb)
  replace LM := hid (LM.out.up hb)
  replace Q19 := hid (Q19.out.up hb)
  replace Q20 := hid (Q20.out.up hb)
  have Q21 := hid x1
  clear hb x1
  refine WX.cc 28 ((rOf_z (n := (3)) (by decide) (by decide) _).mono ?_)
  rintro e wn ⟨v1, rfl, x1, hb⟩
  obtain ⟨g22, A22, n22, c22, rfl⟩ := x1.shape
  refine ⟨_, rfl, hb, ?_⟩
  replace EY := hid (EY.out.trans hb)
  replace LM := hid (LM.out.up hb)
  replace Q19 := hid (Q19.out.up hb)
  replace Q20 := hid (Q20.out.up hb)
  replace Q21 := hid (Q21.out.up hb)
  have Q22 := hid x1
  clear hb x1
  refine WX.cc 29 ((rEqual_any Q21.out Q22.out (b := true) (by decide)).mono ?_)
  rintro e wn ⟨rfl, hb⟩
  refine ⟨_, rfl, hb, ?_⟩
  replace EY := hid (EY.out.trans hb)
  replace LM := hid (LM.out.up hb)
  replace Q19 := hid (Q19.out.up hb)
  replace Q20 := hid (Q20.out.up hb)
  replace Q21 := hid (Q21.out.up hb)
  replace Q22 := hid (Q22.out.up hb)
  clear hb
  refine WX.pp 30 (.bool true) ?_
  refine WX.pp 31 (.bool true) ?_
  refine WX.qq 32 (.agg #[.slice A16 n16 c16, .bool g16, .slice B16 m16 d16]) rfl (fun w' hk => by obtain ⟨ce0, ce1, ce2⟩ := ((V2.out.up EY.out).up hk).c3; go_simp) ?_
  simp only [Act.put, pA, pB, pC]
  refine WX.pp 33 (.agg #[.bool false, .slice none 0 0]) ?_
  refine WX.pp 34 (.agg #[.bool false, .slice none 0 0]) ?_
  refine WX.cc 35 ((rOf_z (n := (2)) (by decide) (by decide) _).mono ?_)
  rintro e wn ⟨v1, rfl, x1, hb⟩
  obtain ⟨g23, A23, n23, c23, rfl⟩ := x1.shape
  refine ⟨_, rfl, hb, ?_⟩
  replace EY := hid (EY.out.trans hb)
  replace LM := hid (LM.out.up hb)
  replace Q19 := hid (Q19.out.up hb)
  replace Q20 := hid (Q20.out.up hb)
  replace Q21 := hid (Q21.out.up hb)
  replace Q22 := hid (Q22.out.up hb)
  have Q23 := hid x1
  clear hb x1
  simp only [Act.put, pA, pB, pC]
  refine WX.new (d := some 36) (cs := #[.bool false, .slice none 0 0, .bool false, .slice none 0 0, .bool g23, .slice A23 n23 c23]) (t := 25) (v := fun g => (.slice (some ⟨g, 0, none⟩) 3 3)) rfl rfl (by rfl) (fun w => by go_simp) fun gLP wv hx0 hbox hge => ?_
  replace EY := hid (EY.out.trans hx0)
  replace LM := hid (LM.out.up hx0)
  replace Q19 := hid (Q19.out.up hx0)
  replace Q20 := hid (Q20.out.up hx0)
  replace Q21 := hid (Q21.out.up hx0)
  replace Q22 := hid (Q22.out.up hx0)
  replace Q23 := hid (Q23.out.up hx0)
  have LP : Hid (Box wv gLP #[.bool false, .slice none 0 0, .bool false, .slice none 0 0, .bool g23, .slice A23 n23 c23] 25) := hid hbox
  clear hx0 hbox hge
  refine WX.cc 37 ((atL_l (WorthL.wide (S16.out.up EY.out).worth (U := 7) (by omega)) (hp := zlist3 LP.out (Num.nil _ _) (Num.nil _ _) Q23.out.fields.2.1) (fun x hx => by have h3 := Q23.out.fields.2.2; simp at hx; rcases hx with rfl | rfl; simp; exact Nat.le_trans h3 (by decide)) (by omega) (by decide)).mono ?_)
  rintro e wn ⟨v1, rfl, x1, hb⟩
  obtain ⟨g24, A24, n24, c24, rfl⟩ := x1.shape
  replace x1 := (IsZ.to (Y := 11) x1 (by rw [M.atT_cons, M.atT_nil]; have h0 := Q23.out.fields.1; subst h0; have hz : M.zv false (M.limbs 2) = 2 := M.zv_of 2; unfold M.valAt; simp [hz])).wide (k := 16) (by decide)
  refine ⟨_, rfl, hb, ?_⟩
  replace EY := hid (EY.out.trans hb)
  replace LM := hid (LM.out.up hb)
  replace LP := hid (LP.out.up hb)
  replace Q19 := hid (Q19.out.up hb)
  replace Q20 := hid (Q20.out.up hb)
  replace Q21 := hid (Q21.out.up hb)
  replace Q22 := hid (Q22.out.up hb)
  replace Q23 := hid (Q23.out.up hb)
  have Q24 := hid x1
  clear hb x1
  refine WX.cc 38 ((rOf_z (n := (11)) (by decide) (by decide) _).mono ?_)
  rintro e wn ⟨v1, rfl, x1, hb⟩
  obtain ⟨g25, A25, n25, c25, rfl⟩ := x1.shape
  refine ⟨_, rfl, hb, ?_⟩
  replace EY := hid (EY.out.trans hb)
  replace LM := hid (LM.out.up hb)
  replace LP := hid (LP.out.up hb)
  replace Q19 := hid (Q19.out.up hb)
  replace Q20 := hid (Q20.out.up hb)
  replace Q21 := hid (Q21.out.up hb)
  replace Q22 := hid (Q22.out.up hb)
  replace Q23 := hid (Q23.out.up hb)
  replace Q24 := hid (Q24.out.up hb)
  have Q25 := hid x1
  clear hb x1
  refine WX.cc 39 ((rEqual_any Q24.out Q25.out (b := true) (by decide)).mono ?_)
  rintro e wn ⟨rfl, hb⟩
  refine ⟨_, rfl, hb, ?_⟩
  replace EY := hid (EY.out.trans hb)
  replace LM := hid (LM.out.up hb)
  replace LP := hid (LP.out.up hb)
  replace Q19 := hid (Q19.out.up hb)
  replace Q20 := hid (Q20.out.up hb)
  replace Q21 := hid (Q21.out.up hb)
  replace Q22 := hid (Q22.out.up hb)
  replace Q23 := hid (Q23.out.up hb)
  replace Q24 := hid (Q24.out.up hb)
  replace Q25 := hid (Q25.out.up hb)
  clear hb
  refine WX.pp 40 (.bool true) ?_
  refine WX.pp 41 (.bool true) ?_
  simp only [Act.put, pA, pB, pC]
  refine WX.qq 42 (.agg #[.slice A16 n16 c16, .bool g16, .slice B16 m16 d16]) rfl (fun w' hk => by obtain ⟨ce0, ce1, ce2⟩ := ((V2.out.up EY.out).up hk).c3; go_simp) ?_
  refine WX.qq 43 (.agg #[.slice A16 n16 c16, .bool g16, .slice B16 m16 d16]) rfl (fun w' hk => by obtain ⟨ce0, ce1, ce2⟩ := ((V2.out.up EY.out).up hk).c3; go_simp) ?_
  refine WX.pp 45 (.agg #[.slice none 0 0, .bool false, .slice none 0 0]) ?_
  refine WX.cc 44 ((subL_l (WorthL.wide (S16.out.up EY.out).worth (U := 7) (by omega)) (WorthL.wide (S16.out.up EY.out).worth (U := 7) (by omega)) (by omega) (by decide) (by decide)).mono ?_)
  rintro e wn ⟨v1, rfl, x1, hb⟩
  obtain ⟨A26, n26, c26, g26, B26, m26, d26, rfl⟩ := x1.shape
  replace x1 := IsL.to (s := []) (μ := 0) x1 (by rw [show M.scaleT [(2, 3)] (-1) = [(2, -3)] by decide, M.addT_cons, if_neg (by decide), if_neg (by decide), if_pos (by decide), M.nil_addT]) (by decide)
  refine ⟨_, rfl, hb, ?_⟩
  replace EY := hid (EY.out.trans hb)
  replace LM := hid (LM.out.up hb)
  replace LP := hid (LP.out.up hb)
  replace Q19 := hid (Q19.out.up hb)
  replace Q20 := hid (Q20.out.up hb)
  replace Q21 := hid (Q21.out.up hb)
  replace Q22 := hid (Q22.out.up hb)
  replace Q23 := hid (Q23.out.up hb)
  replace Q24 := hid (Q24.out.up hb)
  replace Q25 := hid (Q25.out.up hb)
  have S26 := hid x1
  clear hb x1
  refine WX.cc 46 ((sameL_l (WorthL.wide S26.out.worth (U := 8) (by omega)) (WorthL.wide (show IsL _ _ _ _ _ from ⟨none, 0, 0, false, none, 0, 0, rfl, LTm.nil _ _, IsZ.nought, trivial⟩).worth (U := 8) (by omega)) (b := true) (by decide)).mono ?_)
  rintro e wn ⟨rfl, hb⟩
  refine ⟨_, rfl, hb, ?_⟩
  replace EY := hid (EY.out.trans hb)
  replace LM := hid (LM.out.up hb)
  replace LP := hid (LP.out.up hb)
  replace Q19 := hid (Q19.out.up hb)
  replace Q20 := hid (Q20.out.up hb)
  replace Q21 := hid (Q21.out.up hb)
  replace Q22 := hid (Q22.out.up hb)
  replace Q23 := hid (Q23.out.up hb)
  replace Q24 := hid (Q24.out.up hb)
  replace Q25 := hid (Q25.out.up hb)
  replace S26 := hid (S26.out.up hb)
  clear hb
  refine WX.pp 47 (.bool true) ?_
  simp only [Act.put, pA, pB, pC]
  refine WX.pp 48 (.bool true) ?_
  refine WX.qq 49 (.agg #[.slice A16 n16 c16, .bool g16, .slice B16 m16 d16]) rfl (fun w' hk => by obtain ⟨ce0, ce1, ce2⟩ := ((V2.out.up EY.out).up hk).c3; go_simp) ?_
  refine WX.cc 50 ((gcdL_l (WorthL.wide (S16.out.up EY.out).worth (U := 7) (by omega)) (by omega) (by decide)).mono ?_)
  rintro e wn ⟨v1, rfl, x1, hb⟩
  obtain ⟨g27, A27, n27, c27, rfl⟩ := x1.shape
  replace x1 := IsZ.to (Y := 3) x1 (by decide)
  refine ⟨_, rfl, hb, ?_⟩
  replace EY := hid (EY.out.trans hb)
  replace LM := hid (LM.out.up hb)
  replace LP := hid (LP.out.up hb)
  replace Q19 := hid (Q19.out.up hb)
  replace Q20 := hid (Q20.out.up hb)
  replace Q21 := hid (Q21.out.up hb)
  replace Q22 := hid (Q22.out.up hb)
  replace Q23 := hid (Q23.out.up hb)
  replace Q24 := hid (Q24.out.up hb)
  replace Q25 := hid (Q25.out.up hb)
  replace S26 := hid (S26.out.up hb)
  have Q27 := hid x1
  clear hb x1
  refine WX.cc 51 ((rOf_z (n := (3)) (by decide) (by decide) _).mono ?_)
  rintro e wn ⟨v1, rfl, x1, hb⟩
  obtain ⟨g28, A28, n28, c28, rfl⟩ := x1.shape
  refine ⟨_, rfl, hb, ?_⟩
  replace EY := hid (EY.out.trans hb)
  replace LM := hid (LM.out.up hb)
  replace LP := hid (LP.out.up hb)
  replace Q19 := hid (Q19.out.up hb)
  replace Q20 := hid (Q20.out.up hb)
  replace Q21 := hid (Q21.out.up hb)
  replace Q22 := hid (Q22.out.up hb)
  replace Q23 := hid (Q23.out.up hb)
  replace Q24 := hid (Q24.out.up hb)
  replace Q25 := hid (Q25.out.up hb)
  replace S26 := hid (S26.out.up hb)
  replace Q27 := hid (Q27.out.up hb)
  have Q28 := hid x1
  clear hb x1
  refine WX.cc 52 ((rEqual_any Q27.out Q28.out (b := true) (by decide)).mono ?_)
  rintro e wn ⟨rfl, hb⟩
  refine ⟨_, rfl, hb, ?_⟩
  replace EY := hid (EY.out.trans hb)
  replace LM := hid (LM.out.up hb)
  replace LP := hid (LP.out.up hb)
  replace Q19 := hid (Q19.out.up hb)
  replace Q20 := hid (Q20.out.up hb)
  replace Q21 := hid (Q21.out.up hb)
  replace Q22 := hid (Q22.out.up hb)
  replace Q23 := hid (Q23.out.up hb)
  replace Q24 := hid (Q24.out.up hb)
  replace Q25 := hid (Q25.out.up hb)
  replace S26 := hid (S26.out.up hb)
  replace Q27 := hid (Q27.out.up hb)
  replace Q28 := hid (Q28.out.up hb)
  clear hb
  refine WX.pp 53 (.bool true) ?_
  simp only [Act.put, pA, pB, pC]
  refine WX.pp 0 (.bool true) ?_
  simp only [Act.put, pA, pB, pC]
  refine WX.done ?_
  repeat go_step
  go_ret
  exact ⟨rfl, (E.out.trans EY.out)⟩
 ·refine WX.callR (d := some 21) rfl rfl (by rfl) (f := 51) (args := #[(.int .i64 (5))]) (fun w => by go_simp) (fun wx hx0 => ?_)
  replace EY := hid (EY.out.trans hx0)
  replace Q19 := hid (Q19.out.up hx0)
  clear hx0
  refine (rOf_z (n := (5)) (by decide) (by decide) _).mono ?_
  rintro e wn ⟨v1, rfl, x1, hb⟩
  obtain ⟨g20, A20, n20, c20, rfl⟩ := x1.shape
  refine ⟨_, rfl, hb, ?_⟩
  replace EY := hid (EY.out.trans hb)
  replace Q19 := hid (Q19.out.up hb)
  have Q20 := hid x1
  clear hb x1
  refine WX.newR (d := some 20) (cs := #[.int .i64 (2), .bool g19, .slice A19 n19 c19]) (t := 56) (v := fun g => (.slice (some ⟨g, 0, none⟩) 1 1)) rfl rfl (by rfl) (fun w => by go_simp) fun gLM wv hx0 hbox hge => ?_
  replace EY := hid (EY.out.trans hx0)
  replace Q19 := hid (Q19.out.up hx0)
  replace Q20 := hid (Q20.out.up hx0)
  have LM : Hid (Box wv gLM #[.int .i64 (2), .bool g19, .slice A19 n19 c19] 56) := hid hbox
  clear hx0 hbox hge
  refine WX.pp 22 (.agg #[.slice (some ⟨gLM, 0, none⟩) 1 1, .bool g20, .slice A20 n20 c20]) ?_
  refine WX.cc 23 ((rEqualL_l (S16.out.up EY.out) (show IsL _ _ [(2, 3)] 5 3 from ⟨_, _, _, _, _, _, _, rfl, LTm.lit LM.out Q19.out, Q20.out, ⟨by decide, by decide, trivial⟩⟩) (b := true) (by decide)).mono ?_)
  rintro e wn ⟨rfl, hb⟩
  refine ⟨_, rfl, hb, ?_⟩
  replace EY := hid (EY.out.trans hb)
  clear hb
  refine WX.pp 24 (.bool true) ?_
  refine WX.pp 25 (.bool true) ?_
  refine WX.qq 26 (.agg #[.slice A18 n18 c18, .bool g18, .slice B18 m18 d18]) rfl (fun w' hk => by obtain ⟨ce0, ce1, ce2⟩ := ((V3.out.up EY.out).up hk).c3; go_simp) ?_
  simp only [Act.put, pA, pB, pC]
  refine WX.cc 27 ((coefL_l (WorthL.wide (S18.out.up EY.out).worth (U := 15) (by omega)) (by decide) (by omega) (v := 0)).mono ?_)
  rintro e wn ⟨v1, rfl, x1, hb⟩
  obtain ⟨g21, A21, n21, c21, rfl⟩ := x1.shape
  replace x1 := IsZ.to (Y := 3) x1 (by decide)
  refine ⟨_, rfl, hb, ?_⟩
  replace EY := hid (EY.out.trans hb)
  have Q21 := hid x1
  clear hb x1
  refine WX.cc 28 ((rOf_z (n := (3)) (by decide) (by decide) _).mono ?_)
  rintro e wn ⟨v1, rfl, x1, hb⟩
  obtain ⟨g22, A22, n22, c22, rfl⟩ := x1.shape
  refine ⟨_, rfl, hb, ?_⟩
  replace EY := hid (EY.out.trans hb)
  replace Q21 := hid (Q21.out.up hb)
  have Q22 := hid x1
  clear hb x1
  refine WX.cc 29 ((rEqual_any Q21.out Q22.out (b := true) (by decide)).mono ?_)
  rintro e wn ⟨rfl, hb⟩
  refine ⟨_, rfl, hb, ?_⟩
  replace EY := hid (EY.out.trans hb)
  clear hb
  refine WX.pp 30 (.bool true) ?_
  refine WX.pp 31 (.bool true) ?_
  refine WX.qq 32 (.agg #[.slice A16 n16 c16, .bool g16, .slice B16 m16 d16]) rfl (fun w' hk => by obtain ⟨ce0, ce1, ce2⟩ := ((V2.out.up EY.out).up hk).c3; go_simp) ?_
  simp only [Act.put, pA, pB, pC]
  refine WX.pp 33 (.agg #[.bool false, .slice none 0 0]) ?_
  refine WX.pp 34 (.agg #[.bool false, .slice none 0 0]) ?_
  refine WX.cc 35 ((rOf_z (n := (2)) (by decide) (by decide) _).mono ?_)
  rintro e wn ⟨v1, rfl, x1, hb⟩
  obtain ⟨g23, A23, n23, c23, rfl⟩ := x1.shape
  refine ⟨_, rfl, hb, ?_⟩
  replace EY := hid (EY.out.trans hb)
  have Q23 := hid x1
  clear hb x1
  simp only [Act.put, pA, pB, pC]
  refine WX.new (d := some 36) (cs := #[.bool false, .slice none 0 0, .bool false, .slice none 0 0, .bool g23, .slice A23 n23 c23]) (t := 25) (v := fun g => (.slice (some ⟨g, 0, none⟩) 3 3)) rfl rfl (by rfl) (fun w => by go_simp) fun gLP wv hx0 hbox hge => ?_
  replace EY := hid (EY.out.trans hx0)
  replace Q23 := hid (Q23.out.up hx0)
  have LP : Hid (Box wv gLP #[.bool false, .slice none 0 0, .bool false, .slice none 0 0, .bool g23, .slice A23 n23 c23] 25) := hid hbox
  clear hx0 hbox hge
  refine WX.cc 37 ((atL_l (WorthL.wide (S16.out.up EY.out).worth (U := 7) (by omega)) (hp := zlist3 LP.out (Num.nil _ _) (Num.nil _ _) Q23.out.fields.2.1) (fun x hx => by have h3 := Q23.out.fields.2.2; simp at hx; rcases hx with rfl | rfl; simp; exact Nat.le_trans h3 (by decide)) (by omega) (by decide)).mono ?_)
  rintro e wn ⟨v1, rfl, x1, hb⟩
  obtain ⟨g24, A24, n24, c24, rfl⟩ := x1.shape
  replace x1 := (IsZ.to (Y := 11) x1 (by rw [M.atT_cons, M.atT_nil]; have h0 := Q23.out.fields.1; subst h0; have hz : M.zv false (M.limbs 2) = 2 := M.zv_of 2; unfold M.valAt; simp [hz])).wide (k := 16) (by decide)
  refine ⟨_, rfl, hb, ?_⟩
  replace EY := hid (EY.out.trans hb)
  have Q24 := hid x1
  clear hb x1
  refine WX.cc 38 ((rOf_z (n := (11)) (by decide) (by decide) _).mono ?_)
  rintro e wn ⟨v1, rfl, x1, hb⟩
  obtain ⟨g25, A25, n25, c25, rfl⟩ := x1.shape
  refine ⟨_, rfl, hb, ?_⟩
  replace EY := hid (EY.out.trans hb)
  replace Q24 := hid (Q24.out.up hb)
  have Q25 := hid x1
  clear hb x1
  refine WX.cc 39 ((rEqual_any Q24.out Q25.out (b := true) (by decide)).mono ?_)
  rintro e wn ⟨rfl, hb⟩
  refine ⟨_, rfl, hb, ?_⟩
  replace EY := hid (EY.out.trans hb)
  clear hb
  refine WX.pp 40 (.bool true) ?_
  refine WX.pp 41 (.bool true) ?_
  simp only [Act.put, pA, pB, pC]
  refine WX.qq 42 (.agg #[.slice A16 n16 c16, .bool g16, .slice B16 m16 d16]) rfl (fun w' hk => by obtain ⟨ce0, ce1, ce2⟩ := ((V2.out.up EY.out).up hk).c3; go_simp) ?_
  refine WX.qq 43 (.agg #[.slice A16 n16 c16, .bool g16, .slice B16 m16 d16]) rfl (fun w' hk => by obtain ⟨ce0, ce1, ce2⟩ := ((V2.out.up EY.out).up hk).c3; go_simp) ?_
  refine WX.pp 45 (.agg #[.slice none 0 0, .bool false, .slice none 0 0]) ?_
  refine WX.cc 44 ((subL_l (WorthL.wide (S16.out.up EY.out).worth (U := 7) (by omega)) (WorthL.wide (S16.out.up EY.out).worth (U := 7) (by omega)) (by omega) (by decide) (by decide)).mono ?_)
  rintro e wn ⟨v1, rfl, x1, hb⟩
  obtain ⟨A26, n26, c26, g26, B26, m26, d26, rfl⟩ := x1.shape
  replace x1 := IsL.to (s := []) (μ := 0) x1 (by rw [show M.scaleT [(2, 3)] (-1) = [(2, -3)] by decide, M.addT_cons, if_neg (by decide), if_neg (by decide), if_pos (by decide), M.nil_addT]) (by decide)
  refine ⟨_, rfl, hb, ?_⟩
  replace EY := hid (EY.out.trans hb)
  have S26 := hid x1
  clear hb x1
  refine WX.cc 46 ((sameL_l (WorthL.wide S26.out.worth (U := 8) (by omega)) (WorthL.wide (show IsL _ _ _ _ _ from ⟨none, 0, 0, false, none, 0, 0, rfl, LTm.nil _ _, IsZ.nought, trivial⟩).worth (U := 8) (by omega)) (b := true) (by decide)).mono ?_)
  rintro e wn ⟨rfl, hb⟩
  refine ⟨_, rfl, hb, ?_⟩
  replace EY := hid (EY.out.trans hb)
  clear hb
  refine WX.pp 47 (.bool true) ?_
  simp only [Act.put, pA, pB, pC]
  refine WX.pp 48 (.bool true) ?_
  refine WX.qq 49 (.agg #[.slice A16 n16 c16, .bool g16, .slice B16 m16 d16]) rfl (fun w' hk => by obtain ⟨ce0, ce1, ce2⟩ := ((V2.out.up EY.out).up hk).c3; go_simp) ?_
  refine WX.cc 50 ((gcdL_l (WorthL.wide (S16.out.up EY.out).worth (U := 7) (by omega)) (by omega) (by decide)).mono ?_)
  rintro e wn ⟨v1, rfl, x1, hb⟩
  obtain ⟨g27, A27, n27, c27, rfl⟩ := x1.shape
  replace x1 := IsZ.to (Y := 3) x1 (by decide)
  refine ⟨_, rfl, hb, ?_⟩
  replace EY := hid (EY.out.trans hb)
  have Q27 := hid x1
  clear hb x1
  refine WX.cc 51 ((rOf_z (n := (3)) (by decide) (by decide) _).mono ?_)
  rintro e wn ⟨v1, rfl, x1, hb⟩
  obtain ⟨g28, A28, n28, c28, rfl⟩ := x1.shape
  refine ⟨_, rfl, hb, ?_⟩
  replace EY := hid (EY.out.trans hb)
  replace Q27 := hid (Q27.out.up hb)
  have Q28 := hid x1
  clear hb x1
  refine WX.cc 52 ((rEqual_any Q27.out Q28.out (b := true) (by decide)).mono ?_)
  rintro e wn ⟨rfl, hb⟩
  refine ⟨_, rfl, hb, ?_⟩
  replace EY := hid (EY.out.trans hb)
  clear hb
  refine WX.pp 53 (.bool true) ?_
  simp only [Act.put, pA, pB, pC]
  refine WX.pp 0 (.bool true) ?_
  simp only [Act.put, pA, pB, pC]
  refine WX.done ?_
  repeat go_step
  go_ret
  exact ⟨rfl, (E.out.trans EY.out)⟩

end Go.Proofs.YtklmnmkmpkobhaaGreat
