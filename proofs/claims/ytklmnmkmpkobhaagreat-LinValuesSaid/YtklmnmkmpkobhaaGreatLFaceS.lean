/-
  Contracts of package lin: where a variable stands, how often it is there; slices.BinarySearchFunc at its terms.
-/
import Derived.Test.YtklmnmkmpkobhaaGreatLFacM
namespace Go.Proofs.YtklmnmkmpkobhaaGreat
open Go.RowKit
set_option linter.unusedSimpArgs false
set_option linter.unusedVariables false

theorem byVar_e {w : World} {x1 y1 : Int} {x2 y2 : Bool} {x3 y3 : Option Addr} {x4 x5 y4 y5 : Nat} {z : Int} (hz : Lib.compareInt x1 y1 = z) : Calls Tryz.prog 89 #[.agg #[.int .i64 x1, .bool x2, .slice x3 x4 x5], .agg #[.int .i64 y1, .bool y2, .slice y3 y4 y5]] w (fun e w' => e = .returned (.int .i64 z) ∧ Ext w w') := by
 subst hz
 refine (byVar_w (x1, x2, x3, x4, x5) (y1, y2, y3, y4, y5) w).mono ?_
 rintro e w' ⟨rfl, q, os, rfl⟩
 exact ⟨rfl, ext_grow q os⟩
theorem cmp_lt (x y : Int) : (Lib.compareInt x y < 0) ↔ x < y := by
 unfold Lib.compareInt
 by_cases h1 : x < y
 ·simp [h1]
 ·by_cases h2 : y < x <;> simp [h1, h2]
theorem cmp_eq (x y : Int) : (Lib.compareInt x y = 0) ↔ x = y := by
 unfold Lib.compareInt
 by_cases h1 : x < y
 ·simp [h1]; omega
 ·by_cases h2 : y < x
  ·simp [h1, h2]; omega
  ·simp [h1, h2]; omega
namespace M
theorem okT_pair {lo : Int} {t : Tm} (h : okT lo t) : t.Pairwise fun x y => x.1 < y.1 := by
 induction t generalizing lo with
 | nil => exact List.Pairwise.nil
 | cons x r ih => exact List.Pairwise.cons (fun y hy => (okT_all h.2.2 y hy).1) (ih h.2.2)
theorem below_take {lo : Int} {t : Tm} (h : okT lo t) {m : Nat} {y : Int × Int} (hm : t[m]? = some y) {v : Int} (hy : y.1 < v) : ∀ x ∈ t.take (m + 1), x.1 < v := by
 intro x hx
 obtain ⟨k, hk, rfl⟩ := List.getElem_of_mem hx
 rw [List.getElem_take]
 obtain ⟨hm', rfl⟩ := List.getElem?_eq_some_iff.1 hm
 rw [List.length_take] at hk
 rcases Nat.lt_or_ge k m with h1 | h1
 ·have := (List.pairwise_iff_getElem.1 (okT_pair h)) k m (by omega) hm' h1; omega
 ·have e : k = m := by omega
  subst e; exact hy
theorem above_drop {lo : Int} {t : Tm} (h : okT lo t) {m : Nat} {y : Int × Int} (hm : t[m]? = some y) {v : Int} (hy : v ≤ y.1) : ∀ x ∈ t.drop m, v ≤ x.1 := by
 intro x hx
 obtain ⟨k, hk, rfl⟩ := List.getElem_of_mem hx
 rw [List.getElem_drop]
 obtain ⟨hm', rfl⟩ := List.getElem?_eq_some_iff.1 hm
 rw [List.length_drop] at hk
 rcases Nat.eq_zero_or_pos k with h1 | h1
 ·subst h1; exact hy
 ·have := (List.pairwise_iff_getElem.1 (okT_pair h)) m (m + k) hm' (by omega) (by omega); omega
theorem not_there {lo : Int} {t : Tm} (h : okT lo t) {a : Nat} {v : Int} (h1 : ∀ x ∈ t.take a, x.1 < v) (h2 : ∀ x ∈ t.drop a, v ≤ x.1) (h3 : ∀ x, t[a]? = some x → x.1 ≠ v) : coef t v = 0 := by
 refine coef_none fun x hx => ?_
 rw [← List.take_append_drop a t] at hx
 rcases List.mem_append.1 hx with hx | hx
 ·have := h1 x hx; omega
 ·rcases ha : t[a]? with _ | y
  ·rw [List.drop_eq_nil_of_le (by simpa using ha)] at hx; simp at hx
  ·have h4 := h2 y (by rw [dropm ha]; simp)
   have h5 := h3 y ha
   have := above_drop h ha (v := y.1) (Int.le_refl _) x hx
   omega
end M
/-- What a search gives. -/
def GivesPlace (w : World) (t : M.Tm) (v : Int) (e : Ending) (w' : World) : Prop := ∃ (i : Nat) (b : Bool), e = .returned (.tuple #[.int .i64 (i : Int), .bool b]) ∧ (b = true → t[i]? = some (v, M.coef t v) ∧ M.coef t v ≠ 0) ∧ (b = false → M.coef t v = 0) ∧ Ext w w'

set_option maxHeartbeats 4000000 in
theorem search_l {w : World} {A : Option Addr} {n c W : Nat} {t : M.Tm} (h1 : LTm w (.slice A n c) t W) (ho : M.okT (-1) t) (hn : n ≤ 1000) (v : Int) :
 Calls Tryz.prog 92 #[.slice A n c, .agg #[.int .i64 v, .bool false, .slice none 0 0], .func (.func 89) #[] #[]] w (GivesPlace w t v) := by
 have T1 := hid h1
 have HC := hid h1.count
 have HO := hid ho
 have hn1 := hn
 clear h1 ho hn
 go_enter Tryz.func92, Tryz.ntmps92
 go_upto_region 1 with (fail)
 obtain ⟨E, BX0⟩ := open1 w #[.int .i64 v, .bool false, .slice none 0 0] 56
 refine wp_region_S [(0, 0), (1, 0), (2, 0)] fun wd hb => ?_
 replace E := hid (E.out.trans hb)
 replace BX0 := hid (BX0.out.up hb)
 clear hb
 have EY := hid (Ext.refl wd)
 refine WE.pp 12 (.slice A n c) ?_
 refine WE.pp 13 (.int .i64 (n : Int)) ?_
 refine WE.pp 8 (.int .i64 (n : Int)) ?_
 simp only [Act.put, pA, pB, pC]
 refine WE.done ?_
 go_upto_region 2 with (fail)
 refine wp_region_S [(0, 0), (1, 0), (2, 0)] fun wd hb => ?_
 replace EY := hid (EY.out.trans hb)
 clear hb
 refine WE.pp 14 (.int .i64 (n : Int)) ?_
 refine WE.pp 9 (.int .i64 (0)) ?_
 refine WE.pp 10 (.int .i64 (n : Int)) ?_
 simp only [Act.put, pA, pB, pC]
 refine WE.done ?_
 go_wp2
 go_loopw [9, 10] (fun x9 x10 wr => ∃ (a : Nat) (b : Nat), x9 = .int .i64 (a : Int) ∧ x10 = .int .i64 (b : Int) ∧ a ≤ b ∧ b ≤ n ∧ (∀ x ∈ t.take a, x.1 < v) ∧ (∀ x ∈ t.drop b, v ≤ x.1) ∧ Ext w wr ∧ Box wr w.heap.size #[.int .i64 v, .bool false, .slice none 0 0] 56) (fun x9 x10 _ => (intOf x10).toNat - (intOf x9).toNat)
 case atStart => exact ⟨0, n, rfl, rfl, Nat.zero_le _, Nat.le_refl _, fun x hx => by simp at hx, fun x hx => by rw [HC.out.1, List.drop_length] at hx; simp at hx, (E.out.trans EY.out), (BX0.out.up EY.out)⟩
 case round =>
  clear E EY BX0
  obtain ⟨a, b, rfl, rfl, hr0, hr1, hr2, hr3, hr4, hr5⟩ := hrel
  have HA := hid hr2
  have HB := hid hr3
  have E := hid hr4
  have BX0 := hid hr5
  clear hr2 hr3 hr4 hr5
  have EY := hid (Ext.refl wr)
  have hab := hr0
  have hbn := hr1
  clear hr0 hr1
  by_cases hlt : a < b
  ·have hlt' : decide ((a : Int) < (b : Int)) = true := decide_eq_true (by omega)
   obtain ⟨m, hm⟩ : ∃ m : Nat, (a + b) / 2 = m := ⟨_, rfl⟩
   have hmi : ((a : Int) + (b : Int)) / 2 = (m : Int) := by omega
   have hma : a ≤ m := by omega
   have hmb : m < b := by omega
   have hmn : m < n := by omega
   have hw1 : IntKind.i64.wrap ((a : Int) + (b : Int)) = (a : Int) + (b : Int) := by rw [IntKind.wrap_i64]; omega
   have hw2 : IntKind.u64.wrap ((a : Int) + (b : Int)) = (a : Int) + (b : Int) := by simp [IntKind.wrap, IntKind.bits, IntKind.signed]; omega
   have hw3 : IntKind.i64.wrap (m : Int) = (m : Int) := by rw [IntKind.wrap_i64]; omega
   have hw4 : IntKind.i64.wrap ((m : Int) + 1) = (m : Int) + 1 := by rw [IntKind.wrap_i64]; omega
   clear hm
   obtain ⟨x, hx⟩ : ∃ x, t[m]? = some x := ⟨_, List.getElem?_eq_getElem (by rw [← HC.out.1]; omega)⟩
   obtain ⟨ad, ge, Ae, ne, ce, rfl, ka, kb, kc, kz⟩ := T1.out.get hx
   obtain ⟨xv, xc⟩ := x
   have HX := hid hx
   have KA := hid ka
   have KB := hid kb
   have KC := hid kc
   clear hx ka kb kc kz
   obtain ⟨z, hz⟩ : ∃ z, Lib.compareInt xv v = z := ⟨_, rfl⟩
   have HZ := hid hz
   go_upto_region 3 with (fail)
   refine wp_region_S [(0, 0), (1, 0), (2, 0)] fun wd hb => ?_
   replace EY := hid (EY.out.trans hb)
   clear hb
   refine WE.pp 15 (.int .i64 (a : Int)) ?_
   refine WE.pp 16 (.int .i64 (b : Int)) ?_
   refine WE.pp 17 (.bool true) ?_
   simp only [Act.put, pA, pB, pC]
   refine WE.done ?_
   go_upto_region 4 with (fail)
   refine wp_region_S [(0, 0), (1, 0), (2, 0), (3, 0), (4, 0), (5, 0), (6, 0)] fun wd hb => ?_
   replace EY := hid (EY.out.trans hb)
   clear hb
   refine WE.pp 18 (.int .i64 (a : Int)) ?_
   refine WE.pp 19 (.int .i64 (b : Int)) ?_
   refine WE.pp 20 (.int .i64 ((a : Int) + (b : Int))) ?_
   refine WE.pp 21 (.int .u64 ((a : Int) + (b : Int))) ?_
   refine WE.pp 22 (.int .u64 (m : Int)) ?_
   refine WE.pp 23 (.int .i64 (m : Int)) ?_
   simp only [Act.put, pA, pB, pC]
   refine WE.pp 11 (.int .i64 (m : Int)) ?_
   simp only [Act.put, pA, pB, pC]
   refine WE.done ?_
   by_cases hv : xv < v
   ·have hzd : decide (z < 0) = true := decide_eq_true (by rw [← hz]; exact (cmp_lt _ _).2 hv)
    clear hz
    go_upto_region 5 with (fail)
    refine wp_region_D [(0, 0), (1, 0), (2, 0), (3, 0), (4, 0), (5, 0), (6, 1), (7, 0)] fun wd hb => ?_
    replace EY := hid (EY.out.trans hb)
    clear hb
    refine WE.pp 24 (.func (.func 89) #[] #[]) ?_
    refine WE.pp 25 (.slice (some ad) n c) ?_
    refine WE.pp 26 (.int .i64 (m : Int)) ?_
    refine WE.pp 27 (.pointer (some (ad.add (m * 3)))) ?_
    refine WE.qq 28 (.agg #[.int .i64 xv, .bool ge, .slice Ae ne ce]) rfl (fun w' hk => by have ce0 : w'.cell? (ad.add (m * 3)) = some (.int .i64 xv) := (KA.out.up (E.out.trans EY.out)).up hk; have ce1 : w'.cell? ⟨(ad.add (m * 3)).block, (ad.add (m * 3)).off + 1, none⟩ = some (.bool ge) := (KB.out.up (E.out.trans EY.out)).up hk; have ce2 : w'.cell? ⟨(ad.add (m * 3)).block, (ad.add (m * 3)).off + 2, none⟩ = some (.slice Ae ne ce) := (KC.out.up (E.out.trans EY.out)).up hk; go_simp) ?_
    refine WE.qq 29 (.agg #[.int .i64 v, .bool false, .slice none 0 0]) rfl (fun w' hk => by obtain ⟨ce0, ce1, ce2⟩ := ((BX0.out.up EY.out).up hk).c3; go_simp) ?_
    simp only [Act.put, pA, pB, pC]
    refine WE.call (d := some 30) rfl rfl (by rfl) (f := 89) (by go_simp) ((byVar_e (x2 := ge) (x3 := Ae) (x4 := ne) (x5 := ce) (y2 := false) (y3 := none) (y4 := 0) (y5 := 0) (z := z) HZ.out).mono ?_)
    rintro e wn ⟨rfl, hb⟩
    refine ⟨_, rfl, hb, ?_⟩
    replace EY := hid (EY.out.trans hb)
    clear hb
    refine WE.pp 31 (.bool true) ?_
    simp only [Act.put, pA, pB, pC]
    refine WE.done ?_
    go_upto_region 6 with (fail)
    refine wp_region_S [(0, 0), (1, 0), (2, 0)] fun wd hb => ?_
    replace EY := hid (EY.out.trans hb)
    clear hb
    refine WE.pp 32 (.int .i64 (m : Int)) ?_
    refine WE.pp 33 (.int .i64 ((m : Int) + 1)) ?_
    refine WE.pp 9 (.int .i64 ((m : Int) + 1)) ?_
    simp only [Act.put, pA, pB, pC]
    refine WE.done ?_
    go_wp2
    go_roundw
    case rel => exact ⟨m + 1, b, by go_num, rfl, by omega, by omega, M.below_take HO.out HX.out hv, HB.out, (E.out.trans EY.out), (BX0.out.up EY.out)⟩
    case measure => simp [intOf]; all_goals omega
   ·have hzd : decide (z < 0) = false := decide_eq_false (by rw [← hz]; exact fun h => hv ((cmp_lt _ _).1 h))
    clear hz
    go_upto_region 5 with (fail)
    refine wp_region_D [(0, 0), (1, 0), (2, 0), (3, 0), (4, 0), (5, 0), (6, 1), (7, 0)] fun wd hb => ?_
    replace EY := hid (EY.out.trans hb)
    clear hb
    refine WE.pp 24 (.func (.func 89) #[] #[]) ?_
    refine WE.pp 25 (.slice (some ad) n c) ?_
    refine WE.pp 26 (.int .i64 (m : Int)) ?_
    refine WE.pp 27 (.pointer (some (ad.add (m * 3)))) ?_
    refine WE.qq 28 (.agg #[.int .i64 xv, .bool ge, .slice Ae ne ce]) rfl (fun w' hk => by have ce0 : w'.cell? (ad.add (m * 3)) = some (.int .i64 xv) := (KA.out.up (E.out.trans EY.out)).up hk; have ce1 : w'.cell? ⟨(ad.add (m * 3)).block, (ad.add (m * 3)).off + 1, none⟩ = some (.bool ge) := (KB.out.up (E.out.trans EY.out)).up hk; have ce2 : w'.cell? ⟨(ad.add (m * 3)).block, (ad.add (m * 3)).off + 2, none⟩ = some (.slice Ae ne ce) := (KC.out.up (E.out.trans EY.out)).up hk; go_simp) ?_
    refine WE.qq 29 (.agg #[.int .i64 v, .bool false, .slice none 0 0]) rfl (fun w' hk => by obtain ⟨ce0, ce1, ce2⟩ := ((BX0.out.up EY.out).up hk).c3; go_simp) ?_
    simp only [Act.put, pA, pB, pC]
    refine WE.call (d := some 30) rfl rfl (by rfl) (f := 89) (by go_simp) ((byVar_e (x2 := ge) (x3 := Ae) (x4 := ne) (x5 := ce) (y2 := false) (y3 := none) (y4 := 0) (y5 := 0) (z := z) HZ.out).mono ?_)
    rintro e wn ⟨rfl, hb⟩
    refine ⟨_, rfl, hb, ?_⟩
    replace EY := hid (EY.out.trans hb)
    clear hb
    refine WE.pp 31 (.bool false) ?_
    simp only [Act.put, pA, pB, pC]
    refine WE.done ?_
    go_upto_region 7 with (fail)
    refine wp_region_S [(0, 0), (1, 0)] fun wd hb => ?_
    replace EY := hid (EY.out.trans hb)
    clear hb
    refine WE.pp 34 (.int .i64 (m : Int)) ?_
    refine WE.pp 10 (.int .i64 (m : Int)) ?_
    simp only [Act.put, pA, pB, pC]
    refine WE.done ?_
    go_wp2
    go_roundw
    case rel => exact ⟨a, m, rfl, rfl, by omega, by omega, HA.out, M.above_drop HO.out HX.out (Int.not_lt.1 hv), (E.out.trans EY.out), (BX0.out.up EY.out)⟩
    case measure => simp [intOf]; all_goals omega
  ·obtain rfl : a = b := by omega
   have hlt' : decide ((a : Int) < (a : Int)) = false := by simp
   go_upto_region 3 with (fail)
   refine wp_region_S [(0, 0), (1, 0), (2, 0)] fun wd hb => ?_
   replace EY := hid (EY.out.trans hb)
   clear hb
   refine WE.pp 15 (.int .i64 (a : Int)) ?_
   refine WE.pp 16 (.int .i64 (a : Int)) ?_
   refine WE.pp 17 (.bool false) ?_
   simp only [Act.put, pA, pB, pC]
   refine WE.done ?_
   by_cases hin : a < n
   ·have hind : decide ((a : Int) < (n : Int)) = true := decide_eq_true (by omega)
    obtain ⟨x, hx⟩ : ∃ x, t[a]? = some x := ⟨_, List.getElem?_eq_getElem (by rw [← HC.out.1]; omega)⟩
    obtain ⟨ad, ge, Ae, ne, ce, rfl, ka, kb, kc, kz⟩ := T1.out.get hx
    obtain ⟨xv, xc⟩ := x
    have HX := hid hx
    have KA := hid ka
    have KB := hid kb
    have KC := hid kc
    clear hx ka kb kc kz
    obtain ⟨z, hz⟩ : ∃ z, Lib.compareInt xv v = z := ⟨_, rfl⟩
    have HZ := hid hz
    by_cases hv : xv = v
    ·have hzd : (z == 0) = true := by rw [beq_iff_eq, ← hz]; exact (cmp_eq _ _).2 hv
     clear hz
     go_upto_region 8 with (fail)
     refine wp_region_D [(0, 0), (1, 0), (2, 0), (3, 0), (4, 0), (5, 0), (6, 0), (7, 0), (8, 0), (9, 0), (10, 0), (11, 1), (12, 0), (13, 0), (14, 0), (15, 0)] fun wd hb => ?_
     replace EY := hid (EY.out.trans hb)
     clear hb
     refine WE.pp 35 (.int .i64 (a : Int)) ?_
     refine WE.pp 36 (.int .i64 (a : Int)) ?_
     refine WE.pp 37 (.int .i64 (n : Int)) ?_
     refine WE.pp 38 (.bool true) ?_
     refine WE.pp 39 (.bool true) ?_
     refine WE.pp 40 (.func (.func 89) #[] #[]) ?_
     simp only [Act.put, pA, pB, pC]
     refine WE.pp 41 (.slice (some ad) n c) ?_
     refine WE.pp 42 (.int .i64 (a : Int)) ?_
     refine WE.pp 43 (.pointer (some (ad.add (a * 3)))) ?_
     refine WE.qq 44 (.agg #[.int .i64 xv, .bool ge, .slice Ae ne ce]) rfl (fun w' hk => by have ce0 : w'.cell? (ad.add (a * 3)) = some (.int .i64 xv) := (KA.out.up (E.out.trans EY.out)).up hk; have ce1 : w'.cell? ⟨(ad.add (a * 3)).block, (ad.add (a * 3)).off + 1, none⟩ = some (.bool ge) := (KB.out.up (E.out.trans EY.out)).up hk; have ce2 : w'.cell? ⟨(ad.add (a * 3)).block, (ad.add (a * 3)).off + 2, none⟩ = some (.slice Ae ne ce) := (KC.out.up (E.out.trans EY.out)).up hk; go_simp) ?_
     refine WE.qq 45 (.agg #[.int .i64 v, .bool false, .slice none 0 0]) rfl (fun w' hk => by obtain ⟨ce0, ce1, ce2⟩ := ((BX0.out.up EY.out).up hk).c3; go_simp) ?_
     simp only [Act.put, pA, pB, pC]
     refine WE.call (d := some 46) rfl rfl (by rfl) (f := 89) (by go_simp) ((byVar_e (x2 := ge) (x3 := Ae) (x4 := ne) (x5 := ce) (y2 := false) (y3 := none) (y4 := 0) (y5 := 0) (z := z) HZ.out).mono ?_)
     rintro e wn ⟨rfl, hb⟩
     refine ⟨_, rfl, hb, ?_⟩
     replace EY := hid (EY.out.trans hb)
     clear hb
     refine WE.pp 47 (.bool true) ?_
     refine WE.pp 48 (.bool true) ?_
     refine WE.pp 6 (.int .i64 (a : Int)) ?_
     refine WE.pp 7 (.bool true) ?_
     simp only [Act.put, pA, pB, pC]
     refine WE.done ?_
     repeat go_step
     go_ret2
     exact ⟨a, true, rfl, fun _ => ⟨by have h := HX.out; rw [hv] at h; have h2 := M.coef_at HO.out h; simp only [] at h2; rw [h2]; exact h, by have h := HX.out; rw [hv] at h; have h2 := M.coef_at HO.out h; simp only [] at h2; rw [h2]; exact (M.okT_all HO.out _ (List.mem_of_getElem? h)).2⟩, (fun h => by cases h), (E.out.trans EY.out)⟩
    ·have hzd : (z == 0) = false := by rw [beq_eq_false_iff_ne, ← hz]; exact fun h => hv ((cmp_eq _ _).1 h)
     clear hz
     go_upto_region 8 with (fail)
     refine wp_region_D [(0, 0), (1, 0), (2, 0), (3, 0), (4, 0), (5, 0), (6, 0), (7, 0), (8, 0), (9, 0), (10, 0), (11, 1), (12, 0), (13, 0), (14, 0), (15, 0)] fun wd hb => ?_
     replace EY := hid (EY.out.trans hb)
     clear hb
     refine WE.pp 35 (.int .i64 (a : Int)) ?_
     refine WE.pp 36 (.int .i64 (a : Int)) ?_
     refine WE.pp 37 (.int .i64 (n : Int)) ?_
     refine WE.pp 38 (.bool true) ?_
     refine WE.pp 39 (.bool true) ?_
     refine WE.pp 40 (.func (.func 89) #[] #[]) ?_
     simp only [Act.put, pA, pB, pC]
     refine WE.pp 41 (.slice (some ad) n c) ?_
     refine WE.pp 42 (.int .i64 (a : Int)) ?_
     refine WE.pp 43 (.pointer (some (ad.add (a * 3)))) ?_
     refine WE.qq 44 (.agg #[.int .i64 xv, .bool ge, .slice Ae ne ce]) rfl (fun w' hk => by have ce0 : w'.cell? (ad.add (a * 3)) = some (.int .i64 xv) := (KA.out.up (E.out.trans EY.out)).up hk; have ce1 : w'.cell? ⟨(ad.add (a * 3)).block, (ad.add (a * 3)).off + 1, none⟩ = some (.bool ge) := (KB.out.up (E.out.trans EY.out)).up hk; have ce2 : w'.cell? ⟨(ad.add (a * 3)).block, (ad.add (a * 3)).off + 2, none⟩ = some (.slice Ae ne ce) := (KC.out.up (E.out.trans EY.out)).up hk; go_simp) ?_
     refine WE.qq 45 (.agg #[.int .i64 v, .bool false, .slice none 0 0]) rfl (fun w' hk => by obtain ⟨ce0, ce1, ce2⟩ := ((BX0.out.up EY.out).up hk).c3; go_simp) ?_
     simp only [Act.put, pA, pB, pC]
     refine WE.call (d := some 46) rfl rfl (by rfl) (f := 89) (by go_simp) ((byVar_e (x2 := ge) (x3 := Ae) (x4 := ne) (x5 := ce) (y2 := false) (y3 := none) (y4 := 0) (y5 := 0) (z := z) HZ.out).mono ?_)
     rintro e wn ⟨rfl, hb⟩
     refine ⟨_, rfl, hb, ?_⟩
     replace EY := hid (EY.out.trans hb)
     clear hb
     refine WE.pp 47 (.bool false) ?_
     refine WE.pp 48 (.bool false) ?_
     refine WE.pp 6 (.int .i64 (a : Int)) ?_
     refine WE.pp 7 (.bool false) ?_
     simp only [Act.put, pA, pB, pC]
     refine WE.done ?_
     repeat go_step
     go_ret2
     exact ⟨a, false, rfl, (fun h => by cases h), fun _ => M.not_there HO.out HA.out HB.out (fun x hx => by rw [HX.out] at hx; injection hx with hx; subst hx; exact hv), (E.out.trans EY.out)⟩
   ·obtain rfl : a = n := by omega
    have hind : decide ((a : Int) < (a : Int)) = false := by simp
    go_upto_region 8 with (fail)
    refine wp_region_D [(0, 0), (1, 0), (2, 0), (3, 0), (4, 0), (5, 0), (6, 0), (7, 0), (8, 0), (9, 0), (10, 0), (11, 1), (12, 0), (13, 0), (14, 0), (15, 0)] fun wd hb => ?_
    replace EY := hid (EY.out.trans hb)
    clear hb
    refine WE.pp 35 (.int .i64 (a : Int)) ?_
    refine WE.pp 36 (.int .i64 (a : Int)) ?_
    refine WE.pp 37 (.int .i64 (a : Int)) ?_
    refine WE.pp 38 (.bool false) ?_
    refine WE.pp 39 (.bool false) ?_
    refine WE.ss 40 ?_
    simp only [Act.put, pA, pB, pC]
    refine WE.ss 41 ?_
    refine WE.ss 42 ?_
    refine WE.ss 43 ?_
    refine WE.ss 44 ?_
    refine WE.ss 45 ?_
    refine WE.tt 46 ?_
    simp only [Act.put, pA, pB, pC]
    refine WE.ss 47 ?_
    refine WE.pp 48 (.bool false) ?_
    refine WE.pp 6 (.int .i64 (a : Int)) ?_
    refine WE.pp 7 (.bool false) ?_
    simp only [Act.put, pA, pB, pC]
    refine WE.done ?_
    repeat go_step
    go_ret2
    exact ⟨a, false, rfl, (fun h => by cases h), fun _ => M.not_there HO.out HA.out HB.out (fun x hx => by have := (List.getElem?_eq_some_iff.1 hx).1; have := HC.out.1; omega), (E.out.trans EY.out)⟩

set_option maxHeartbeats 2000000 in
theorem place_l {w : World} {u : Value} {t : M.Tm} {κ : Int} {W : Nat} (h1 : IsL w u t κ W) (hn : t.length ≤ 1000) (v : Int) :
 Calls Tryz.prog 64 #[u, .int .i64 v] w (GivesPlace w t v) := by
 obtain ⟨A1, n1, c1, g1, B1, m1, d1, rfl, ht, hk, ho⟩ := h1
 have T1 := hid ht
 have O1 := hid ho
 have HN := hid hn
 have HC := hid ht.count
 clear ht hk ho hn
 go_enter Tryz.func64, Tryz.ntmps64
 go_upto_region 1 with (fail)
 obtain ⟨E, BX0⟩ := open1 w #[.slice A1 n1 c1, .bool g1, .slice B1 m1 d1] 27
 refine wp_region_S [(0, 0), (1, 0), (2, 0), (3, 0), (4, 1), (5, 0), (6, 0), (7, 0), (8, 0)] fun wd hb => ?_
 replace E := hid (E.out.trans hb)
 replace BX0 := hid (BX0.out.up hb)
 clear hb
 have EY := hid (Ext.refl wd)
 refine WE.pp 6 (.pointer (some ⟨(w.heap.size), 0, none⟩)) ?_
 refine WE.qq 7 (.slice A1 n1 c1) rfl (fun w' hk => by have ce0 := ((BX0.out.up EY.out).up hk).k 0; go_simp) ?_
 refine WE.pp 8 (.int .i64 v) ?_
 refine WE.pp 9 (.agg #[.int .i64 v, .bool false, .slice none 0 0]) ?_
 refine WE.cc 10 ((search_l (T1.out.up (E.out.trans EY.out)) O1.out (by have := HC.out.1; have := HN.out; omega) v).mono ?_)
 rintro e wn ⟨i, b, rfl, hf, hz, hb⟩
 refine ⟨_, rfl, hb, ?_⟩
 replace EY := hid (EY.out.trans hb)
 have HF := hid hf
 have HZ := hid hz
 clear hb hf hz
 refine WE.pp 11 (.int .i64 (i : Int)) ?_
 simp only [Act.put, pA, pB, pC]
 refine WE.pp 12 (.bool b) ?_
 refine WE.pp 4 (.int .i64 (i : Int)) ?_
 refine WE.pp 5 (.bool b) ?_
 simp only [Act.put, pA, pB, pC]
 refine WE.done ?_
 repeat go_step
 go_ret2
 exact ⟨i, b, rfl, HF.out, HZ.out, (E.out.trans EY.out)⟩

theorem place_some {w : World} {u : Value} {t : M.Tm} {κ : Int} {W : Nat} (h1 : IsL w u t κ W) (hn : t.length ≤ 1000) {v : Int} (hc : M.coef t v ≠ 0) : Calls Tryz.prog 64 #[u, .int .i64 v] w (fun e w' => ∃ i : Nat, e = .returned (.tuple #[.int .i64 (i : Int), .bool true]) ∧ t[i]? = some (v, M.coef t v) ∧ Ext w w') := by
 refine (place_l h1 hn v).mono ?_
 rintro e w' ⟨i, b, rfl, hf, hz, hb⟩
 cases b with
 | false => exact absurd (hz rfl) hc
 | true => exact ⟨i, rfl, (hf rfl).1, hb⟩
theorem place_none {w : World} {u : Value} {t : M.Tm} {κ : Int} {W : Nat} (h1 : IsL w u t κ W) (hn : t.length ≤ 1000) {v : Int} (hc : M.coef t v = 0) : Calls Tryz.prog 64 #[u, .int .i64 v] w (fun e w' => ∃ i : Nat, e = .returned (.tuple #[.int .i64 (i : Int), .bool false]) ∧ Ext w w') := by
 refine (place_l h1 hn v).mono ?_
 rintro e w' ⟨i, b, rfl, hf, hz, hb⟩
 cases b with
 | false => exact ⟨i, rfl, hb⟩
 | true => exact absurd hc (hf rfl).2

set_option maxHeartbeats 4000000 in
theorem coefL_none {w : World} {u : Value} {t : M.Tm} {κ : Int} {W : Nat} (h1 : WorthL w u t κ W) (hn : t.length ≤ 1000) (hw : W ≤ 1000) {v : Int} (hc : M.coef t v = 0) :
 Calls Tryz.prog 28 #[u, .int .i64 v] w (GivesZ w (M.coef t v) (W + 1)) := by
 obtain ⟨A1, n1, c1, g1, B1, m1, d1, rfl⟩ := h1.shape
 have R1 := hid h1
 have HN := hid hn
 have HCF := hid hc
 clear hn hc hw
 clear h1
 go_enter Tryz.func28, Tryz.ntmps28
 go_upto_region 1 with (fail)
 obtain ⟨E, BX0, BX1⟩ := open2 w #[.slice A1 n1 c1, .bool g1, .slice B1 m1 d1] 27 #[.bool false, .slice none 0 0] 25
 replace R1 := hid (R1.out.up E.out)
 refine wp_region_S [(0, 0), (1, 1), (2, 1), (3, 4)] fun wd hb => ?_
 replace E := hid (E.out.trans hb)
 replace BX0 := hid (BX0.out.up hb)
 replace BX1 := hid (BX1.out.up hb)
 replace R1 := hid (R1.out.up hb)
 clear hb
 have EY := hid (Ext.refl wd)
 refine WE.qq 8 (.agg #[.slice A1 n1 c1, .bool g1, .slice B1 m1 d1]) rfl (fun w' hk => by obtain ⟨ce0, ce1, ce2⟩ := ((BX0.out.up EY.out).up hk).c3; go_simp) ?_
 refine WE.cc 9 ((readL_l (R1.out.up EY.out)).mono ?_)
 rintro e w11 ⟨v1, rfl, x1, hb⟩
 obtain ⟨A11, n11, c11, g11, B11, m11, d11, rfl, t1, k1, o1⟩ := x1
 refine ⟨_, rfl, hb, ?_⟩
 replace EY := hid (EY.out.trans hb)
 have T11 := hid t1
 have Q11 := hid k1
 have O11 := hid o1
 have F11 := hid (Ext.refl w11)
 clear hb t1 k1 o1
 simp only [Act.put, pA, pB, pC]
 refine WE.new (d := some 5) (cs := #[.slice none 0 0, .bool false, .slice none 0 0]) (t := 27) (v := fun g => (.pointer (some ⟨g, 0, none⟩))) rfl rfl (by rfl) (fun w => by go_simp) fun gV5 wv hx0 hbox hge => ?_
 have HNV5BX1 := hid (show gV5 ≠ (w.heap.size + 1) by have := (BX1.out.up EY.out).lt; omega)
 have HGV5 := hid (show w.heap.size ≤ gV5 by have := (E.out.trans EY.out).size; omega)
 replace EY := hid (EY.out.trans hx0)
 replace Q11 := hid (Q11.out.up hx0)
 replace F11 := hid (F11.out.trans hx0)
 have V5 : Hid (Box wv gV5 #[.slice none 0 0, .bool false, .slice none 0 0] 27) := hid hbox
 clear hx0 hbox hge
 simp only [Act.put, pA, pB, pC]
 refine WE.store3 (g := gV5) (x := .slice A11 n11 c11) (y := .bool g11) (z := .slice B11 m11 d11) (t := 27) rfl rfl (by rfl) (fun w hb => ?_) V5.out (by rfl) fun ws hk hs => ?_
 ·obtain ⟨ce0, ce1, ce2⟩ := hb.c3; obtain ⟨f0, f1, f2⟩ := hb.f3; go_simp
 intro hbx
 replace T11 := hid ((T11.out.up F11.out).kb V5.out (by rfl) hk hs)
 replace E := hid ((E.out.trans EY.out).keptG hk HGV5.out)
 replace BX1 := hid ((BX1.out.up EY.out).kept hk (by simpa using HNV5BX1.out.symm))
 replace V5 := hid hbx
 replace Q11 := hid (Q11.out.kz hs)
 clear hk hs hbx
 replace EY := hid (Ext.refl ws)
 replace F11 := hid (Ext.refl ws)
 refine WE.done ?_
 go_upto_region 2 with (fail)
 refine wp_region_S [(0, 0), (1, 0), (2, 1), (3, 0), (4, 0), (5, 0), (6, 0), (7, 0)] fun wd hb => ?_
 replace EY := hid (EY.out.trans hb)
 replace F11 := hid (F11.out.trans hb)
 clear hb
 refine WE.qq 11 (.agg #[.slice A11 n11 c11, .bool g11, .slice B11 m11 d11]) rfl (fun w' hk => by obtain ⟨ce0, ce1, ce2⟩ := ((V5.out.up EY.out).up hk).c3; go_simp) ?_
 refine WE.pp 12 (.int .i64 v) ?_
 refine WE.cc 13 ((place_none (show IsL _ _ _ _ _ from ⟨_, _, _, _, _, _, _, rfl, (T11.out.up F11.out), (Q11.out.up EY.out), O11.out⟩) HN.out HCF.out).mono ?_)
 rintro e wn ⟨i, rfl, hb⟩
 refine ⟨_, rfl, hb, ?_⟩
 replace EY := hid (EY.out.trans hb)
 clear hb
 refine WE.pp 10 (.tuple #[(.int .i64 (i : Int)), (.bool false)]) ?_
 refine WE.pp 14 (.int .i64 (i : Int)) ?_
 refine WE.pp 15 (.bool false) ?_
 simp only [Act.put, pA, pB, pC]
 refine WE.pp 6 (.int .i64 (i : Int)) ?_
 refine WE.pp 7 (.bool false) ?_
 simp only [Act.put, pA, pB, pC]
 refine WE.done ?_
 go_upto_region 3 with (fail)
 refine wp_region_S [(0, 0), (1, 0)] fun wd hb => ?_
 replace EY := hid (EY.out.trans hb)
 clear hb
 refine WE.pp 16 (.bool false) ?_
 refine WE.pp 17 (.bool true) ?_
 simp only [Act.put, pA, pB, pC]
 refine WE.done ?_
 clear F11
 go_upto_region 4 with (fail)
 refine wp_region_S [(0, 0), (1, 4)] fun wd hb => ?_
 replace EY := hid (EY.out.trans hb)
 clear hb
 refine WE.pp 18 (.agg #[.bool false, .slice none 0 0]) ?_
 simp only [Act.put, pA, pB, pC]
 refine WE.store2 (g := (w.heap.size + 1)) (x := .bool false) (y := .slice none 0 0) (t := 25) rfl rfl (by rfl) (fun w hb => ?_) (BX1.out.up EY.out) (by rfl) fun ws hk hs => ?_
 ·obtain ⟨ce0, ce1⟩ := hb.c2; obtain ⟨f0, f1⟩ := hb.f2; go_simp
 intro hbx
 replace E := hid ((E.out.trans EY.out).keptG hk (by simp))
 replace BX1 := hid hbx
 clear hk hs hbx
 replace EY := hid (Ext.refl ws)
 refine WE.done ?_
 have r0 := (BX1.out.up EY.out).cell (o := 0) (v := .bool false) rfl
 have r1 := (BX1.out.up EY.out).cell (o := 1) (v := .slice none 0 0) rfl
 repeat go_step
 exact bodyPost_ret (v := .agg #[.bool false, .slice none 0 0]) (by simp [results, Tryz.results28, go_sem, r0, r1]) rfl ⟨_, rfl, by rw [HCF.out]; exact IsZ.nought.wide (Nat.zero_le _), (E.out.trans EY.out)⟩

set_option maxHeartbeats 4000000 in
theorem coefL_some {w : World} {u : Value} {t : M.Tm} {κ : Int} {W : Nat} (h1 : WorthL w u t κ W) (hn : t.length ≤ 1000) (hw : W ≤ 1000) {v : Int} (hc : M.coef t v ≠ 0) :
 Calls Tryz.prog 28 #[u, .int .i64 v] w (GivesZ w (M.coef t v) (W + 1)) := by
 obtain ⟨A1, n1, c1, g1, B1, m1, d1, rfl⟩ := h1.shape
 have R1 := hid h1
 have HN := hid hn
 have HCF := hid hc
 have HW := hid hw
 clear hn hc hw
 clear h1
 go_enter Tryz.func28, Tryz.ntmps28
 go_upto_region 1 with (fail)
 obtain ⟨E, BX0, BX1⟩ := open2 w #[.slice A1 n1 c1, .bool g1, .slice B1 m1 d1] 27 #[.bool false, .slice none 0 0] 25
 replace R1 := hid (R1.out.up E.out)
 refine wp_region_S [(0, 0), (1, 1), (2, 1), (3, 4)] fun wd hb => ?_
 replace E := hid (E.out.trans hb)
 replace BX0 := hid (BX0.out.up hb)
 replace BX1 := hid (BX1.out.up hb)
 replace R1 := hid (R1.out.up hb)
 clear hb
 have EY := hid (Ext.refl wd)
 refine WE.qq 8 (.agg #[.slice A1 n1 c1, .bool g1, .slice B1 m1 d1]) rfl (fun w' hk => by obtain ⟨ce0, ce1, ce2⟩ := ((BX0.out.up EY.out).up hk).c3; go_simp) ?_
 refine WE.cc 9 ((readL_l (R1.out.up EY.out)).mono ?_)
 rintro e w11 ⟨v1, rfl, x1, hb⟩
 obtain ⟨A11, n11, c11, g11, B11, m11, d11, rfl, t1, k1, o1⟩ := x1
 refine ⟨_, rfl, hb, ?_⟩
 replace EY := hid (EY.out.trans hb)
 have T11 := hid t1
 have Q11 := hid k1
 have O11 := hid o1
 have F11 := hid (Ext.refl w11)
 clear hb t1 k1 o1
 simp only [Act.put, pA, pB, pC]
 refine WE.new (d := some 5) (cs := #[.slice none 0 0, .bool false, .slice none 0 0]) (t := 27) (v := fun g => (.pointer (some ⟨g, 0, none⟩))) rfl rfl (by rfl) (fun w => by go_simp) fun gV5 wv hx0 hbox hge => ?_
 have HNV5BX1 := hid (show gV5 ≠ (w.heap.size + 1) by have := (BX1.out.up EY.out).lt; omega)
 have HGV5 := hid (show w.heap.size ≤ gV5 by have := (E.out.trans EY.out).size; omega)
 replace EY := hid (EY.out.trans hx0)
 replace Q11 := hid (Q11.out.up hx0)
 replace F11 := hid (F11.out.trans hx0)
 have V5 : Hid (Box wv gV5 #[.slice none 0 0, .bool false, .slice none 0 0] 27) := hid hbox
 clear hx0 hbox hge
 simp only [Act.put, pA, pB, pC]
 refine WE.store3 (g := gV5) (x := .slice A11 n11 c11) (y := .bool g11) (z := .slice B11 m11 d11) (t := 27) rfl rfl (by rfl) (fun w hb => ?_) V5.out (by rfl) fun ws hk hs => ?_
 ·obtain ⟨ce0, ce1, ce2⟩ := hb.c3; obtain ⟨f0, f1, f2⟩ := hb.f3; go_simp
 intro hbx
 replace T11 := hid ((T11.out.up F11.out).kb V5.out (by rfl) hk hs)
 replace E := hid ((E.out.trans EY.out).keptG hk HGV5.out)
 replace BX1 := hid ((BX1.out.up EY.out).kept hk (by simpa using HNV5BX1.out.symm))
 replace V5 := hid hbx
 replace Q11 := hid (Q11.out.kz hs)
 clear hk hs hbx
 replace EY := hid (Ext.refl ws)
 replace F11 := hid (Ext.refl ws)
 refine WE.done ?_
 go_upto_region 2 with (fail)
 refine wp_region_S [(0, 0), (1, 0), (2, 1), (3, 0), (4, 0), (5, 0), (6, 0), (7, 0)] fun wd hb => ?_
 replace EY := hid (EY.out.trans hb)
 replace F11 := hid (F11.out.trans hb)
 clear hb
 refine WE.qq 11 (.agg #[.slice A11 n11 c11, .bool g11, .slice B11 m11 d11]) rfl (fun w' hk => by obtain ⟨ce0, ce1, ce2⟩ := ((V5.out.up EY.out).up hk).c3; go_simp) ?_
 refine WE.pp 12 (.int .i64 v) ?_
 refine WE.cc 13 ((place_some (show IsL _ _ _ _ _ from ⟨_, _, _, _, _, _, _, rfl, (T11.out.up F11.out), (Q11.out.up EY.out), O11.out⟩) HN.out HCF.out).mono ?_)
 rintro e wn ⟨i, rfl, hg, hb⟩
 refine ⟨_, rfl, hb, ?_⟩
 replace EY := hid (EY.out.trans hb)
 replace F11 := hid (F11.out.trans hb)
 have HG := hid hg
 clear hb hg
 refine WE.pp 10 (.tuple #[(.int .i64 (i : Int)), (.bool true)]) ?_
 refine WE.pp 14 (.int .i64 (i : Int)) ?_
 refine WE.pp 15 (.bool true) ?_
 simp only [Act.put, pA, pB, pC]
 refine WE.pp 6 (.int .i64 (i : Int)) ?_
 refine WE.pp 7 (.bool true) ?_
 simp only [Act.put, pA, pB, pC]
 refine WE.done ?_
 go_upto_region 3 with (fail)
 refine wp_region_S [(0, 0), (1, 0)] fun wd hb => ?_
 replace EY := hid (EY.out.trans hb)
 replace F11 := hid (F11.out.trans hb)
 clear hb
 refine WE.pp 16 (.bool true) ?_
 refine WE.pp 17 (.bool false) ?_
 simp only [Act.put, pA, pB, pC]
 refine WE.done ?_
 have hb9 : n11 ≤ 9223372036854775807 := T11.out.count.2.2
 have hin : i < n11 := by have := (List.getElem?_eq_some_iff.1 HG.out).1; have := T11.out.count.1; omega
 obtain ⟨ad, ge, Ae, ne, ce, rfl, ka, kb, kc, kz⟩ := T11.out.get HG.out
 have KB := hid kb
 have KC := hid kc
 have QE := hid (kz.up F11.out)
 clear ka kb kc kz
 go_upto_region 5 with (fail)
 refine wp_region_S [(0, 0), (1, 0), (2, 0), (3, 0), (4, 0), (5, 0), (6, 0), (7, 1), (8, 4)] fun wd hb => ?_
 replace EY := hid (EY.out.trans hb)
 replace QE := hid (QE.out.up hb)
 replace F11 := hid (F11.out.trans hb)
 clear hb
 refine WE.pp 19 (.pointer (some ⟨gV5, 0, none⟩)) ?_
 refine WE.qq 20 (.slice (some ad) n11 c11) rfl (fun w' hk => by have ce0 := ((V5.out.up EY.out).up hk).k 0; go_simp) ?_
 refine WE.pp 21 (.int .i64 (i : Int)) ?_
 refine WE.pp 22 (.pointer (some (ad.add (i * 3)))) ?_
 refine WE.pp 23 (.pointer (some ⟨(ad.add (i * 3)).block, (ad.add (i * 3)).off + 1, none⟩)) ?_
 refine WE.qq 24 (.agg #[.bool ge, .slice Ae ne ce]) rfl (fun w' hk => by have ce1 : w'.cell? ⟨(ad.add (i * 3)).block, (ad.add (i * 3)).off + 1, none⟩ = some (.bool ge) := (KB.out.up F11.out).up hk; have ce2 : w'.cell? ⟨(ad.add (i * 3)).block, (ad.add (i * 3)).off + 2, none⟩ = some (.slice Ae ne ce) := (KC.out.up F11.out).up hk; go_simp) ?_
 simp only [Act.put, pA, pB, pC]
 refine WE.pp 25 (.agg #[.bool false, .slice none 0 0]) ?_
 refine WE.cc 26 ((add_w QE.out.worth IsZ.nought.worth (by have := HW.out; omega) (by omega)).mono ?_)
 rintro e wn ⟨v1, rfl, x1, hb⟩
 obtain ⟨g12, A12, n12, c12, rfl⟩ := x1.shape
 refine ⟨_, rfl, hb, ?_⟩
 replace EY := hid (EY.out.trans hb)
 have Q12 := hid x1
 clear hb x1
 simp only [Act.put, pA, pB, pC]
 clear F11 KB KC
 refine WE.store2 (g := (w.heap.size + 1)) (x := .bool g12) (y := .slice A12 n12 c12) (t := 25) rfl rfl (by rfl) (fun w hb => ?_) (BX1.out.up EY.out) (by rfl) fun ws hk hs => ?_
 ·obtain ⟨ce0, ce1⟩ := hb.c2; obtain ⟨f0, f1⟩ := hb.f2; go_simp
 intro hbx
 replace E := hid ((E.out.trans EY.out).keptG hk (by simp))
 replace BX1 := hid hbx
 replace Q12 := hid (Q12.out.kz hs)
 clear hk hs hbx
 replace EY := hid (Ext.refl ws)
 refine WE.done ?_
 have r0 := (BX1.out.up EY.out).cell (o := 0) (v := .bool g12) rfl
 have r1 := (BX1.out.up EY.out).cell (o := 1) (v := .slice A12 n12 c12) rfl
 repeat go_step
 exact bodyPost_ret (v := .agg #[.bool g12, .slice A12 n12 c12]) (by simp [results, Tryz.results28, go_sem, r0, r1]) rfl ⟨_, rfl, (IsZ.to (Q12.out.up EY.out) (Int.add_zero _)).wide (by omega), (E.out.trans EY.out)⟩

theorem coefL_l {w : World} {u : Value} {t : M.Tm} {κ : Int} {W : Nat} (h1 : WorthL w u t κ W) (hn : t.length ≤ 1000) (hw : W ≤ 1000) {v : Int} : Calls Tryz.prog 28 #[u, .int .i64 v] w (GivesZ w (M.coef t v) (W + 1)) := by
 by_cases hc : M.coef t v = 0
 ·exact coefL_none h1 hn hw hc
 ·exact coefL_some h1 hn hw hc

end Go.Proofs.YtklmnmkmpkobhaaGreat
