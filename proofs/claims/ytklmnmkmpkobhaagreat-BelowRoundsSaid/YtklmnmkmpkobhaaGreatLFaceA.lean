/-
  Contracts of package lin: whether it is a form, what counts, a form times a number.
-/
import Derived.Test.YtklmnmkmpkobhaaGreatLApp
import Derived.Test.YtklmnmkmpkobhaaGreatLRefD
namespace Go.Proofs.YtklmnmkmpkobhaaGreat
open Go.RowKit
set_option linter.unusedSimpArgs false
set_option linter.unusedVariables false

theorem M.isZ_zv {g : Bool} {l : List Nat} (h : M.zv g l ≠ 0) : M.isZ g l = true := by
 cases e : M.isZ g l with
 | true => rfl
 | false => exfalso; apply h; unfold M.zv; rw [if_neg (by simp [e])]

set_option maxHeartbeats 4000000 in
theorem isL_any {w : World} {g1 : Bool} {A1 B1 : Option Addr} {n1 c1 m1 d1 : Nat} {ls : List (Int × Bool × List Nat)} {l1 : List Nat} (h1 : LList w (.slice A1 n1 c1) ls) (h2 : Num w w.heap.size (.slice B1 m1 d1) l1) {b : Bool} (hb : M.isL ls g1 l1 = b) :
 Calls Tryz.prog 14 #[.agg #[.slice A1 n1 c1, .bool g1, .slice B1 m1 d1]] w (GivesB w b) := by
 have HL := hid h1
 have N1 := hid h2
 have HC := hid h1.count
 have HB := hid hb
 have hb9 : n1 ≤ 9223372036854775807 := h1.count.2.2
 clear h1 h2 hb
 go_enter Tryz.func14, Tryz.ntmps14
 go_upto_region 1 with (fail)
 obtain ⟨E, BX0⟩ := open1 w #[.slice A1 n1 c1, .bool g1, .slice B1 m1 d1] 27
 replace N1 := hid (N1.out.up E.out)
 refine wp_region_S [(0, 0)] fun wd hb => ?_
 replace E := hid (E.out.trans hb)
 replace BX0 := hid (BX0.out.up hb)
 replace N1 := hid (N1.out.up hb)
 clear hb
 have EY := hid (Ext.refl wd)
 refine WE.pp 3 (.int .i64 (-1)) ?_
 simp only [Act.put, pA, pB, pC]
 refine WE.done ?_
 go_upto_region 2 with (fail)
 refine wp_region_S [(0, 0), (1, 0), (2, 0), (3, 0)] fun wd hb => ?_
 replace EY := hid (EY.out.trans hb)
 clear hb
 refine WE.pp 6 (.pointer (some ⟨(w.heap.size), 0, none⟩)) ?_
 refine WE.qq 7 (.slice A1 n1 c1) rfl (fun w' hk => by have ce0 := ((BX0.out.up EY.out).up hk).k 0; go_simp) ?_
 refine WE.pp 8 (.int .i64 (n1 : Int)) ?_
 refine WE.pp 9 (.int .i64 (0)) ?_
 simp only [Act.put, pA, pB, pC]
 refine WE.done ?_
 go_wp2
 go_loopw [3, 9] (fun x3 x9 wr => ∃ (lo : Int) (k : Nat), x3 = .int .i64 lo ∧ x9 = .int .i64 (k : Int) ∧ k ≤ n1 ∧ -1 ≤ lo ∧ M.isT (-1) ls = M.isT lo (ls.drop k) ∧ Ext w wr ∧ Box wr w.heap.size #[.slice A1 n1 c1, .bool g1, .slice B1 m1 d1] 27 ∧ Num wr wr.heap.size (.slice B1 m1 d1) l1) (fun _x3 x9 _ => n1 - (intOf x9).toNat)
 case atStart => exact ⟨-1, 0, rfl, rfl, Nat.zero_le _, by decide, by rw [List.drop_zero], (E.out.trans EY.out), (BX0.out.up EY.out), (N1.out.up EY.out)⟩
 case round =>
  clear E EY BX0 N1
  obtain ⟨lo, k, rfl, rfl, hr0, hr1, hr2, hr3, hr4, hr5⟩ := hrel
  have HLO := hid hr1
  have HT := hid hr2
  have E := hid hr3
  have BX0 := hid hr4
  have N1 := hid hr5
  clear hr1 hr2 hr3 hr4 hr5
  have EY := hid (Ext.refl wr)
  have hk := hr0
  by_cases hlt : k < n1
  ·have hlt' : decide ((k : Int) < (n1 : Int)) = true := decide_eq_true (by omega)
   obtain ⟨x, hx⟩ : ∃ x, ls[k]? = some x := ⟨_, List.getElem?_eq_getElem (by rw [← HC.out.1]; exact hlt)⟩
   obtain ⟨ad, Ae, ne, ce, rfl, ka, kb, kc, kn⟩ := HL.out.get hx
   obtain ⟨xv, ge, le⟩ := x
   have KA := hid ka
   have KB := hid kb
   have KC := hid kc
   have RE := hid (worth_of (g := ge) (x := M.zv ge le) (kn.up E.out) (Nat.le_refl _) rfl)
   have HS := hid (show M.isT (-1) ls = (decide (lo < xv) && (M.isZ ge le && (!decide (M.zv ge le = 0) && M.isT xv (ls.drop (k + 1))))) by rw [HT.out, drop_get hx, M.isT_cons])
   clear hx ka kb kc kn HT
   go_upto_region 3 with (fail)
   refine wp_region_S [(0, 0)] fun wd hb => ?_
   replace EY := hid (EY.out.trans hb)
   replace RE := hid (RE.out.up hb)
   clear hb
   refine WE.pp 10 (.bool true) ?_
   simp only [Act.put, pA, pB, pC]
   refine WE.done ?_
   go_upto_region 4 with (fail)
   refine wp_region_S [(0, 0), (1, 0), (2, 1), (3, 4)] fun wd hb => ?_
   replace EY := hid (EY.out.trans hb)
   replace RE := hid (RE.out.up hb)
   clear hb
   refine WE.pp 11 (.pointer (some (ad.add (k * 3)))) ?_
   refine WE.qq 12 (.agg #[.int .i64 xv, .bool ge, .slice Ae ne ce]) rfl (fun w' hk => by have ce0 : w'.cell? (ad.add (k * 3)) = some (.int .i64 xv) := (KA.out.up (E.out.trans EY.out)).up hk; have ce1 : w'.cell? ⟨(ad.add (k * 3)).block, (ad.add (k * 3)).off + 1, none⟩ = some (.bool ge) := (KB.out.up (E.out.trans EY.out)).up hk; have ce2 : w'.cell? ⟨(ad.add (k * 3)).block, (ad.add (k * 3)).off + 2, none⟩ = some (.slice Ae ne ce) := (KC.out.up (E.out.trans EY.out)).up hk; go_simp) ?_
   simp only [Act.put, pA, pB, pC]
   refine WE.new (d := some 5) (cs := #[.int .i64 0, .bool false, .slice none 0 0]) (t := 56) (v := fun g => (.pointer (some ⟨g, 0, none⟩))) rfl rfl (by rfl) (fun w => by go_simp) fun gV5 wv hx0 hbox hge => ?_
   have HNV5BX0 := hid (show gV5 ≠ (w.heap.size) by have := (BX0.out.up EY.out).lt; omega)
   have HGV5 := hid (show w.heap.size ≤ gV5 by have := (E.out.trans EY.out).size; omega)
   replace EY := hid (EY.out.trans hx0)
   replace RE := hid (RE.out.up hx0)
   have V5 : Hid (Box wv gV5 #[.int .i64 0, .bool false, .slice none 0 0] 56) := hid hbox
   clear hx0 hbox hge
   simp only [Act.put, pA, pB, pC]
   refine WE.store3 (g := gV5) (x := .int .i64 xv) (y := .bool ge) (z := .slice Ae ne ce) (t := 56) rfl rfl (by rfl) (fun w hb => ?_) V5.out (by rfl) fun ws hk hs => ?_
   ·obtain ⟨ce0, ce1, ce2⟩ := hb.c3; obtain ⟨f0, f1, f2⟩ := hb.f3; go_simp
   intro hbx
   replace E := hid ((E.out.trans EY.out).keptG hk HGV5.out)
   replace BX0 := hid ((BX0.out.up EY.out).kept hk (by simpa using HNV5BX0.out.symm))
   replace V5 := hid hbx
   replace N1 := hid ((N1.out.up EY.out).kz hs)
   replace RE := hid (RE.out.kz hs)
   clear hk hs hbx
   replace EY := hid (Ext.refl ws)
   refine WE.done ?_
   by_cases hl : xv ≤ lo
   ·have hld : decide (xv ≤ lo) = true := decide_eq_true hl
    go_upto_region 5 with (fail)
    refine wp_region_S [(0, 0), (1, 0), (2, 0), (3, 0), (4, 0), (5, 0), (6, 0), (7, 1), (8, 0), (9, 0)] fun wd hb => ?_
    replace EY := hid (EY.out.trans hb)
    clear hb
    refine WE.pp 13 (.pointer (some ⟨gV5, 0, none⟩)) ?_
    refine WE.qq 14 (.int .i64 xv) rfl (fun w' hk => by have ce0 := ((V5.out.up EY.out).up hk).k 0; go_simp) ?_
    refine WE.pp 15 (.int .i64 lo) ?_
    refine WE.pp 16 (.bool true) ?_
    refine WE.pp 17 (.bool true) ?_
    refine WE.ss 18 ?_
    simp only [Act.put, pA, pB, pC]
    refine WE.ss 19 ?_
    refine WE.tt 20 ?_
    refine WE.ss 21 ?_
    refine WE.pp 22 (.bool true) ?_
    simp only [Act.put, pA, pB, pC]
    refine WE.done ?_
    go_upto_region 6 with (fail)
    refine wp_region_S [(0, 0)] fun wd hb => ?_
    replace EY := hid (EY.out.trans hb)
    clear hb
    refine WE.pp 2 (.bool false) ?_
    simp only [Act.put, pA, pB, pC]
    refine WE.done ?_
    repeat go_step
    go_ret
    exact ⟨by rw [← HB.out]; unfold M.isL; rw [HS.out]; simp [show ¬ lo < xv by omega], (E.out.trans EY.out)⟩
   have hld : decide (xv ≤ lo) = false := decide_eq_false hl
   obtain ⟨sg, hsg⟩ : ∃ s : Int, (M.zv ge le).sign = s := ⟨_, rfl⟩
   have HSG := hid hsg
   by_cases h0 : M.zv ge le = 0
   ·have hs0 : (sg == 0) = true := by rw [← hsg, h0]; rfl
    clear hsg
    go_upto_region 5 with (fail)
    refine wp_region_S [(0, 0), (1, 0), (2, 0), (3, 0), (4, 0), (5, 0), (6, 0), (7, 1), (8, 0), (9, 0)] fun wd hb => ?_
    replace EY := hid (EY.out.trans hb)
    clear hb
    refine WE.pp 13 (.pointer (some ⟨gV5, 0, none⟩)) ?_
    refine WE.qq 14 (.int .i64 xv) rfl (fun w' hk => by have ce0 := ((V5.out.up EY.out).up hk).k 0; go_simp) ?_
    refine WE.pp 15 (.int .i64 lo) ?_
    refine WE.pp 16 (.bool false) ?_
    refine WE.pp 17 (.bool false) ?_
    refine WE.pp 18 (.pointer (some ⟨gV5, 1, none⟩)) ?_
    simp only [Act.put, pA, pB, pC]
    refine WE.qq 19 (.agg #[.bool ge, .slice Ae ne ce]) rfl (fun w' hk => by obtain ⟨ce0, ce1, ce2⟩ := ((V5.out.up EY.out).up hk).c3; go_simp) ?_
    refine WE.cc 20 ((sign_e (RE.out.up EY.out) (s := sg) (HSG.out)).mono ?_)
    rintro e wn ⟨rfl, hb⟩
    refine ⟨_, rfl, hb, ?_⟩
    replace EY := hid (EY.out.trans hb)
    clear hb
    refine WE.pp 21 (.bool true) ?_
    refine WE.pp 22 (.bool true) ?_
    simp only [Act.put, pA, pB, pC]
    refine WE.done ?_
    go_upto_region 6 with (fail)
    refine wp_region_S [(0, 0)] fun wd hb => ?_
    replace EY := hid (EY.out.trans hb)
    clear hb
    refine WE.pp 2 (.bool false) ?_
    simp only [Act.put, pA, pB, pC]
    refine WE.done ?_
    repeat go_step
    go_ret
    exact ⟨by rw [← HB.out]; unfold M.isL; rw [HS.out]; simp [h0], (E.out.trans EY.out)⟩
   have hs0 : (sg == 0) = false := by rw [← hsg, beq_eq_false_iff_ne]; exact fun e => h0 (Int.sign_eq_zero_iff_zero.1 e)
   clear hsg
   have HST := hid (show M.isT (-1) ls = M.isT xv (ls.drop (k + 1)) by rw [HS.out, decide_eq_true (show lo < xv by omega), M.isZ_zv h0, decide_eq_false h0]; rfl)
   go_upto_region 5 with (fail)
   refine wp_region_S [(0, 0), (1, 0), (2, 0), (3, 0), (4, 0), (5, 0), (6, 0), (7, 1), (8, 0), (9, 0)] fun wd hb => ?_
   replace EY := hid (EY.out.trans hb)
   clear hb
   refine WE.pp 13 (.pointer (some ⟨gV5, 0, none⟩)) ?_
   refine WE.qq 14 (.int .i64 xv) rfl (fun w' hk => by have ce0 := ((V5.out.up EY.out).up hk).k 0; go_simp) ?_
   refine WE.pp 15 (.int .i64 lo) ?_
   refine WE.pp 16 (.bool false) ?_
   refine WE.pp 17 (.bool false) ?_
   refine WE.pp 18 (.pointer (some ⟨gV5, 1, none⟩)) ?_
   simp only [Act.put, pA, pB, pC]
   refine WE.qq 19 (.agg #[.bool ge, .slice Ae ne ce]) rfl (fun w' hk => by obtain ⟨ce0, ce1, ce2⟩ := ((V5.out.up EY.out).up hk).c3; go_simp) ?_
   refine WE.cc 20 ((sign_e (RE.out.up EY.out) (s := sg) (HSG.out)).mono ?_)
   rintro e wn ⟨rfl, hb⟩
   refine ⟨_, rfl, hb, ?_⟩
   replace EY := hid (EY.out.trans hb)
   clear hb
   refine WE.pp 21 (.bool false) ?_
   refine WE.pp 22 (.bool false) ?_
   simp only [Act.put, pA, pB, pC]
   refine WE.done ?_
   go_upto_region 7 with (fail)
   refine wp_region_S [(0, 0), (1, 0), (2, 0)] fun wd hb => ?_
   replace EY := hid (EY.out.trans hb)
   clear hb
   refine WE.pp 23 (.pointer (some ⟨gV5, 0, none⟩)) ?_
   refine WE.qq 24 (.int .i64 xv) rfl (fun w' hk => by have ce0 := ((V5.out.up EY.out).up hk).k 0; go_simp) ?_
   refine WE.pp 3 (.int .i64 xv) ?_
   simp only [Act.put, pA, pB, pC]
   refine WE.done ?_
   go_wp2
   go_roundw
   case rel => exact ⟨xv, k + 1, rfl, by go_num, by omega, by have := HLO.out; omega, HST.out, (E.out.trans EY.out), (BX0.out.up EY.out), (N1.out.up EY.out)⟩
   case measure => simp [intOf]; all_goals omega
  ·obtain rfl : k = n1 := by omega
   have hlt' : decide ((k : Int) < (k : Int)) = false := by simp
   go_upto_region 3 with (fail)
   refine wp_region_S [(0, 0)] fun wd hb => ?_
   replace EY := hid (EY.out.trans hb)
   clear hb
   refine WE.pp 10 (.bool false) ?_
   simp only [Act.put, pA, pB, pC]
   refine WE.done ?_
   go_upto_region 9 with (fail)
   refine wp_region_S [(0, 0), (1, 0), (2, 1), (3, 0)] fun wd hb => ?_
   replace EY := hid (EY.out.trans hb)
   clear hb
   refine WE.pp 26 (.pointer (some ⟨(w.heap.size), 1, none⟩)) ?_
   refine WE.qq 27 (.agg #[.bool g1, .slice B1 m1 d1]) rfl (fun w' hk => by obtain ⟨ce0, ce1, ce2⟩ := ((BX0.out.up EY.out).up hk).c3; go_simp) ?_
   refine WE.cc 28 ((wIs_any (g := g1) (N1.out.up EY.out) rfl).mono ?_)
   rintro e wn ⟨rfl, hb⟩
   refine ⟨_, rfl, hb, ?_⟩
   replace EY := hid (EY.out.trans hb)
   clear hb
   refine WE.pp 2 (.bool (M.isZ g1 l1)) ?_
   simp only [Act.put, pA, pB, pC]
   refine WE.done ?_
   repeat go_step
   go_ret
   exact ⟨by rw [← HB.out]; unfold M.isL; rw [HT.out, HC.out.1, List.drop_length]; rfl, (E.out.trans EY.out)⟩

set_option maxHeartbeats 2000000 in
theorem readL_false {w : World} {g1 : Bool} {A1 B1 : Option Addr} {n1 c1 m1 d1 W : Nat} {ls : List (Int × Bool × List Nat)} {l1 : List Nat} (h1 : LList w (.slice A1 n1 c1) ls) (h2 : Num w w.heap.size (.slice B1 m1 d1) l1) (hw : ∀ x ∈ ls, x.2.2.length ≤ W) (hk : l1.length ≤ W) (hb : M.isL ls g1 l1 = false) :
 Calls Tryz.prog 55 #[.agg #[.slice A1 n1 c1, .bool g1, .slice B1 m1 d1]] w (GivesL w (M.ft ls g1 l1) (M.fk ls g1 l1) W) := by
 have HL := hid h1
 have N1 := hid h2
 have HB := hid hb
 clear h1 h2 hb hw hk
 go_enter Tryz.func55, Tryz.ntmps55
 go_upto_region 1 with (fail)
 obtain ⟨E, BX0, BX1⟩ := open2 w #[.slice A1 n1 c1, .bool g1, .slice B1 m1 d1] 27 #[.slice none 0 0, .bool false, .slice none 0 0] 27
 replace N1 := hid (N1.out.up E.out)
 refine wp_region_S [(0, 0), (1, 1), (2, 0)] fun wd hb => ?_
 replace E := hid (E.out.trans hb)
 replace BX0 := hid (BX0.out.up hb)
 replace BX1 := hid (BX1.out.up hb)
 replace N1 := hid (N1.out.up hb)
 clear hb
 have EY := hid (Ext.refl wd)
 refine WE.qq 3 (.agg #[.slice A1 n1 c1, .bool g1, .slice B1 m1 d1]) rfl (fun w' hk => by obtain ⟨ce0, ce1, ce2⟩ := ((BX0.out.up EY.out).up hk).c3; go_simp) ?_
 refine WE.cc 4 ((isL_any (HL.out.up (E.out.trans EY.out)) (N1.out.up EY.out) HB.out).mono ?_)
 rintro e wn ⟨rfl, hb⟩
 refine ⟨_, rfl, hb, ?_⟩
 replace EY := hid (EY.out.trans hb)
 clear hb
 refine WE.pp 5 (.bool true) ?_
 simp only [Act.put, pA, pB, pC]
 refine WE.done ?_
 go_upto_region 2 with (fail)
 refine wp_region_S [(0, 0), (1, 4)] fun wd hb => ?_
 replace EY := hid (EY.out.trans hb)
 clear hb
 refine WE.pp 6 (.agg #[.slice none 0 0, .bool false, .slice none 0 0]) ?_
 simp only [Act.put, pA, pB, pC]
 refine WE.store3 (g := (w.heap.size + 1)) (x := .slice none 0 0) (y := .bool false) (z := .slice none 0 0) (t := 27) rfl rfl (by rfl) (fun w hb => ?_) (BX1.out.up EY.out) (by rfl) fun ws hk hs => ?_
 ·obtain ⟨ce0, ce1, ce2⟩ := hb.c3; obtain ⟨f0, f1, f2⟩ := hb.f3; go_simp
 intro hbx
 replace E := hid ((E.out.trans EY.out).keptG hk (by simp))
 replace BX1 := hid hbx
 clear hk hs hbx
 replace EY := hid (Ext.refl ws)
 refine WE.done ?_
 have r0 := (BX1.out.up EY.out).cell (o := 0) (v := .slice none 0 0) rfl
 have r1 := (BX1.out.up EY.out).cell (o := 1) (v := .bool false) rfl
 have r2 := (BX1.out.up EY.out).cell (o := 2) (v := .slice none 0 0) rfl
 repeat go_step
 exact bodyPost_ret (v := .agg #[.slice none 0 0, .bool false, .slice none 0 0]) (by simp [results, Tryz.results55, go_sem, r0, r1, r2]) rfl ⟨_, rfl, by unfold M.ft M.fk; rw [if_neg (by simp [HB.out]), if_neg (by simp [HB.out])]; exact ⟨none, 0, 0, false, none, 0, 0, rfl, LTm.nil _ _, IsZ.nought.wide (Nat.zero_le _), trivial⟩, (E.out.trans EY.out)⟩

set_option maxHeartbeats 2000000 in
theorem readL_true {w : World} {g1 : Bool} {A1 B1 : Option Addr} {n1 c1 m1 d1 W : Nat} {ls : List (Int × Bool × List Nat)} {l1 : List Nat} (h1 : LList w (.slice A1 n1 c1) ls) (h2 : Num w w.heap.size (.slice B1 m1 d1) l1) (hw : ∀ x ∈ ls, x.2.2.length ≤ W) (hk : l1.length ≤ W) (hb : M.isL ls g1 l1 = true) :
 Calls Tryz.prog 55 #[.agg #[.slice A1 n1 c1, .bool g1, .slice B1 m1 d1]] w (GivesL w (M.ft ls g1 l1) (M.fk ls g1 l1) W) := by
 have HL := hid h1
 have N1 := hid h2
 have HB := hid hb
 have HW := hid hw
 have HK := hid hk
 clear h1 h2 hb hw hk
 go_enter Tryz.func55, Tryz.ntmps55
 go_upto_region 1 with (fail)
 obtain ⟨E, BX0, BX1⟩ := open2 w #[.slice A1 n1 c1, .bool g1, .slice B1 m1 d1] 27 #[.slice none 0 0, .bool false, .slice none 0 0] 27
 replace N1 := hid (N1.out.up E.out)
 refine wp_region_S [(0, 0), (1, 1), (2, 0)] fun wd hb => ?_
 replace E := hid (E.out.trans hb)
 replace BX0 := hid (BX0.out.up hb)
 replace BX1 := hid (BX1.out.up hb)
 replace N1 := hid (N1.out.up hb)
 clear hb
 have EY := hid (Ext.refl wd)
 refine WE.qq 3 (.agg #[.slice A1 n1 c1, .bool g1, .slice B1 m1 d1]) rfl (fun w' hk => by obtain ⟨ce0, ce1, ce2⟩ := ((BX0.out.up EY.out).up hk).c3; go_simp) ?_
 refine WE.cc 4 ((isL_any (HL.out.up (E.out.trans EY.out)) (N1.out.up EY.out) HB.out).mono ?_)
 rintro e wn ⟨rfl, hb⟩
 refine ⟨_, rfl, hb, ?_⟩
 replace EY := hid (EY.out.trans hb)
 clear hb
 refine WE.pp 5 (.bool false) ?_
 simp only [Act.put, pA, pB, pC]
 refine WE.done ?_
 go_upto_region 3 with (fail)
 refine wp_region_S [(0, 0), (1, 4)] fun wd hb => ?_
 replace EY := hid (EY.out.trans hb)
 clear hb
 refine WE.qq 7 (.agg #[.slice A1 n1 c1, .bool g1, .slice B1 m1 d1]) rfl (fun w' hk => by obtain ⟨ce0, ce1, ce2⟩ := ((BX0.out.up EY.out).up hk).c3; go_simp) ?_
 simp only [Act.put, pA, pB, pC]
 refine WE.store3 (g := (w.heap.size + 1)) (x := .slice A1 n1 c1) (y := .bool g1) (z := .slice B1 m1 d1) (t := 27) rfl rfl (by rfl) (fun w hb => ?_) (BX1.out.up EY.out) (by rfl) fun ws hk hs => ?_
 ·obtain ⟨ce0, ce1, ce2⟩ := hb.c3; obtain ⟨f0, f1, f2⟩ := hb.f3; go_simp
 intro hbx
 replace E := hid ((E.out.trans EY.out).keptG hk (by simp))
 replace BX1 := hid hbx
 replace N1 := hid ((N1.out.up EY.out).kz hs)
 clear hk hs hbx
 replace EY := hid (Ext.refl ws)
 refine WE.done ?_
 have r0 := (BX1.out.up EY.out).cell (o := 0) (v := .slice A1 n1 c1) rfl
 have r1 := (BX1.out.up EY.out).cell (o := 1) (v := .bool g1) rfl
 have r2 := (BX1.out.up EY.out).cell (o := 2) (v := .slice B1 m1 d1) rfl
 repeat go_step
 exact bodyPost_ret (v := .agg #[.slice A1 n1 c1, .bool g1, .slice B1 m1 d1]) (by simp [results, Tryz.results55, go_sem, r0, r1, r2]) rfl ⟨_, rfl, isL_of (HL.out.up (E.out.trans EY.out)) (N1.out.up EY.out) HW.out HK.out HB.out, (E.out.trans EY.out)⟩

theorem readL_l {w : World} {u : Value} {t : M.Tm} {κ : Int} {W : Nat} (h1 : WorthL w u t κ W) : Calls Tryz.prog 55 #[u] w (GivesL w t κ W) := by
 obtain ⟨A, n, c, ls, g, B, m, d, l, rfl, h2, h3, h4, h5, rfl, rfl⟩ := h1
 cases hb : M.isL ls g l with
 | false => exact readL_false h2 h3 h4 h5 hb
 | true => exact readL_true h2 h3 h4 h5 hb

set_option maxHeartbeats 2000000 in
theorem scaledL_zero {w : World} {u v : Value} {t : M.Tm} {κ Y : Int} {W : Nat} (h1 : IsL w u t κ W) (h2 : Worth w v Y W) (hw : W ≤ 63) (hn : t.length ≤ 1000) (hy : Y = 0) :
 Calls Tryz.prog 62 #[u, v] w (GivesL w (M.scaleT t Y) (κ * Y) (W + W)) := by
 obtain ⟨A1, n1, c1, g1, B1, m1, d1, rfl, ht, hk, ho⟩ := h1
 have HC := hid ht.count
 have hb9 : n1 ≤ 9223372036854775807 := ht.count.2.2
 obtain ⟨g2, A2, n2, c2, rfl⟩ := h2.shape
 have R2 := hid h2
 have HYC := hid hy
 obtain ⟨s, hs⟩ : ∃ s : Int, Y.sign = s := ⟨_, rfl⟩
 have HS := hid hs
 have hs0 : (s == 0) = true := by rw [← hs]; rw [hy]; rfl
 clear hw hn hy hs h2 ht hk ho
 go_enter Tryz.func62, Tryz.ntmps62
 go_upto_region 1 with (fail)
 obtain ⟨E, -, BX1, BX2⟩ := open3 w #[.slice A1 n1 c1, .bool g1, .slice B1 m1 d1] 27 #[.bool g2, .slice A2 n2 c2] 25 #[.slice none 0 0, .bool false, .slice none 0 0] 27
 replace R2 := hid (R2.out.up E.out)
 refine wp_region_S [(0, 0), (1, 1), (2, 0)] fun wd hb => ?_
 replace E := hid (E.out.trans hb)
 replace BX1 := hid (BX1.out.up hb)
 replace BX2 := hid (BX2.out.up hb)
 replace R2 := hid (R2.out.up hb)
 clear hb
 have EY := hid (Ext.refl wd)
 refine WE.qq 8 (.agg #[.bool g2, .slice A2 n2 c2]) rfl (fun w' hk => by obtain ⟨ce0, ce1⟩ := ((BX1.out.up EY.out).up hk).c2; go_simp) ?_
 refine WE.cc 9 ((sign_e (R2.out.up EY.out) (s := s) (HS.out)).mono ?_)
 rintro e wn ⟨rfl, hb⟩
 refine ⟨_, rfl, hb, ?_⟩
 replace EY := hid (EY.out.trans hb)
 clear hb
 refine WE.pp 10 (.bool true) ?_
 simp only [Act.put, pA, pB, pC]
 refine WE.done ?_
 go_upto_region 2 with (fail)
 refine wp_region_S [(0, 0), (1, 4)] fun wd hb => ?_
 replace EY := hid (EY.out.trans hb)
 clear hb
 refine WE.pp 11 (.agg #[.slice none 0 0, .bool false, .slice none 0 0]) ?_
 simp only [Act.put, pA, pB, pC]
 refine WE.store3 (g := (w.heap.size + 2)) (x := .slice none 0 0) (y := .bool false) (z := .slice none 0 0) (t := 27) rfl rfl (by rfl) (fun w hb => ?_) (BX2.out.up EY.out) (by rfl) fun ws hk hs => ?_
 ·obtain ⟨ce0, ce1, ce2⟩ := hb.c3; obtain ⟨f0, f1, f2⟩ := hb.f3; go_simp
 intro hbx
 replace E := hid ((E.out.trans EY.out).keptG hk (by simp))
 replace BX2 := hid hbx
 clear hk hs hbx
 replace EY := hid (Ext.refl ws)
 refine WE.done ?_
 have r0 := (BX2.out.up EY.out).cell (o := 0) (v := .slice none 0 0) rfl
 have r1 := (BX2.out.up EY.out).cell (o := 1) (v := .bool false) rfl
 have r2 := (BX2.out.up EY.out).cell (o := 2) (v := .slice none 0 0) rfl
 repeat go_step
 exact bodyPost_ret (v := .agg #[.slice none 0 0, .bool false, .slice none 0 0]) (by simp [results, Tryz.results62, go_sem, r0, r1, r2]) rfl ⟨_, rfl, by rw [show M.scaleT t Y = [] by unfold M.scaleT; rw [if_pos HYC.out], show κ * Y = 0 by rw [HYC.out, Int.mul_zero]]; exact ⟨none, 0, 0, _, _, _, _, rfl, LTm.nil _ _, IsZ.nought.wide (Nat.zero_le _), trivial⟩, (E.out.trans EY.out)⟩

set_option maxHeartbeats 4000000 in
theorem scaledL_some {w : World} {u v : Value} {t : M.Tm} {κ Y : Int} {W : Nat} (h1 : IsL w u t κ W) (h2 : Worth w v Y W) (hw : W ≤ 63) (hn : t.length ≤ 1000) (hy : Y ≠ 0) :
 Calls Tryz.prog 62 #[u, v] w (GivesL w (M.scaleT t Y) (κ * Y) (W + W)) := by
 obtain ⟨A1, n1, c1, g1, B1, m1, d1, rfl, ht, hk, ho⟩ := h1
 have T1 := hid ht
 have Q1 := hid hk
 have O1 := hid ho
 have HC := hid ht.count
 have hb9 : n1 ≤ 9223372036854775807 := ht.count.2.2
 obtain ⟨g2, A2, n2, c2, rfl⟩ := h2.shape
 have R2 := hid h2
 have HW := hid hw
 have HN := hid hn
 have HYC := hid hy
 obtain ⟨s, hs⟩ : ∃ s : Int, Y.sign = s := ⟨_, rfl⟩
 have HS := hid hs
 have hs0 : (s == 0) = false := by rw [← hs]; rw [beq_eq_false_iff_ne]; exact fun e => hy (Int.sign_eq_zero_iff_zero.1 e)
 clear hw hn hy hs h2 ht hk ho
 go_enter Tryz.func62, Tryz.ntmps62
 go_upto_region 1 with (fail)
 obtain ⟨E, BX0, BX1, BX2⟩ := open3 w #[.slice A1 n1 c1, .bool g1, .slice B1 m1 d1] 27 #[.bool g2, .slice A2 n2 c2] 25 #[.slice none 0 0, .bool false, .slice none 0 0] 27
 replace Q1 := hid (Q1.out.up E.out)
 replace R2 := hid (R2.out.up E.out)
 refine wp_region_S [(0, 0), (1, 1), (2, 0)] fun wd hb => ?_
 replace E := hid (E.out.trans hb)
 replace BX0 := hid (BX0.out.up hb)
 replace BX1 := hid (BX1.out.up hb)
 replace BX2 := hid (BX2.out.up hb)
 replace Q1 := hid (Q1.out.up hb)
 replace R2 := hid (R2.out.up hb)
 clear hb
 have EY := hid (Ext.refl wd)
 refine WE.qq 8 (.agg #[.bool g2, .slice A2 n2 c2]) rfl (fun w' hk => by obtain ⟨ce0, ce1⟩ := ((BX1.out.up EY.out).up hk).c2; go_simp) ?_
 refine WE.cc 9 ((sign_e (R2.out.up EY.out) (s := s) (HS.out)).mono ?_)
 rintro e wn ⟨rfl, hb⟩
 refine ⟨_, rfl, hb, ?_⟩
 replace EY := hid (EY.out.trans hb)
 clear hb
 refine WE.pp 10 (.bool false) ?_
 simp only [Act.put, pA, pB, pC]
 refine WE.done ?_
 go_upto_region 3 with (fail)
 refine wp_region_S [(0, 0), (1, 0), (2, 0), (3, 1), (4, 0), (5, 1), (6, 4)] fun wd hb => ?_
 replace EY := hid (EY.out.trans hb)
 clear hb
 refine WE.pp 12 (.pointer (some ⟨(w.heap.size), 1, none⟩)) ?_
 refine WE.qq 13 (.agg #[.bool g1, .slice B1 m1 d1]) rfl (fun w' hk => by obtain ⟨ce0, ce1, ce2⟩ := ((BX0.out.up EY.out).up hk).c3; go_simp) ?_
 refine WE.qq 14 (.agg #[.bool g2, .slice A2 n2 c2]) rfl (fun w' hk => by obtain ⟨ce0, ce1⟩ := ((BX1.out.up EY.out).up hk).c2; go_simp) ?_
 refine WE.cc 15 ((mul_w (Q1.out.up EY.out).worth (R2.out.up EY.out) (by have := HW.out; omega) (by have := HW.out; omega) (.inl (by have := HW.out; omega))).mono ?_)
 rintro e wn ⟨v1, rfl, x1, hb⟩
 obtain ⟨g11, A11, n11, c11, rfl⟩ := x1.shape
 refine ⟨_, rfl, hb, ?_⟩
 replace EY := hid (EY.out.trans hb)
 have Q11 := hid x1
 clear hb x1
 refine WE.pp 16 (.agg #[.slice none 0 0, .bool g11, .slice A11 n11 c11]) ?_
 simp only [Act.put, pA, pB, pC]
 refine WE.new (d := some 5) (cs := #[.slice none 0 0, .bool false, .slice none 0 0]) (t := 27) (v := fun g => (.pointer (some ⟨g, 0, none⟩))) rfl rfl (by rfl) (fun w => by go_simp) fun gV5 wv hx0 hbox hge => ?_
 have HNV5BX0 := hid (show gV5 ≠ (w.heap.size) by have := (BX0.out.up EY.out).lt; omega)
 have HNV5BX1 := hid (show gV5 ≠ (w.heap.size + 1) by have := (BX1.out.up EY.out).lt; omega)
 have HNV5BX2 := hid (show gV5 ≠ (w.heap.size + 2) by have := (BX2.out.up EY.out).lt; omega)
 have HGV5 := hid (show w.heap.size ≤ gV5 by have := (E.out.trans EY.out).size; omega)
 replace EY := hid (EY.out.trans hx0)
 replace Q11 := hid (Q11.out.up hx0)
 have V5 : Hid (Box wv gV5 #[.slice none 0 0, .bool false, .slice none 0 0] 27) := hid hbox
 clear hx0 hbox hge
 simp only [Act.put, pA, pB, pC]
 refine WE.store3 (g := gV5) (x := .slice none 0 0) (y := .bool g11) (z := .slice A11 n11 c11) (t := 27) rfl rfl (by rfl) (fun w hb => ?_) V5.out (by rfl) fun ws hk hs => ?_
 ·obtain ⟨ce0, ce1, ce2⟩ := hb.c3; obtain ⟨f0, f1, f2⟩ := hb.f3; go_simp
 intro hbx
 replace E := hid ((E.out.trans EY.out).keptG hk HGV5.out)
 replace BX0 := hid ((BX0.out.up EY.out).kept hk (by simpa using HNV5BX0.out.symm))
 replace BX1 := hid ((BX1.out.up EY.out).kept hk (by simpa using HNV5BX1.out.symm))
 replace BX2 := hid ((BX2.out.up EY.out).kept hk (by simpa using HNV5BX2.out.symm))
 replace V5 := hid hbx
 replace R2 := hid ((R2.out.up EY.out).kz hs)
 replace Q11 := hid (Q11.out.kz hs)
 clear hk hs hbx
 replace EY := hid (Ext.refl ws)
 refine WE.done ?_
 go_upto_region 4 with (fail)
 refine wp_region_S [(0, 0), (1, 0), (2, 0), (3, 0)] fun wd hb => ?_
 replace EY := hid (EY.out.trans hb)
 clear hb
 refine WE.pp 17 (.pointer (some ⟨(w.heap.size), 0, none⟩)) ?_
 refine WE.qq 18 (.slice A1 n1 c1) rfl (fun w' hk => by have ce0 := ((BX0.out.up EY.out).up hk).k 0; go_simp) ?_
 refine WE.pp 19 (.int .i64 (n1 : Int)) ?_
 refine WE.pp 20 (.int .i64 (0)) ?_
 simp only [Act.put, pA, pB, pC]
 refine WE.done ?_
 have hlt5 := (V5.out.up EY.out).lt
 have hltx := (BX2.out.up EY.out).lt
 have hltc := (BX1.out.up EY.out).lt
 have hlt0 := (BX0.out.up EY.out).lt
 have hszw := (E.out.trans EY.out).size
 obtain ⟨base, hbase, HB5', HBX2', HBX1', HBX0', HBW'⟩ : ∃ base : Nat, base ≤ _ ∧ gV5 < base ∧ (w.heap.size + 2) < base ∧ (w.heap.size + 1) < base ∧ (w.heap.size) < base ∧ w.heap.size ≤ base := ⟨_, Nat.le_refl _, hlt5, hltx, hltc, hlt0, hszw⟩
 have HBV5 := hid HB5'
 have HBBX2 := hid HBX2'
 have HBBX1 := hid HBX1'
 have HBBX0 := hid HBX0'
 have HBW := hid HBW'
 clear HB5' HBX2' HBX1' HBX0' HBW' hlt5 hltx hltc hlt0 hszw
 go_wp2
 go_loopw [20] (fun x20 wr => ∃ (k : Nat) (Ao : Option Addr) (no : Nat) (co : Nat), x20 = .int .i64 (k : Int) ∧ k ≤ n1 ∧ Ext w wr ∧ base ≤ wr.heap.size ∧ Box wr gV5 #[.slice Ao no co, .bool g11, .slice A11 n11 c11] 27 ∧ Box wr (w.heap.size) #[.slice A1 n1 c1, .bool g1, .slice B1 m1 d1] 27 ∧ Box wr (w.heap.size + 1) #[.bool g2, .slice A2 n2 c2] 25 ∧ Box wr (w.heap.size + 2) #[.slice none 0 0, .bool false, .slice none 0 0] 27 ∧ Worth wr (.agg #[.bool g2, .slice A2 n2 c2]) Y W ∧ IsZ wr (.agg #[.bool g11, .slice A11 n11 c11]) (κ * Y) (W + W) ∧ LOwn base wr (.slice Ao no co) ((M.smap (t.take k) Y).map M.rawm) ∧ (∀ x ∈ M.smap (t.take k) Y, (M.limbs x.2.natAbs).length ≤ W + W)) (fun x20 _ => n1 - (intOf x20).toNat)
 case atStart => exact ⟨0, none, 0, 0, rfl, Nat.zero_le _, (E.out.trans EY.out), hbase, (V5.out.up EY.out), (BX0.out.up EY.out), (BX1.out.up EY.out), (BX2.out.up EY.out), (R2.out.up EY.out), (Q11.out.up EY.out), .inl ⟨rfl, rfl⟩, fun x hx => by simp [M.smap] at hx⟩
 case round =>
  clear E EY V5 BX0 BX1 BX2 R2 Q1 Q11 hbase
  obtain ⟨k, Ao, no, co, rfl, hr0, hr1, hr2, hr3, hr4, hr5, hr6, hr7, hr8, hr9, hr10⟩ := hrel
  have E := hid hr1
  have HBH := hid hr2
  have V5 := hid hr3
  have BX0 := hid hr4
  have BX1 := hid hr5
  have BX2 := hid hr6
  have R2 := hid hr7
  have Q11 := hid hr8
  have OWN := hid hr9
  have HOW := hid hr10
  clear hr1 hr2 hr3 hr4 hr5 hr6 hr7 hr8 hr9 hr10
  have EY := hid (Ext.refl wr)
  have hk := hr0
  by_cases hlt : k < n1
  ·have hlt' : decide ((k : Int) < (n1 : Int)) = true := decide_eq_true (by omega)
   obtain ⟨x, hx⟩ : ∃ x, t[k]? = some x := ⟨_, List.getElem?_eq_getElem (by rw [← HC.out.1]; exact hlt)⟩
   obtain ⟨ad, ge, Ae, ne, ce, rfl, ka, kb, kc, kz⟩ := T1.out.get hx
   obtain ⟨xv, xc⟩ := x
   have HX := hid hx
   have KA := hid ka
   have KB := hid kb
   have KC := hid kc
   have QE := hid (kz.up E.out)
   clear hx ka kb kc kz
   go_upto_region 5 with (fail)
   refine wp_region_S [(0, 0)] fun wd hb => ?_
   replace EY := hid (EY.out.trans hb)
   replace QE := hid (QE.out.up hb)
   clear hb
   refine WE.pp 21 (.bool true) ?_
   simp only [Act.put, pA, pB, pC]
   refine WE.done ?_
   go_upto_region 6 with (fail)
   refine wp_region_S [(0, 0), (1, 0), (2, 1), (3, 4)] fun wd hb => ?_
   replace EY := hid (EY.out.trans hb)
   replace QE := hid (QE.out.up hb)
   clear hb
   refine WE.pp 22 (.pointer (some (ad.add (k * 3)))) ?_
   refine WE.qq 23 (.agg #[.int .i64 xv, .bool ge, .slice Ae ne ce]) rfl (fun w' hk => by have ce0 : w'.cell? (ad.add (k * 3)) = some (.int .i64 xv) := (KA.out.up (E.out.trans EY.out)).up hk; have ce1 : w'.cell? ⟨(ad.add (k * 3)).block, (ad.add (k * 3)).off + 1, none⟩ = some (.bool ge) := (KB.out.up (E.out.trans EY.out)).up hk; have ce2 : w'.cell? ⟨(ad.add (k * 3)).block, (ad.add (k * 3)).off + 2, none⟩ = some (.slice Ae ne ce) := (KC.out.up (E.out.trans EY.out)).up hk; go_simp) ?_
   simp only [Act.put, pA, pB, pC]
   refine WE.new (d := some 7) (cs := #[.int .i64 0, .bool false, .slice none 0 0]) (t := 56) (v := fun g => (.pointer (some ⟨g, 0, none⟩))) rfl rfl (by rfl) (fun w => by go_simp) fun gV7 wv hx0 hbox hge => ?_
   have HNV7BX0 := hid (show gV7 ≠ (w.heap.size) by have := (BX0.out.up EY.out).lt; omega)
   have HNV7BX1 := hid (show gV7 ≠ (w.heap.size + 1) by have := (BX1.out.up EY.out).lt; omega)
   have HNV7BX2 := hid (show gV7 ≠ (w.heap.size + 2) by have := (BX2.out.up EY.out).lt; omega)
   have HNV7V5 := hid (show gV7 ≠ gV5 by have := (V5.out.up EY.out).lt; omega)
   have HGV7 := hid (show w.heap.size ≤ gV7 by have := (E.out.trans EY.out).size; omega)
   have HOOWNV7 := hid ((OWN.out.up EY.out).ne hge)
   replace EY := hid (EY.out.trans hx0)
   replace QE := hid (QE.out.up hx0)
   have V7 : Hid (Box wv gV7 #[.int .i64 0, .bool false, .slice none 0 0] 56) := hid hbox
   clear hx0 hbox hge
   simp only [Act.put, pA, pB, pC]
   refine WE.store3 (g := gV7) (x := .int .i64 xv) (y := .bool ge) (z := .slice Ae ne ce) (t := 56) rfl rfl (by rfl) (fun w hb => ?_) V7.out (by rfl) fun ws hk hs => ?_
   ·obtain ⟨ce0, ce1, ce2⟩ := hb.c3; obtain ⟨f0, f1, f2⟩ := hb.f3; go_simp
   intro hbx
   replace HBH := hid (Nat.le_trans HBH.out (Nat.le_trans EY.out.size hk.1.size))
   replace OWN := hid ((OWN.out.up EY.out).keptF hk hs HOOWNV7.out)
   replace E := hid ((E.out.trans EY.out).keptG hk HGV7.out)
   replace BX0 := hid ((BX0.out.up EY.out).kept hk (by simpa using HNV7BX0.out.symm))
   replace BX1 := hid ((BX1.out.up EY.out).kept hk (by simpa using HNV7BX1.out.symm))
   replace BX2 := hid ((BX2.out.up EY.out).kept hk (by simpa using HNV7BX2.out.symm))
   replace V5 := hid ((V5.out.up EY.out).kept hk (by simpa using HNV7V5.out.symm))
   replace V7 := hid hbx
   replace R2 := hid ((R2.out.up EY.out).kz hs)
   replace Q11 := hid ((Q11.out.up EY.out).kz hs)
   replace QE := hid (QE.out.kz hs)
   clear hk hs hbx
   replace EY := hid (Ext.refl ws)
   refine WE.done ?_
   go_upto_region 7 with (fail)
   refine wp_region_X [gV5, ownBlk base (.slice Ao no co)] [(0, 0), (1, 0), (2, 0), (3, 0), (4, 0), (5, 0), (6, 0), (7, 1), (8, 0), (9, 1), (10, 4), (11, 5), (12, 4)] (fun _ => (0, #[])) rfl (by kernel_rfl) (by intro j hj; cases hj) (fun _ _ d _ _ => by cases d <;> exact Iff.rfl) fun wd hb => ?_
   replace EY := hid (EY.out.trans hb)
   clear hb
   have HL1BX0 := hid (BX0.out.up EY.out).lt
   have HL1BX1 := hid (BX1.out.up EY.out).lt
   have HL1BX2 := hid (BX2.out.up EY.out).lt
   have HL1V5 := hid (V5.out.up EY.out).lt
   have HL1V7 := hid (V7.out.up EY.out).lt
   refine WX.pp 24 (.pointer (some ⟨gV5, 0, none⟩)) ?_
   refine WX.qq 25 (.slice Ao no co) rfl (fun w' hk => by have ce0 := ((V5.out.up EY.out).up hk).k 0; go_simp) ?_
   refine WX.pp 26 (.pointer (some ⟨gV7, 0, none⟩)) ?_
   refine WX.qq 27 (.int .i64 xv) rfl (fun w' hk => by have ce0 := ((V7.out.up EY.out).up hk).k 0; go_simp) ?_
   refine WX.pp 28 (.pointer (some ⟨gV7, 1, none⟩)) ?_
   refine WX.qq 29 (.agg #[.bool ge, .slice Ae ne ce]) rfl (fun w' hk => by obtain ⟨ce0, ce1, ce2⟩ := ((V7.out.up EY.out).up hk).c3; go_simp) ?_
   simp only [Act.put, pA, pB, pC]
   refine WX.qq 30 (.agg #[.bool g2, .slice A2 n2 c2]) rfl (fun w' hk => by obtain ⟨ce0, ce1⟩ := ((BX1.out.up EY.out).up hk).c2; go_simp) ?_
   refine WX.cc 31 ((mul_w (QE.out.up EY.out).worth (R2.out.up EY.out) (by have := HW.out; have := HC.out.1; have := HN.out; omega) (by have := HW.out; have := HC.out.1; have := HN.out; omega) (.inl (by have := HW.out; omega))).mono ?_)
   rintro e wn ⟨v1, rfl, x1, hb⟩
   obtain ⟨g12, A12, n12, c12, rfl⟩ := x1.shape
   refine ⟨_, rfl, hb, ?_⟩
   replace EY := hid (EY.out.trans hb)
   have Q12 := hid x1
   clear hb x1
   refine WX.pp 32 (.agg #[.int .i64 xv, .bool g12, .slice A12 n12 c12]) ?_
   simp only [Act.put, pA, pB, pC]
   refine WX.new (d := some 33) (cs := #[.int .i64 xv, .bool g12, .slice A12 n12 c12]) (t := 56) (v := fun g => (.slice (some ⟨g, 0, none⟩) 1 1)) rfl rfl (by rfl) (fun w => by go_simp) fun gL1 wv hx0 hbox hge => ?_
   replace EY := hid (EY.out.trans hx0)
   replace Q12 := hid (Q12.out.up hx0)
   have L1 : Hid (Box wv gL1 #[.int .i64 xv, .bool g12, .slice A12 n12 c12] 56) := hid hbox
   clear hx0 hbox hge
   simp only [Act.put, pA, pB, pC]
   obtain ⟨v9, wk, hrun, ho9, hk9, hs9⟩ := appL_run (V := xv) (OWN.out.up EY.out) L1.out Q12.out.fields.2.1 (by rw [List.length_map, M.smap_len, List.length_take]; have := HN.out; omega) (Nat.le_trans HBH.out EY.out.size) 22
   obtain ⟨A9, n9, c9, rfl⟩ := ho9.shape
   have HBLK := hid (OWN.out.up EY.out).blk
   refine WX.actK (d := some 34) rfl rfl (by rfl) (exec_app (.tmp 25) (.tmp 33) rfl rfl rfl hrun) (hk9.keptB (.inl (by simp))) ?_
   have HQ9 := hid Q12.out.fields
   replace E := hid (((E.out.trans EY.out)).own hk9 HBLK.out HBW.out)
   replace V5 := hid (Kept.box (X := []) ((V5.out.up EY.out)) hk9 HBLK.out HBV5.out)
   replace BX0 := hid (Kept.box (X := []) ((BX0.out.up EY.out)) hk9 HBLK.out HBBX0.out)
   replace BX1 := hid (Kept.box (X := []) ((BX1.out.up EY.out)) hk9 HBLK.out HBBX1.out)
   replace BX2 := hid (Kept.box (X := []) ((BX2.out.up EY.out)) hk9 HBLK.out HBBX2.out)
   replace R2 := hid ((R2.out.up EY.out).kz hs9)
   replace Q11 := hid ((Q11.out.up EY.out).kz hs9)
   have HSZ := hid hk9.1.size
   replace HBH := hid (Nat.le_trans HBH.out (Nat.le_trans EY.out.size HSZ.out))
   replace OWN := hid ho9
   replace EY := hid (Ext.refl wk)
   clear hrun ho9 hk9 hs9 HBLK HSZ L1 V7
   refine WX.any (d := some 35) rfl rfl (by rfl) (v := (.pointer (some ⟨gV5, 0, none⟩))) (fun w' hk => by go_simp) ?_
   simp only [Act.put, pA, pB, pC]
   refine WX.storeAt (g := gV5) (off := 0) (cs' := #[.slice A9 n9 c9, .bool g11, .slice A11 n11 c11]) (y := .slice A9 n9 c9) (t := 27) rfl rfl (by rfl) (fun w hb => ?_) (V5.out.up EY.out) (by rfl) rfl (.inl (by simp)) fun ws hk hs hbx => ?_
   ·have ce0 := hb.k 0; have f0 := hb.free 0; go_simp
   replace HBH := hid (Nat.le_trans HBH.out (Nat.le_trans EY.out.size hk.1.size))
   replace OWN := hid ((OWN.out.up EY.out).kept hk hs HBV5.out)
   replace E := hid ((E.out.trans EY.out).keptG hk HGV5.out)
   replace BX0 := hid ((BX0.out.up EY.out).kept hk (by simpa using HNV5BX0.out.symm))
   replace BX1 := hid ((BX1.out.up EY.out).kept hk (by simpa using HNV5BX1.out.symm))
   replace BX2 := hid ((BX2.out.up EY.out).kept hk (by simpa using HNV5BX2.out.symm))
   replace V5 := hid hbx
   replace R2 := hid ((R2.out.up EY.out).kz hs)
   replace Q11 := hid ((Q11.out.up EY.out).kz hs)
   clear hk hs hbx
   replace EY := hid (Ext.refl ws)
   clear Q12
   refine WX.done ?_
   go_wp2
   go_roundw
   case rel => exact ⟨k + 1, A9, n9, c9, by go_num, by omega, (E.out.trans EY.out), HBH.out, (V5.out.up EY.out), (BX0.out.up EY.out), (BX1.out.up EY.out), (BX2.out.up EY.out), (R2.out.up EY.out), (Q11.out.up EY.out), by rw [List.take_add_one, HX.out, Option.toList_some, M.smap_snoc, List.map_append]; have := (OWN.out.up EY.out); rw [HQ9.out.1] at this; exact this, fun y hy => by rw [List.take_add_one, HX.out, Option.toList_some, M.smap_snoc] at hy; rcases List.mem_append.1 hy with hy | hy; exact HOW.out y hy; simp at hy; subst hy; exact HQ9.out.2.2⟩
   case measure => simp [intOf]; all_goals omega
  ·obtain rfl : k = n1 := by omega
   have hlt' : decide ((k : Int) < (k : Int)) = false := by simp
   go_upto_region 5 with (fail)
   refine wp_region_S [(0, 0)] fun wd hb => ?_
   replace EY := hid (EY.out.trans hb)
   clear hb
   refine WE.pp 21 (.bool false) ?_
   simp only [Act.put, pA, pB, pC]
   refine WE.done ?_
   go_upto_region 9 with (fail)
   refine wp_region_S [(0, 0), (1, 4)] fun wd hb => ?_
   replace EY := hid (EY.out.trans hb)
   clear hb
   refine WE.qq 37 (.agg #[.slice Ao no co, .bool g11, .slice A11 n11 c11]) rfl (fun w' hk => by obtain ⟨ce0, ce1, ce2⟩ := ((V5.out.up EY.out).up hk).c3; go_simp) ?_
   simp only [Act.put, pA, pB, pC]
   refine WE.store3 (g := (w.heap.size + 2)) (x := .slice Ao no co) (y := .bool g11) (z := .slice A11 n11 c11) (t := 27) rfl rfl (by rfl) (fun w hb => ?_) (BX2.out.up EY.out) (by rfl) fun ws hk hs => ?_
   ·obtain ⟨ce0, ce1, ce2⟩ := hb.c3; obtain ⟨f0, f1, f2⟩ := hb.f3; go_simp
   intro hbx
   replace OWN := hid ((OWN.out.up EY.out).kept hk hs HBBX2.out)
   replace E := hid ((E.out.trans EY.out).keptG hk (by simp))
   replace BX2 := hid hbx
   replace Q11 := hid ((Q11.out.up EY.out).kz hs)
   clear hk hs hbx
   replace EY := hid (Ext.refl ws)
   refine WE.done ?_
   have r0 := (BX2.out.up EY.out).cell (o := 0) (v := .slice Ao no co) rfl
   have r1 := (BX2.out.up EY.out).cell (o := 1) (v := .bool g11) rfl
   have r2 := (BX2.out.up EY.out).cell (o := 2) (v := .slice A11 n11 c11) rfl
   repeat go_step
   exact bodyPost_ret (v := .agg #[.slice Ao no co, .bool g11, .slice A11 n11 c11]) (by simp [results, Tryz.results62, go_sem, r0, r1, r2]) rfl ⟨_, rfl, scale_post (by rw [HC.out.1]; exact List.take_length) (OWN.out.up EY.out) HOW.out (Q11.out.up EY.out) O1.out HYC.out, (E.out.trans EY.out)⟩

theorem scaledL_l {w : World} {u v : Value} {t : M.Tm} {κ Y : Int} {W : Nat} (h1 : IsL w u t κ W) (h2 : Worth w v Y W) (hw : W ≤ 63) (hn : t.length ≤ 1000) : Calls Tryz.prog 62 #[u, v] w (GivesL w (M.scaleT t Y) (κ * Y) (W + W)) := by
 by_cases hy : Y = 0
 ·exact scaledL_zero h1 h2 hw hn hy
 ·exact scaledL_some h1 h2 hw hn hy

end Go.Proofs.YtklmnmkmpkobhaaGreat
