/-
  Contracts of the reference's forms: what counts, a variable's factor, what divides all.
-/
import Derived.Test.YtklmnmkmpkobhaaGreatLRefA
namespace Go.Proofs.YtklmnmkmpkobhaaGreat
open Go.RowKit
set_option linter.unusedSimpArgs false
set_option linter.unusedVariables false

set_option maxHeartbeats 2000000 in
theorem rMayL_false {w : World} {g1 : Bool} {A1 B1 : Option Addr} {n1 c1 m1 d1 W : Nat} {ls : List (Int × Bool × List Nat)} {l1 : List Nat} (h1 : LList w (.slice A1 n1 c1) ls) (h2 : Num w w.heap.size (.slice B1 m1 d1) l1) (hw : ∀ x ∈ ls, x.2.2.length ≤ W) (hk : l1.length ≤ W) (hb : M.isL ls g1 l1 = false) :
 Calls Tryz.prog 13 #[.agg #[.slice A1 n1 c1, .bool g1, .slice B1 m1 d1]] w (GivesL w (M.ft ls g1 l1) (M.fk ls g1 l1) W) := by
 have HL := hid h1
 have N1 := hid h2
 have HB := hid hb
 clear h1 h2 hb hw hk
 go_enter Tryz.func13, Tryz.ntmps13
 go_upto_region 1 with (fail)
 obtain ⟨E, BX0, BX1⟩ := open2 w #[.slice A1 n1 c1, .bool g1, .slice B1 m1 d1] 27 #[.slice none 0 0, .bool false, .slice none 0 0] 27
 replace N1 := hid (N1.out.up E.out)
 refine wp_region_S [(0, 0), (1, 1), (2, 0)] fun wd hb => ?_
 replace E := hid (E.out.trans hb)
 replace BX0 := hid (BX0.out.up hb)
 replace BX1 := hid (BX1.out.up hb)
 replace N1 := hid (N1.out.up hb)
 clear hb
 have EY := hid (Ext.refl wd)
 refine WE.qq 3 (.agg #[.slice A1 n1 c1, .bool g1, .slice B1 m1 d1]) rfl (fun w' hk => by obtain ⟨ce0, ce1, ce2⟩ := ((BX0.out.up EY.out).up hk).c3; go_simp) ?_
 refine WE.cc 4 ((rIsL_any (HL.out.up (E.out.trans EY.out)) (N1.out.up EY.out) HB.out).mono ?_)
 rintro e wn ⟨rfl, hb⟩
 refine ⟨_, rfl, hb, ?_⟩
 replace EY := hid (EY.out.trans hb)
 clear hb
 refine WE.pp 5 (.bool true) ?_
 simp only [Act.put, pA, pB, pC]
 refine WE.done ?_
 go_upto_region 2 with (fail)
 refine wp_region_S [(0, 0), (1, 4)] fun wd hb => ?_
 replace EY := hid (EY.out.trans hb)
 clear hb
 refine WE.pp 6 (.agg #[.slice none 0 0, .bool false, .slice none 0 0]) ?_
 simp only [Act.put, pA, pB, pC]
 refine WE.store3 (g := (w.heap.size + 1)) (x := .slice none 0 0) (y := .bool false) (z := .slice none 0 0) (t := 27) rfl rfl (by rfl) (fun w hb => ?_) (BX1.out.up EY.out) (by rfl) fun ws hk hs => ?_
 ·obtain ⟨ce0, ce1, ce2⟩ := hb.c3; obtain ⟨f0, f1, f2⟩ := hb.f3; go_simp
 intro hbx
 replace E := hid ((E.out.trans EY.out).keptG hk (by simp))
 replace BX1 := hid hbx
 clear hk hs hbx
 replace EY := hid (Ext.refl ws)
 refine WE.done ?_
 have r0 := (BX1.out.up EY.out).cell (o := 0) (v := .slice none 0 0) rfl
 have r1 := (BX1.out.up EY.out).cell (o := 1) (v := .bool false) rfl
 have r2 := (BX1.out.up EY.out).cell (o := 2) (v := .slice none 0 0) rfl
 repeat go_step
 exact bodyPost_ret (v := .agg #[.slice none 0 0, .bool false, .slice none 0 0]) (by simp [results, Tryz.results13, go_sem, r0, r1, r2]) rfl ⟨_, rfl, by unfold M.ft M.fk; rw [if_neg (by simp [HB.out]), if_neg (by simp [HB.out])]; exact ⟨none, 0, 0, false, none, 0, 0, rfl, LTm.nil _ _, IsZ.nought.wide (Nat.zero_le _), trivial⟩, (E.out.trans EY.out)⟩

theorem isL_of {w : World} {g1 : Bool} {A1 B1 : Option Addr} {n1 c1 m1 d1 W : Nat} {ls : List (Int × Bool × List Nat)} {l1 : List Nat} (h1 : LList w (.slice A1 n1 c1) ls) (h2 : Num w w.heap.size (.slice B1 m1 d1) l1) (hw : ∀ x ∈ ls, x.2.2.length ≤ W) (hk : l1.length ≤ W) (hb : M.isL ls g1 l1 = true) :
 IsL w (.agg #[.slice A1 n1 c1, .bool g1, .slice B1 m1 d1]) (M.ft ls g1 l1) (M.fk ls g1 l1) W := by
 have hb' := hb
 unfold M.isL at hb'
 rw [Bool.and_eq_true] at hb'
 obtain ⟨i1, i2⟩ := M.isT_ok hb'.1
 unfold M.ft M.fk
 rw [if_pos hb, if_pos hb]
 refine ⟨A1, n1, c1, g1, B1, m1, d1, rfl, ⟨by rw [i2]; exact h1, fun x hx => ?_⟩, IsZ.mk (M.zv_lt hb'.2).symm ⟨by rw [M.limbs_zv hb'.2]; exact h2, by rw [M.limbs_zv hb'.2]; exact hk⟩, i1⟩
 have hx' : M.rawm x ∈ (M.tv ls).map M.rawm := List.mem_map.2 ⟨x, hx, rfl⟩
 rw [i2] at hx'
 exact hw _ hx'

set_option maxHeartbeats 2000000 in
theorem rMayL_true {w : World} {g1 : Bool} {A1 B1 : Option Addr} {n1 c1 m1 d1 W : Nat} {ls : List (Int × Bool × List Nat)} {l1 : List Nat} (h1 : LList w (.slice A1 n1 c1) ls) (h2 : Num w w.heap.size (.slice B1 m1 d1) l1) (hw : ∀ x ∈ ls, x.2.2.length ≤ W) (hk : l1.length ≤ W) (hb : M.isL ls g1 l1 = true) :
 Calls Tryz.prog 13 #[.agg #[.slice A1 n1 c1, .bool g1, .slice B1 m1 d1]] w (GivesL w (M.ft ls g1 l1) (M.fk ls g1 l1) W) := by
 have HL := hid h1
 have N1 := hid h2
 have HB := hid hb
 have HW := hid hw
 have HK := hid hk
 clear h1 h2 hb hw hk
 go_enter Tryz.func13, Tryz.ntmps13
 go_upto_region 1 with (fail)
 obtain ⟨E, BX0, BX1⟩ := open2 w #[.slice A1 n1 c1, .bool g1, .slice B1 m1 d1] 27 #[.slice none 0 0, .bool false, .slice none 0 0] 27
 replace N1 := hid (N1.out.up E.out)
 refine wp_region_S [(0, 0), (1, 1), (2, 0)] fun wd hb => ?_
 replace E := hid (E.out.trans hb)
 replace BX0 := hid (BX0.out.up hb)
 replace BX1 := hid (BX1.out.up hb)
 replace N1 := hid (N1.out.up hb)
 clear hb
 have EY := hid (Ext.refl wd)
 refine WE.qq 3 (.agg #[.slice A1 n1 c1, .bool g1, .slice B1 m1 d1]) rfl (fun w' hk => by obtain ⟨ce0, ce1, ce2⟩ := ((BX0.out.up EY.out).up hk).c3; go_simp) ?_
 refine WE.cc 4 ((rIsL_any (HL.out.up (E.out.trans EY.out)) (N1.out.up EY.out) HB.out).mono ?_)
 rintro e wn ⟨rfl, hb⟩
 refine ⟨_, rfl, hb, ?_⟩
 replace EY := hid (EY.out.trans hb)
 clear hb
 refine WE.pp 5 (.bool false) ?_
 simp only [Act.put, pA, pB, pC]
 refine WE.done ?_
 go_upto_region 3 with (fail)
 refine wp_region_S [(0, 0), (1, 4)] fun wd hb => ?_
 replace EY := hid (EY.out.trans hb)
 clear hb
 refine WE.qq 7 (.agg #[.slice A1 n1 c1, .bool g1, .slice B1 m1 d1]) rfl (fun w' hk => by obtain ⟨ce0, ce1, ce2⟩ := ((BX0.out.up EY.out).up hk).c3; go_simp) ?_
 simp only [Act.put, pA, pB, pC]
 refine WE.store3 (g := (w.heap.size + 1)) (x := .slice A1 n1 c1) (y := .bool g1) (z := .slice B1 m1 d1) (t := 27) rfl rfl (by rfl) (fun w hb => ?_) (BX1.out.up EY.out) (by rfl) fun ws hk hs => ?_
 ·obtain ⟨ce0, ce1, ce2⟩ := hb.c3; obtain ⟨f0, f1, f2⟩ := hb.f3; go_simp
 intro hbx
 replace E := hid ((E.out.trans EY.out).keptG hk (by simp))
 replace BX1 := hid hbx
 replace N1 := hid ((N1.out.up EY.out).kz hs)
 clear hk hs hbx
 replace EY := hid (Ext.refl ws)
 refine WE.done ?_
 have r0 := (BX1.out.up EY.out).cell (o := 0) (v := .slice A1 n1 c1) rfl
 have r1 := (BX1.out.up EY.out).cell (o := 1) (v := .bool g1) rfl
 have r2 := (BX1.out.up EY.out).cell (o := 2) (v := .slice B1 m1 d1) rfl
 repeat go_step
 exact bodyPost_ret (v := .agg #[.slice A1 n1 c1, .bool g1, .slice B1 m1 d1]) (by simp [results, Tryz.results13, go_sem, r0, r1, r2]) rfl ⟨_, rfl, isL_of (HL.out.up (E.out.trans EY.out)) (N1.out.up EY.out) HW.out HK.out HB.out, (E.out.trans EY.out)⟩

theorem rMayL_l {w : World} {u : Value} {t : M.Tm} {κ : Int} {W : Nat} (h1 : WorthL w u t κ W) : Calls Tryz.prog 13 #[u] w (GivesL w t κ W) := by
 obtain ⟨A, n, c, ls, g, B, m, d, l, rfl, h2, h3, h4, h5, rfl, rfl⟩ := h1
 cases hb : M.isL ls g l with
 | false => exact rMayL_false h2 h3 h4 h5 hb
 | true => exact rMayL_true h2 h3 h4 h5 hb

set_option maxHeartbeats 2000000 in
theorem rCoef_l {w : World} {u : Value} {t : M.Tm} {κ : Int} {W : Nat} (h1 : WorthL w u t κ W) (v : Int) :
 Calls Tryz.prog 29 #[u, .int .i64 v] w (GivesZ w (M.coef t v) W) := by
 obtain ⟨A1, n1, c1, g1, B1, m1, d1, rfl⟩ := h1.shape
 have R1 := hid h1
 clear h1
 go_enter Tryz.func29, Tryz.ntmps29
 go_upto_region 1 with (fail)
 obtain ⟨E, BX0, BX1⟩ := open2 w #[.slice A1 n1 c1, .bool g1, .slice B1 m1 d1] 27 #[.bool false, .slice none 0 0] 25
 replace R1 := hid (R1.out.up E.out)
 refine wp_region_S [(0, 0), (1, 1), (2, 1), (3, 4)] fun wd hb => ?_
 replace E := hid (E.out.trans hb)
 replace BX0 := hid (BX0.out.up hb)
 replace BX1 := hid (BX1.out.up hb)
 replace R1 := hid (R1.out.up hb)
 clear hb
 have EY := hid (Ext.refl wd)
 refine WE.qq 7 (.agg #[.slice A1 n1 c1, .bool g1, .slice B1 m1 d1]) rfl (fun w' hk => by obtain ⟨ce0, ce1, ce2⟩ := ((BX0.out.up EY.out).up hk).c3; go_simp) ?_
 refine WE.cc 8 ((rMayL_l (R1.out.up EY.out)).mono ?_)
 rintro e w11 ⟨v1, rfl, x1, hb⟩
 obtain ⟨A11, n11, c11, g11, B11, m11, d11, rfl, t1, k1, o1⟩ := x1
 refine ⟨_, rfl, hb, ?_⟩
 replace EY := hid (EY.out.trans hb)
 have T11 := hid t1
 have O11 := hid o1
 have F11 := hid (Ext.refl w11)
 clear hb t1 k1 o1
 simp only [Act.put, pA, pB, pC]
 refine WE.new (d := some 5) (cs := #[.slice none 0 0, .bool false, .slice none 0 0]) (t := 27) (v := fun g => (.pointer (some ⟨g, 0, none⟩))) rfl rfl (by rfl) (fun w => by go_simp) fun gV5 wv hx0 hbox hge => ?_
 have HNV5BX1 := hid (show gV5 ≠ (w.heap.size + 1) by have := (BX1.out.up EY.out).lt; omega)
 have HGV5 := hid (show w.heap.size ≤ gV5 by have := (E.out.trans EY.out).size; omega)
 have HAF11V5 := hid (show w11.heap.size ≤ gV5 by have := F11.out.size; omega)
 replace EY := hid (EY.out.trans hx0)
 replace F11 := hid (F11.out.trans hx0)
 have V5 : Hid (Box wv gV5 #[.slice none 0 0, .bool false, .slice none 0 0] 27) := hid hbox
 clear hx0 hbox hge
 simp only [Act.put, pA, pB, pC]
 refine WE.store3 (g := gV5) (x := .slice A11 n11 c11) (y := .bool g11) (z := .slice B11 m11 d11) (t := 27) rfl rfl (by rfl) (fun w hb => ?_) V5.out (by rfl) fun ws hk hs => ?_
 ·obtain ⟨ce0, ce1, ce2⟩ := hb.c3; obtain ⟨f0, f1, f2⟩ := hb.f3; go_simp
 intro hbx
 replace F11 := hid (F11.out.keptG hk HAF11V5.out)
 replace E := hid ((E.out.trans EY.out).keptG hk HGV5.out)
 replace BX1 := hid ((BX1.out.up EY.out).kept hk (by simpa using HNV5BX1.out.symm))
 replace V5 := hid hbx
 clear hk hs hbx
 replace EY := hid (Ext.refl ws)
 refine WE.done ?_
 have HC := hid T11.out.count
 have hb9 : n11 ≤ 9223372036854775807 := T11.out.count.2.2
 clear R1
 go_wp2
 go_loopw [6] (fun i wr => ∃ k : Nat, k ≤ n11 ∧ i = .int .i64 (k : Int) ∧ (∀ x ∈ t.take k, x.1 ≠ v) ∧ Ext w wr ∧ Ext w11 wr ∧ Box wr gV5 #[.slice A11 n11 c11, .bool g11, .slice B11 m11 d11] 27 ∧ Box wr (w.heap.size + 1) #[.bool false, .slice none 0 0] 25) (fun i _ => n11 - (intOf i).toNat)
 case atStart => exact ⟨0, Nat.zero_le _, rfl, fun x hx => by simp at hx, (E.out.trans EY.out), F11.out, (V5.out.up EY.out), (BX1.out.up EY.out)⟩
 case round =>
  clear E EY F11 V5 BX1 BX0
  obtain ⟨k, hk, rfl, hno, hext, hf, hv5, hb1⟩ := hrel
  have E := hid hext
  have F11 := hid hf
  have V5 := hid hv5
  have BX1 := hid hb1
  have HNO := hid hno
  clear hext hf hv5 hb1 hno
  have EY := hid (Ext.refl wr)
  by_cases hlt : k < n11
  ·have hlt' : decide ((k : Int) < (n11 : Int)) = true := decide_eq_true (by omega)
   obtain ⟨x, hx⟩ : ∃ x, t[k]? = some x := ⟨_, List.getElem?_eq_getElem (by rw [← HC.out.1]; exact hlt)⟩
   obtain ⟨ad, ge, Ae, ne, ce, rfl, ka, kb, kc, kz⟩ := T11.out.get hx
   have HX := hid hx
   have KA := hid ka
   have KB := hid kb
   have KC := hid kc
   have KZ := hid kz
   clear hx ka kb kc kz
   obtain ⟨xv, xc⟩ := x
   go_upto_region 3 with (fail)
   refine wp_region_S [(0, 0), (1, 0), (2, 0), (3, 0), (4, 0)] fun wd hb => ?_
   replace EY := hid (EY.out.trans hb)
   replace F11 := hid (F11.out.trans hb)
   clear hb
   refine WE.pp 9 (.int .i64 (k : Int)) ?_
   refine WE.pp 10 (.pointer (some ⟨gV5, 0, none⟩)) ?_
   refine WE.qq 11 (.slice (some ad) n11 c11) rfl (fun w' hk => by have ce0 := ((V5.out.up EY.out).up hk).k 0; go_simp) ?_
   refine WE.pp 12 (.int .i64 (n11 : Int)) ?_
   refine WE.pp 13 (.bool true) ?_
   simp only [Act.put, pA, pB, pC]
   refine WE.done ?_
   by_cases hv : xv = v
   ·have hv' : (xv == v) = true := by rw [hv]; simp
    go_upto_region 5 with (fail)
    refine wp_region_S [(0, 0), (1, 0), (2, 0), (3, 0), (4, 0), (5, 0), (6, 0), (7, 0)] fun wd hb => ?_
    replace EY := hid (EY.out.trans hb)
    replace F11 := hid (F11.out.trans hb)
    clear hb
    refine WE.pp 16 (.pointer (some ⟨gV5, 0, none⟩)) ?_
    refine WE.qq 17 (.slice (some ad) n11 c11) rfl (fun w' hk => by have ce0 := ((V5.out.up EY.out).up hk).k 0; go_simp) ?_
    refine WE.pp 18 (.int .i64 (k : Int)) ?_
    refine WE.pp 19 (.pointer (some (ad.add (k * 3)))) ?_
    refine WE.pp 20 (.pointer (some (ad.add (k * 3)))) ?_
    refine WE.qq 21 (.int .i64 xv) rfl (fun w' hk => by have ce0 : w'.cell? (ad.add (k * 3)) = some (.int .i64 xv) := (KA.out.up F11.out).up hk; go_simp) ?_
    simp only [Act.put, pA, pB, pC]
    refine WE.pp 22 (.int .i64 v) ?_
    refine WE.pp 23 (.bool true) ?_
    simp only [Act.put, pA, pB, pC]
    refine WE.done ?_
    have Q30 := hid (KZ.out.up F11.out)
    go_upto_region 6 with (fail)
    refine wp_region_S [(0, 0), (1, 0), (2, 0), (3, 0), (4, 0), (5, 0), (6, 4)] fun wd hb => ?_
    replace EY := hid (EY.out.trans hb)
    replace Q30 := hid (Q30.out.up hb)
    replace F11 := hid (F11.out.trans hb)
    clear hb
    refine WE.pp 24 (.pointer (some ⟨gV5, 0, none⟩)) ?_
    refine WE.qq 25 (.slice (some ad) n11 c11) rfl (fun w' hk => by have ce0 := ((V5.out.up EY.out).up hk).k 0; go_simp) ?_
    refine WE.pp 26 (.int .i64 (k : Int)) ?_
    refine WE.pp 27 (.pointer (some (ad.add (k * 3)))) ?_
    refine WE.pp 28 (.pointer (some ⟨(ad.add (k * 3)).block, (ad.add (k * 3)).off + 1, none⟩)) ?_
    refine WE.qq 29 (.agg #[.bool ge, .slice Ae ne ce]) rfl (fun w' hk => by have ce1 : w'.cell? ⟨(ad.add (k * 3)).block, (ad.add (k * 3)).off + 1, none⟩ = some (.bool ge) := (KB.out.up F11.out).up hk; have ce2 : w'.cell? ⟨(ad.add (k * 3)).block, (ad.add (k * 3)).off + 2, none⟩ = some (.slice Ae ne ce) := (KC.out.up F11.out).up hk; go_simp) ?_
    simp only [Act.put, pA, pB, pC]
    clear F11 KA
    refine WE.store2 (g := (w.heap.size + 1)) (x := .bool ge) (y := .slice Ae ne ce) (t := 25) rfl rfl (by rfl) (fun w hb => ?_) (BX1.out.up EY.out) (by rfl) fun ws hk hs => ?_
    ·obtain ⟨ce0, ce1⟩ := hb.c2; obtain ⟨f0, f1⟩ := hb.f2; go_simp
    intro hbx
    replace E := hid ((E.out.trans EY.out).keptG hk (by simp))
    replace BX1 := hid hbx
    replace V5 := hid ((V5.out.up EY.out).kept hk (by simpa using HNV5BX1.out))
    replace Q30 := hid (Q30.out.kz hs)
    clear hk hs hbx
    replace EY := hid (Ext.refl ws)
    refine WE.done ?_
    have r0 := (BX1.out.up EY.out).cell (o := 0) (v := .bool ge) rfl
    have r1 := (BX1.out.up EY.out).cell (o := 1) (v := .slice Ae ne ce) rfl
    repeat go_step
    exact bodyPost_ret (v := .agg #[.bool ge, .slice Ae ne ce]) (by simp [results, Tryz.results29, go_sem, r0, r1]) rfl ⟨_, rfl, by rw [← hv, M.coef_at O11.out HX.out]; exact (Q30.out.up EY.out), (E.out.trans EY.out)⟩
   ·have hv' : (xv == v) = false := by simpa using hv
    go_upto_region 5 with (fail)
    refine wp_region_S [(0, 0), (1, 0), (2, 0), (3, 0), (4, 0), (5, 0), (6, 0), (7, 0)] fun wd hb => ?_
    replace EY := hid (EY.out.trans hb)
    replace F11 := hid (F11.out.trans hb)
    clear hb
    refine WE.pp 16 (.pointer (some ⟨gV5, 0, none⟩)) ?_
    refine WE.qq 17 (.slice (some ad) n11 c11) rfl (fun w' hk => by have ce0 := ((V5.out.up EY.out).up hk).k 0; go_simp) ?_
    refine WE.pp 18 (.int .i64 (k : Int)) ?_
    refine WE.pp 19 (.pointer (some (ad.add (k * 3)))) ?_
    refine WE.pp 20 (.pointer (some (ad.add (k * 3)))) ?_
    refine WE.qq 21 (.int .i64 xv) rfl (fun w' hk => by have ce0 : w'.cell? (ad.add (k * 3)) = some (.int .i64 xv) := (KA.out.up F11.out).up hk; go_simp) ?_
    simp only [Act.put, pA, pB, pC]
    refine WE.pp 22 (.int .i64 v) ?_
    refine WE.pp 23 (.bool false) ?_
    simp only [Act.put, pA, pB, pC]
    refine WE.done ?_
    go_wp2
    go_roundw
    case rel => exact ⟨k + 1, by omega, by go_num, fun y hy => by rw [List.take_add_one, HX.out] at hy; simp at hy; rcases hy with hy | rfl; exact HNO.out y (by simpa using hy); exact hv, (E.out.trans EY.out), F11.out, (V5.out.up EY.out), (BX1.out.up EY.out)⟩
    case measure => simp [intOf]; all_goals omega
  ·obtain rfl : k = n11 := by omega
   have hlt' : decide ((k : Int) < (k : Int)) = false := by simp
   clear F11
   go_upto_region 3 with (fail)
   refine wp_region_S [(0, 0), (1, 0), (2, 0), (3, 0), (4, 0)] fun wd hb => ?_
   replace EY := hid (EY.out.trans hb)
   clear hb
   refine WE.pp 9 (.int .i64 (k : Int)) ?_
   refine WE.pp 10 (.pointer (some ⟨gV5, 0, none⟩)) ?_
   refine WE.qq 11 (.slice A11 k c11) rfl (fun w' hk => by have ce0 := ((V5.out.up EY.out).up hk).k 0; go_simp) ?_
   refine WE.pp 12 (.int .i64 (k : Int)) ?_
   refine WE.pp 13 (.bool false) ?_
   simp only [Act.put, pA, pB, pC]
   refine WE.done ?_
   go_upto_region 7 with (fail)
   refine wp_region_S [(0, 0), (1, 4)] fun wd hb => ?_
   replace EY := hid (EY.out.trans hb)
   clear hb
   refine WE.pp 30 (.agg #[.bool false, .slice none 0 0]) ?_
   simp only [Act.put, pA, pB, pC]
   refine WE.store2 (g := (w.heap.size + 1)) (x := .bool false) (y := .slice none 0 0) (t := 25) rfl rfl (by rfl) (fun w hb => ?_) (BX1.out.up EY.out) (by rfl) fun ws hk hs => ?_
   ·obtain ⟨ce0, ce1⟩ := hb.c2; obtain ⟨f0, f1⟩ := hb.f2; go_simp
   intro hbx
   replace E := hid ((E.out.trans EY.out).keptG hk (by simp))
   replace BX1 := hid hbx
   clear hk hs hbx
   replace EY := hid (Ext.refl ws)
   refine WE.done ?_
   have r0 := (BX1.out.up EY.out).cell (o := 0) (v := .bool false) rfl
   have r1 := (BX1.out.up EY.out).cell (o := 1) (v := .slice none 0 0) rfl
   repeat go_step
   exact bodyPost_ret (v := .agg #[.bool false, .slice none 0 0]) (by simp [results, Tryz.results29, go_sem, r0, r1]) rfl ⟨_, rfl, by rw [M.coef_none (fun x hx => HNO.out x (by rw [HC.out.1, List.take_length]; exact hx))]; exact IsZ.nought.wide (Nat.zero_le _), (E.out.trans EY.out)⟩

set_option maxHeartbeats 2000000 in
theorem rGcdL_l {w : World} {u : Value} {t : M.Tm} {κ : Int} {W : Nat} (h1 : WorthL w u t κ W) (hw : W ≤ 100000) :
 Calls Tryz.prog 35 #[u] w (GivesZ w (M.gcdT t : Int) W) := by
 obtain ⟨A1, n1, c1, g1, B1, m1, d1, rfl⟩ := h1.shape
 have R1 := hid h1
 have HW := hid hw
 clear hw
 clear h1
 go_enter Tryz.func35, Tryz.ntmps35
 go_upto_region 1 with (fail)
 obtain ⟨E, BX0, BX1⟩ := open2 w #[.slice A1 n1 c1, .bool g1, .slice B1 m1 d1] 27 #[.bool false, .slice none 0 0] 25
 replace R1 := hid (R1.out.up E.out)
 refine wp_region_S [(0, 0), (1, 1), (2, 1), (3, 4)] fun wd hb => ?_
 replace E := hid (E.out.trans hb)
 replace BX0 := hid (BX0.out.up hb)
 replace BX1 := hid (BX1.out.up hb)
 replace R1 := hid (R1.out.up hb)
 clear hb
 have EY := hid (Ext.refl wd)
 refine WE.qq 6 (.agg #[.slice A1 n1 c1, .bool g1, .slice B1 m1 d1]) rfl (fun w' hk => by obtain ⟨ce0, ce1, ce2⟩ := ((BX0.out.up EY.out).up hk).c3; go_simp) ?_
 refine WE.cc 7 ((rMayL_l (R1.out.up EY.out)).mono ?_)
 rintro e w11 ⟨v1, rfl, x1, hb⟩
 obtain ⟨A11, n11, c11, g11, B11, m11, d11, rfl, t1, k1, o1⟩ := x1
 refine ⟨_, rfl, hb, ?_⟩
 replace EY := hid (EY.out.trans hb)
 have T11 := hid t1
 have F11 := hid (Ext.refl w11)
 clear hb t1 k1 o1
 simp only [Act.put, pA, pB, pC]
 refine WE.new (d := some 3) (cs := #[.slice none 0 0, .bool false, .slice none 0 0]) (t := 27) (v := fun g => (.pointer (some ⟨g, 0, none⟩))) rfl rfl (by rfl) (fun w => by go_simp) fun gV3 wv hx0 hbox hge => ?_
 have HNV3BX1 := hid (show gV3 ≠ (w.heap.size + 1) by have := (BX1.out.up EY.out).lt; omega)
 have HGV3 := hid (show w.heap.size ≤ gV3 by have := (E.out.trans EY.out).size; omega)
 have HAF11V3 := hid (show w11.heap.size ≤ gV3 by have := F11.out.size; omega)
 replace EY := hid (EY.out.trans hx0)
 replace F11 := hid (F11.out.trans hx0)
 have V3 : Hid (Box wv gV3 #[.slice none 0 0, .bool false, .slice none 0 0] 27) := hid hbox
 clear hx0 hbox hge
 simp only [Act.put, pA, pB, pC]
 refine WE.store3 (g := gV3) (x := .slice A11 n11 c11) (y := .bool g11) (z := .slice B11 m11 d11) (t := 27) rfl rfl (by rfl) (fun w hb => ?_) V3.out (by rfl) fun ws hk hs => ?_
 ·obtain ⟨ce0, ce1, ce2⟩ := hb.c3; obtain ⟨f0, f1, f2⟩ := hb.f3; go_simp
 intro hbx
 replace F11 := hid (F11.out.keptG hk HAF11V3.out)
 replace E := hid ((E.out.trans EY.out).keptG hk HGV3.out)
 replace BX1 := hid ((BX1.out.up EY.out).kept hk (by simpa using HNV3BX1.out.symm))
 replace V3 := hid hbx
 clear hk hs hbx
 replace EY := hid (Ext.refl ws)
 refine WE.done ?_
 clear R1
 go_upto_region 2 with (fail)
 refine wp_region_S [(0, 0), (1, 1), (2, 4)] fun wd hb => ?_
 replace EY := hid (EY.out.trans hb)
 replace F11 := hid (F11.out.trans hb)
 clear hb
 refine WE.pp 8 (.agg #[.bool false, .slice none 0 0]) ?_
 simp only [Act.put, pA, pB, pC]
 refine WE.new (d := some 4) (cs := #[.bool false, .slice none 0 0]) (t := 25) (v := fun g => (.pointer (some ⟨g, 0, none⟩))) rfl rfl (by rfl) (fun w => by go_simp) fun gV4 wv hx0 hbox hge => ?_
 have HNV4BX1 := hid (show gV4 ≠ (w.heap.size + 1) by have := (BX1.out.up EY.out).lt; omega)
 have HNV4V3 := hid (show gV4 ≠ gV3 by have := (V3.out.up EY.out).lt; omega)
 have HGV4 := hid (show w.heap.size ≤ gV4 by have := (E.out.trans EY.out).size; omega)
 have HAF11V4 := hid (show w11.heap.size ≤ gV4 by have := F11.out.size; omega)
 replace EY := hid (EY.out.trans hx0)
 replace F11 := hid (F11.out.trans hx0)
 have V4 : Hid (Box wv gV4 #[.bool false, .slice none 0 0] 25) := hid hbox
 clear hx0 hbox hge
 simp only [Act.put, pA, pB, pC]
 refine WE.store2 (g := gV4) (x := .bool false) (y := .slice none 0 0) (t := 25) rfl rfl (by rfl) (fun w hb => ?_) V4.out (by rfl) fun ws hk hs => ?_
 ·obtain ⟨ce0, ce1⟩ := hb.c2; obtain ⟨f0, f1⟩ := hb.f2; go_simp
 intro hbx
 replace F11 := hid (F11.out.keptG hk HAF11V4.out)
 replace E := hid ((E.out.trans EY.out).keptG hk HGV4.out)
 replace BX1 := hid ((BX1.out.up EY.out).kept hk (by simpa using HNV4BX1.out.symm))
 replace V3 := hid ((V3.out.up EY.out).kept hk (by simpa using HNV4V3.out.symm))
 replace V4 := hid hbx
 clear hk hs hbx
 replace EY := hid (Ext.refl ws)
 refine WE.done ?_
 have HC := hid T11.out.count
 have hb9 : n11 ≤ 9223372036854775807 := T11.out.count.2.2
 go_wp2
 go_loopw [5] (fun i wr => ∃ (k : Nat) (gg : Bool) (Ag : Option Addr) (ng cg : Nat), k ≤ n11 ∧ i = .int .i64 (k : Int) ∧ Ext w wr ∧ Ext w11 wr ∧ Box wr gV3 #[.slice A11 n11 c11, .bool g11, .slice B11 m11 d11] 27 ∧ Box wr (w.heap.size + 1) #[.bool false, .slice none 0 0] 25 ∧ Box wr gV4 #[.bool gg, .slice Ag ng cg] 25 ∧ IsZ wr (.agg #[.bool gg, .slice Ag ng cg]) (M.gcdT (t.take k) : Int) W) (fun i _ => n11 - (intOf i).toNat)
 case atStart => exact ⟨0, false, none, 0, 0, Nat.zero_le _, rfl, E.out, F11.out, V3.out, BX1.out, V4.out, by rw [List.take_zero]; exact IsZ.nought.wide (Nat.zero_le _)⟩
 case round =>
  clear E EY F11 V3 V4 BX1
  obtain ⟨k, gg, Ag, ng, cg, hk, rfl, hext, hf, hv3, hb1, hv4, hq⟩ := hrel
  have E := hid hext
  have F11 := hid hf
  have V3 := hid hv3
  have BX1 := hid hb1
  have V4 := hid hv4
  have Q10 := hid hq
  clear hext hf hv3 hb1 hv4 hq
  have EY := hid (Ext.refl wr)
  by_cases hlt : k < n11
  ·have hlt' : decide ((k : Int) < (n11 : Int)) = true := decide_eq_true (by omega)
   obtain ⟨x, hx⟩ : ∃ x, t[k]? = some x := ⟨_, List.getElem?_eq_getElem (by rw [← HC.out.1]; exact hlt)⟩
   obtain ⟨ad, ge, Ae, ne, ce, rfl, ka, kb, kc, kz⟩ := T11.out.get hx
   have HX := hid hx
   have KB := hid kb
   have KC := hid kc
   have QE := hid (kz.up F11.out)
   clear hx ka kb kc kz
   obtain ⟨xv, xc⟩ := x
   go_upto_region 4 with (fail)
   refine wp_region_S [(0, 0), (1, 0), (2, 0), (3, 0), (4, 0)] fun wd hb => ?_
   replace EY := hid (EY.out.trans hb)
   replace QE := hid (QE.out.up hb)
   replace F11 := hid (F11.out.trans hb)
   clear hb
   refine WE.pp 9 (.int .i64 (k : Int)) ?_
   refine WE.pp 10 (.pointer (some ⟨gV3, 0, none⟩)) ?_
   refine WE.qq 11 (.slice (some ad) n11 c11) rfl (fun w' hk => by have ce0 := ((V3.out.up EY.out).up hk).k 0; go_simp) ?_
   refine WE.pp 12 (.int .i64 (n11 : Int)) ?_
   refine WE.pp 13 (.bool true) ?_
   simp only [Act.put, pA, pB, pC]
   refine WE.done ?_
   go_upto_region 6 with (fail)
   refine wp_region_D [(0, 0), (1, 0), (2, 0), (3, 0), (4, 0), (5, 0), (6, 0), (7, 1), (8, 4)] fun wd hb => ?_
   replace EY := hid (EY.out.trans hb)
   replace QE := hid (QE.out.up hb)
   replace F11 := hid (F11.out.trans hb)
   clear hb
   refine WE.qq 16 (.agg #[.bool gg, .slice Ag ng cg]) rfl (fun w' hk => by obtain ⟨ce0, ce1⟩ := ((V4.out.up EY.out).up hk).c2; go_simp) ?_
   refine WE.pp 17 (.pointer (some ⟨gV3, 0, none⟩)) ?_
   refine WE.qq 18 (.slice (some ad) n11 c11) rfl (fun w' hk => by have ce0 := ((V3.out.up EY.out).up hk).k 0; go_simp) ?_
   refine WE.pp 19 (.int .i64 (k : Int)) ?_
   refine WE.pp 20 (.pointer (some (ad.add (k * 3)))) ?_
   refine WE.pp 21 (.pointer (some ⟨(ad.add (k * 3)).block, (ad.add (k * 3)).off + 1, none⟩)) ?_
   simp only [Act.put, pA, pB, pC]
   refine WE.qq 22 (.agg #[.bool ge, .slice Ae ne ce]) rfl (fun w' hk => by have ce1 : w'.cell? ⟨(ad.add (k * 3)).block, (ad.add (k * 3)).off + 1, none⟩ = some (.bool ge) := (KB.out.up F11.out).up hk; have ce2 : w'.cell? ⟨(ad.add (k * 3)).block, (ad.add (k * 3)).off + 2, none⟩ = some (.slice Ae ne ce) := (KC.out.up F11.out).up hk; go_simp) ?_
   refine WE.cc 23 ((rGcd_w (Worth.wide (Q10.out.up EY.out).worth (k := W) (by have := HW.out; omega)) (Worth.wide QE.out.worth (k := W) (by have := HW.out; omega)) (by have := HW.out; omega)).mono ?_)
   rintro e wn ⟨v1, rfl, x1, hb⟩
   obtain ⟨g12, A12, n12, c12, rfl⟩ := x1.shape
   refine ⟨_, rfl, hb, ?_⟩
   replace EY := hid (EY.out.trans hb)
   replace F11 := hid (F11.out.trans hb)
   have Q12 := hid x1
   clear hb x1
   simp only [Act.put, pA, pB, pC]
   refine WE.store2 (g := gV4) (x := .bool g12) (y := .slice A12 n12 c12) (t := 25) rfl rfl (by rfl) (fun w hb => ?_) (V4.out.up EY.out) (by rfl) fun ws hk hs => ?_
   ·obtain ⟨ce0, ce1⟩ := hb.c2; obtain ⟨f0, f1⟩ := hb.f2; go_simp
   intro hbx
   replace F11 := hid (F11.out.keptG hk HAF11V4.out)
   replace E := hid ((E.out.trans EY.out).keptG hk HGV4.out)
   replace BX1 := hid ((BX1.out.up EY.out).kept hk (by simpa using HNV4BX1.out.symm))
   replace V3 := hid ((V3.out.up EY.out).kept hk (by simpa using HNV4V3.out.symm))
   replace V4 := hid hbx
   replace Q10 := hid ((Q10.out.up EY.out).kz hs)
   replace Q12 := hid (Q12.out.kz hs)
   clear hk hs hbx
   replace EY := hid (Ext.refl ws)
   clear Q10
   refine WE.done ?_
   go_wp2
   go_roundw
   case rel => exact ⟨k + 1, g12, A12, n12, c12, by omega, by go_num, (E.out.trans EY.out), F11.out, (V3.out.up EY.out), (BX1.out.up EY.out), (V4.out.up EY.out), by rw [List.take_add_one, HX.out, Option.toList_some, M.gcdT_snoc]; exact (Q12.out.up EY.out)⟩
   case measure => simp [intOf]; all_goals omega
  ·obtain rfl : k = n11 := by omega
   have hlt' : decide ((k : Int) < (k : Int)) = false := by simp
   clear F11
   go_upto_region 4 with (fail)
   refine wp_region_S [(0, 0), (1, 0), (2, 0), (3, 0), (4, 0)] fun wd hb => ?_
   replace EY := hid (EY.out.trans hb)
   clear hb
   refine WE.pp 9 (.int .i64 (k : Int)) ?_
   refine WE.pp 10 (.pointer (some ⟨gV3, 0, none⟩)) ?_
   refine WE.qq 11 (.slice A11 k c11) rfl (fun w' hk => by have ce0 := ((V3.out.up EY.out).up hk).k 0; go_simp) ?_
   refine WE.pp 12 (.int .i64 (k : Int)) ?_
   refine WE.pp 13 (.bool false) ?_
   simp only [Act.put, pA, pB, pC]
   refine WE.done ?_
   go_upto_region 7 with (fail)
   refine wp_region_S [(0, 0), (1, 4)] fun wd hb => ?_
   replace EY := hid (EY.out.trans hb)
   clear hb
   refine WE.qq 24 (.agg #[.bool gg, .slice Ag ng cg]) rfl (fun w' hk => by obtain ⟨ce0, ce1⟩ := ((V4.out.up EY.out).up hk).c2; go_simp) ?_
   simp only [Act.put, pA, pB, pC]
   refine WE.store2 (g := (w.heap.size + 1)) (x := .bool gg) (y := .slice Ag ng cg) (t := 25) rfl rfl (by rfl) (fun w hb => ?_) (BX1.out.up EY.out) (by rfl) fun ws hk hs => ?_
   ·obtain ⟨ce0, ce1⟩ := hb.c2; obtain ⟨f0, f1⟩ := hb.f2; go_simp
   intro hbx
   replace E := hid ((E.out.trans EY.out).keptG hk (by simp))
   replace BX1 := hid hbx
   replace Q10 := hid ((Q10.out.up EY.out).kz hs)
   clear hk hs hbx
   replace EY := hid (Ext.refl ws)
   refine WE.done ?_
   have r0 := (BX1.out.up EY.out).cell (o := 0) (v := .bool gg) rfl
   have r1 := (BX1.out.up EY.out).cell (o := 1) (v := .slice Ag ng cg) rfl
   repeat go_step
   exact bodyPost_ret (v := .agg #[.bool gg, .slice Ag ng cg]) (by simp [results, Tryz.results35, go_sem, r0, r1]) rfl ⟨_, rfl, by have := (Q10.out.up EY.out); rw [show t.take k = t by rw [HC.out.1, List.take_length]] at this; exact this, (E.out.trans EY.out)⟩

end Go.Proofs.YtklmnmkmpkobhaaGreat
