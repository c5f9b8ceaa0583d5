/-
  Contracts of package lin: Same, place, Coef; slices.EqualFunc, slices.BinarySearchFunc at its terms.
-/
import Derived.Test.YtklmnmkmpkobhaaGreatLFacM
import Derived.Test.YtklmnmkmpkobhaaGreatLRefE
namespace Go.Proofs.YtklmnmkmpkobhaaGreat
open Go.RowKit
set_option linter.unusedSimpArgs false
set_option linter.unusedVariables false

set_option maxHeartbeats 2000000 in
theorem sameM_ne {w : World} {v1 v2 : Int} {g1 g2 : Bool} {A1 A2 : Option Addr} {n1 c1 n2 c2 W U : Nat} {x1 x2 : Int} (h1 : IsZ w (.agg #[.bool g1, .slice A1 n1 c1]) x1 W) (h2 : IsZ w (.agg #[.bool g2, .slice A2 n2 c2]) x2 U) {b : Bool} (hb : decide ((v1, x1) = (v2, x2)) = b) (hv : v1 ≠ v2) :
 Calls Tryz.prog 57 #[.agg #[.int .i64 v1, .bool g1, .slice A1 n1 c1], .agg #[.int .i64 v2, .bool g2, .slice A2 n2 c2]] w (GivesB w b) := by
 have HB := hid hb
 have HV := hid hv
 have hvd : (v1 == v2) = false := by simpa using hv
 clear h1 h2 hb hv
 go_enter Tryz.func57, Tryz.ntmps57
 go_upto_region 1 with (fail)
 obtain ⟨E, BX0, BX1⟩ := open2 w #[.int .i64 v1, .bool g1, .slice A1 n1 c1] 56 #[.int .i64 v2, .bool g2, .slice A2 n2 c2] 56
 refine wp_region_S [(0, 0), (1, 0), (2, 0), (3, 0), (4, 0), (5, 0), (6, 0), (7, 0), (8, 0), (9, 0), (10, 1), (11, 0), (12, 0)] fun wd hb => ?_
 replace E := hid (E.out.trans hb)
 replace BX0 := hid (BX0.out.up hb)
 replace BX1 := hid (BX1.out.up hb)
 clear hb
 have EY := hid (Ext.refl wd)
 refine WE.pp 5 (.pointer (some ⟨(w.heap.size), 0, none⟩)) ?_
 refine WE.qq 6 (.int .i64 v1) rfl (fun w' hk => by have ce0 := ((BX0.out.up EY.out).up hk).k 0; go_simp) ?_
 refine WE.pp 7 (.pointer (some ⟨(w.heap.size + 1), 0, none⟩)) ?_
 refine WE.qq 8 (.int .i64 v2) rfl (fun w' hk => by have ce0 := ((BX1.out.up EY.out).up hk).k 0; go_simp) ?_
 refine WE.pp 9 (.bool false) ?_
 refine WE.pp 10 (.bool false) ?_
 simp only [Act.put, pA, pB, pC]
 refine WE.ss 11 ?_
 refine WE.ss 12 ?_
 refine WE.ss 13 ?_
 refine WE.ss 14 ?_
 refine WE.tt 15 ?_
 refine WE.pp 16 (.bool false) ?_
 simp only [Act.put, pA, pB, pC]
 refine WE.pp 4 (.bool false) ?_
 simp only [Act.put, pA, pB, pC]
 refine WE.done ?_
 repeat go_step
 go_ret
 exact ⟨by rw [← HB.out, decide_eq_false (fun e => HV.out (by injection e))]; rfl, (E.out.trans EY.out)⟩

set_option maxHeartbeats 2000000 in
theorem sameM_eq {w : World} {v1 v2 : Int} {g1 g2 : Bool} {A1 A2 : Option Addr} {n1 c1 n2 c2 W U : Nat} {x1 x2 : Int} (h1 : IsZ w (.agg #[.bool g1, .slice A1 n1 c1]) x1 W) (h2 : IsZ w (.agg #[.bool g2, .slice A2 n2 c2]) x2 U) {b : Bool} (hb : decide ((v1, x1) = (v2, x2)) = b) (hv : v1 = v2) :
 Calls Tryz.prog 57 #[.agg #[.int .i64 v1, .bool g1, .slice A1 n1 c1], .agg #[.int .i64 v2, .bool g2, .slice A2 n2 c2]] w (GivesB w b) := by
 have Q1 := hid h1
 have Q2 := hid h2
 have HB := hid hb
 have HV := hid hv
 have hvd : (v1 == v2) = true := by simpa using hv
 clear h1 h2 hb hv
 go_enter Tryz.func57, Tryz.ntmps57
 go_upto_region 1 with (fail)
 obtain ⟨E, BX0, BX1⟩ := open2 w #[.int .i64 v1, .bool g1, .slice A1 n1 c1] 56 #[.int .i64 v2, .bool g2, .slice A2 n2 c2] 56
 replace Q1 := hid (Q1.out.up E.out)
 replace Q2 := hid (Q2.out.up E.out)
 refine wp_region_S [(0, 0), (1, 0), (2, 0), (3, 0), (4, 0), (5, 0), (6, 0), (7, 0), (8, 0), (9, 0), (10, 1), (11, 0), (12, 0)] fun wd hb => ?_
 replace E := hid (E.out.trans hb)
 replace BX0 := hid (BX0.out.up hb)
 replace BX1 := hid (BX1.out.up hb)
 replace Q1 := hid (Q1.out.up hb)
 replace Q2 := hid (Q2.out.up hb)
 clear hb
 have EY := hid (Ext.refl wd)
 refine WE.pp 5 (.pointer (some ⟨(w.heap.size), 0, none⟩)) ?_
 refine WE.qq 6 (.int .i64 v1) rfl (fun w' hk => by have ce0 := ((BX0.out.up EY.out).up hk).k 0; go_simp) ?_
 refine WE.pp 7 (.pointer (some ⟨(w.heap.size + 1), 0, none⟩)) ?_
 refine WE.qq 8 (.int .i64 v2) rfl (fun w' hk => by have ce0 := ((BX1.out.up EY.out).up hk).k 0; go_simp) ?_
 refine WE.pp 9 (.bool true) ?_
 refine WE.pp 10 (.bool true) ?_
 simp only [Act.put, pA, pB, pC]
 refine WE.pp 11 (.pointer (some ⟨(w.heap.size), 1, none⟩)) ?_
 refine WE.qq 12 (.agg #[.bool g1, .slice A1 n1 c1]) rfl (fun w' hk => by obtain ⟨ce0, ce1, ce2⟩ := ((BX0.out.up EY.out).up hk).c3; go_simp) ?_
 refine WE.pp 13 (.pointer (some ⟨(w.heap.size + 1), 1, none⟩)) ?_
 refine WE.qq 14 (.agg #[.bool g2, .slice A2 n2 c2]) rfl (fun w' hk => by obtain ⟨ce0, ce1, ce2⟩ := ((BX1.out.up EY.out).up hk).c3; go_simp) ?_
 refine WE.cc 15 ((same_w (Q1.out.up EY.out).worth (Q2.out.up EY.out).worth (b := b) (by rw [← HB.out]; have := HV.out; simp [this])).mono ?_)
 rintro e wn ⟨rfl, hb⟩
 refine ⟨_, rfl, hb, ?_⟩
 replace EY := hid (EY.out.trans hb)
 clear hb
 refine WE.pp 16 (.bool b) ?_
 simp only [Act.put, pA, pB, pC]
 refine WE.pp 4 (.bool b) ?_
 simp only [Act.put, pA, pB, pC]
 refine WE.done ?_
 repeat go_step
 go_ret
 exact ⟨rfl, (E.out.trans EY.out)⟩

theorem sameM_l {w : World} {v1 v2 : Int} {g1 g2 : Bool} {A1 A2 : Option Addr} {n1 c1 n2 c2 W U : Nat} {x1 x2 : Int} (h1 : IsZ w (.agg #[.bool g1, .slice A1 n1 c1]) x1 W) (h2 : IsZ w (.agg #[.bool g2, .slice A2 n2 c2]) x2 U) {b : Bool} (hb : decide ((v1, x1) = (v2, x2)) = b) : Calls Tryz.prog 57 #[.agg #[.int .i64 v1, .bool g1, .slice A1 n1 c1], .agg #[.int .i64 v2, .bool g2, .slice A2 n2 c2]] w (GivesB w b) := by
 by_cases hv : v1 = v2
 ·exact sameM_eq h1 h2 hb hv
 ·exact sameM_ne h1 h2 hb hv

set_option maxHeartbeats 2000000 in
theorem equalF_len {w : World} {A1 A2 : Option Addr} {n1 c1 n2 c2 W U : Nat} {t s : M.Tm} (h1 : LTm w (.slice A1 n1 c1) t W) (h2 : LTm w (.slice A2 n2 c2) s U) {b : Bool} (hb : decide (t = s) = b) (hcond : t.length ≠ s.length) :
 Calls Tryz.prog 56 #[.slice A1 n1 c1, .slice A2 n2 c2, .func (.func 57) #[] #[]] w (GivesB w b) := by
 have HC1 := hid h1.count
 have HC2 := hid h2.count
 have hb1 : n1 ≤ 9223372036854775807 := h1.count.2.2
 have hb2 : n2 ≤ 9223372036854775807 := h2.count.2.2
 have HB := hid hb
 have HCD := hid hcond
 have hnd : ((n1 : Int) != (n2 : Int)) = true := by rw [bne_iff_ne]; have := h1.count.1; have := h2.count.1; omega
 clear h1 h2 hb hcond
 go_enter Tryz.func56, Tryz.ntmps56
 go_upto_region 1 with (fail)
 have E := hid (Ext.refl w)
 refine wp_region_S [(0, 0), (1, 0), (2, 0), (3, 0), (4, 0)] fun wd hb => ?_
 replace E := hid (E.out.trans hb)
 clear hb
 have EY := hid (Ext.refl wd)
 refine WE.pp 10 (.slice A1 n1 c1) ?_
 refine WE.pp 11 (.int .i64 (n1 : Int)) ?_
 refine WE.pp 12 (.slice A2 n2 c2) ?_
 refine WE.pp 13 (.int .i64 (n2 : Int)) ?_
 refine WE.pp 14 (.bool true) ?_
 simp only [Act.put, pA, pB, pC]
 refine WE.done ?_
 go_upto_region 2 with (fail)
 refine wp_region_S [(0, 0)] fun wd hb => ?_
 replace EY := hid (EY.out.trans hb)
 clear hb
 refine WE.pp 6 (.bool false) ?_
 simp only [Act.put, pA, pB, pC]
 refine WE.done ?_
 repeat go_step
 go_ret
 exact ⟨by rw [← HB.out, decide_eq_false (fun e => HCD.out (by rw [e]))]; rfl, (E.out.trans EY.out)⟩

set_option maxHeartbeats 4000000 in
theorem equalF_loop {w : World} {A1 A2 : Option Addr} {n1 c1 n2 c2 W U : Nat} {t s : M.Tm} (h1 : LTm w (.slice A1 n1 c1) t W) (h2 : LTm w (.slice A2 n2 c2) s U) {b : Bool} (hb : decide (t = s) = b) (hcond : t.length = s.length) :
 Calls Tryz.prog 56 #[.slice A1 n1 c1, .slice A2 n2 c2, .func (.func 57) #[] #[]] w (GivesB w b) := by
 have T1 := hid h1
 have T2 := hid h2
 have HC1 := hid h1.count
 have HC2 := hid h2.count
 have hb1 : n1 ≤ 9223372036854775807 := h1.count.2.2
 have hb2 : n2 ≤ 9223372036854775807 := h2.count.2.2
 have HB := hid hb
 have hnd : ((n1 : Int) != (n2 : Int)) = false := by rw [bne_eq_false_iff_eq]; have := h1.count.1; have := h2.count.1; omega
 obtain rfl : n1 = n2 := by have := h1.count.1; have := h2.count.1; omega
 clear h1 h2 hb hcond
 go_enter Tryz.func56, Tryz.ntmps56
 go_upto_region 1 with (fail)
 have E := hid (Ext.refl w)
 refine wp_region_S [(0, 0), (1, 0), (2, 0), (3, 0), (4, 0)] fun wd hb => ?_
 replace E := hid (E.out.trans hb)
 clear hb
 have EY := hid (Ext.refl wd)
 refine WE.pp 10 (.slice A1 n1 c1) ?_
 refine WE.pp 11 (.int .i64 (n1 : Int)) ?_
 refine WE.pp 12 (.slice A2 n1 c2) ?_
 refine WE.pp 13 (.int .i64 (n1 : Int)) ?_
 refine WE.pp 14 (.bool false) ?_
 simp only [Act.put, pA, pB, pC]
 refine WE.done ?_
 go_upto_region 3 with (fail)
 refine wp_region_S [(0, 0), (1, 0), (2, 0)] fun wd hb => ?_
 replace EY := hid (EY.out.trans hb)
 clear hb
 refine WE.pp 15 (.slice A1 n1 c1) ?_
 refine WE.pp 16 (.int .i64 (n1 : Int)) ?_
 refine WE.pp 17 (.int .i64 (0)) ?_
 simp only [Act.put, pA, pB, pC]
 refine WE.done ?_
 go_wp2
 go_loopw [17] (fun x17 wr => ∃ (k : Nat), x17 = .int .i64 (k : Int) ∧ k ≤ n1 ∧ t.take k = s.take k ∧ Ext w wr) (fun x17 _ => n1 - (intOf x17).toNat)
 case atStart => exact ⟨0, rfl, Nat.zero_le _, rfl, (E.out.trans EY.out)⟩
 case round =>
  clear E EY
  obtain ⟨k, rfl, hr0, hr1, hr2⟩ := hrel
  have HTK := hid hr1
  have E := hid hr2
  clear hr1 hr2
  have EY := hid (Ext.refl wr)
  have hk := hr0
  by_cases hlt : k < n1
  ·have hlt' : decide ((k : Int) < (n1 : Int)) = true := decide_eq_true (by omega)
   obtain ⟨x, hx⟩ : ∃ x, t[k]? = some x := ⟨_, List.getElem?_eq_getElem (by rw [← HC1.out.1]; exact hlt)⟩
   obtain ⟨y, hy⟩ : ∃ y, s[k]? = some y := ⟨_, List.getElem?_eq_getElem (by rw [← HC2.out.1]; exact hlt)⟩
   have HXY := hid (take_same HTK.out hx hy)
   have HNE := hid (show x ≠ y → b = false from fun e => by rw [← HB.out, decide_eq_false]; rintro rfl; rw [hx] at hy; exact e (Option.some.inj hy))
   obtain ⟨ad, ge, Ae, ne, ce, rfl, ka, kb, kc, kz⟩ := T1.out.get hx
   obtain ⟨ap, gf, Af, nf, cf, rfl, ja, jb, jc, jz⟩ := T2.out.get hy
   obtain ⟨xv, xc⟩ := x
   obtain ⟨yv, yc⟩ := y
   have KA := hid ka
   have KB := hid kb
   have KC := hid kc
   have QE := hid (kz.up E.out)
   have JA := hid ja
   have JB := hid jb
   have JC := hid jc
   have QF := hid (jz.up E.out)
   clear hx hy ka kb kc kz ja jb jc jz
   go_upto_region 4 with (fail)
   refine wp_region_S [(0, 0)] fun wd hb => ?_
   replace EY := hid (EY.out.trans hb)
   replace QE := hid (QE.out.up hb)
   replace QF := hid (QF.out.up hb)
   clear hb
   refine WE.pp 18 (.bool true) ?_
   simp only [Act.put, pA, pB, pC]
   refine WE.done ?_
   go_upto_region 5 with (fail)
   refine wp_region_S [(0, 0), (1, 0), (2, 0), (3, 1), (4, 0), (5, 4)] fun wd hb => ?_
   replace EY := hid (EY.out.trans hb)
   replace QE := hid (QE.out.up hb)
   replace QF := hid (QF.out.up hb)
   clear hb
   refine WE.pp 19 (.int .i64 (k : Int)) ?_
   refine WE.pp 20 (.pointer (some (ad.add (k * 3)))) ?_
   refine WE.qq 21 (.agg #[.int .i64 xv, .bool ge, .slice Ae ne ce]) rfl (fun w' hk => by have ce0 : w'.cell? (ad.add (k * 3)) = some (.int .i64 xv) := (KA.out.up (E.out.trans EY.out)).up hk; have ce1 : w'.cell? ⟨(ad.add (k * 3)).block, (ad.add (k * 3)).off + 1, none⟩ = some (.bool ge) := (KB.out.up (E.out.trans EY.out)).up hk; have ce2 : w'.cell? ⟨(ad.add (k * 3)).block, (ad.add (k * 3)).off + 2, none⟩ = some (.slice Ae ne ce) := (KC.out.up (E.out.trans EY.out)).up hk; go_simp) ?_
   simp only [Act.put, pA, pB, pC]
   refine WE.new (d := some 8) (cs := #[.int .i64 0, .bool false, .slice none 0 0]) (t := 56) (v := fun g => (.pointer (some ⟨g, 0, none⟩))) rfl rfl (by rfl) (fun w => by go_simp) fun gV8 wv hx0 hbox hge => ?_
   have HGV8 := hid (show w.heap.size ≤ gV8 by have := (E.out.trans EY.out).size; omega)
   replace EY := hid (EY.out.trans hx0)
   replace QE := hid (QE.out.up hx0)
   replace QF := hid (QF.out.up hx0)
   have V8 : Hid (Box wv gV8 #[.int .i64 0, .bool false, .slice none 0 0] 56) := hid hbox
   clear hx0 hbox hge
   refine WE.pp 7 (.int .i64 (k : Int)) ?_
   simp only [Act.put, pA, pB, pC]
   refine WE.store3 (g := gV8) (x := .int .i64 xv) (y := .bool ge) (z := .slice Ae ne ce) (t := 56) rfl rfl (by rfl) (fun w hb => ?_) V8.out (by rfl) fun ws hk hs => ?_
   ·obtain ⟨ce0, ce1, ce2⟩ := hb.c3; obtain ⟨f0, f1, f2⟩ := hb.f3; go_simp
   intro hbx
   replace E := hid ((E.out.trans EY.out).keptG hk HGV8.out)
   replace V8 := hid hbx
   replace QE := hid (QE.out.kz hs)
   replace QF := hid (QF.out.kz hs)
   clear hk hs hbx
   replace EY := hid (Ext.refl ws)
   refine WE.done ?_
   go_upto_region 6 with (fail)
   refine wp_region_S [(0, 0), (1, 0), (2, 0), (3, 0), (4, 1), (5, 4)] fun wd hb => ?_
   replace EY := hid (EY.out.trans hb)
   clear hb
   refine WE.pp 22 (.slice (some ap) n1 c2) ?_
   refine WE.pp 23 (.int .i64 (k : Int)) ?_
   refine WE.pp 24 (.pointer (some (ap.add (k * 3)))) ?_
   refine WE.qq 25 (.agg #[.int .i64 yv, .bool gf, .slice Af nf cf]) rfl (fun w' hk => by have ce0 : w'.cell? (ap.add (k * 3)) = some (.int .i64 yv) := (JA.out.up (E.out.trans EY.out)).up hk; have ce1 : w'.cell? ⟨(ap.add (k * 3)).block, (ap.add (k * 3)).off + 1, none⟩ = some (.bool gf) := (JB.out.up (E.out.trans EY.out)).up hk; have ce2 : w'.cell? ⟨(ap.add (k * 3)).block, (ap.add (k * 3)).off + 2, none⟩ = some (.slice Af nf cf) := (JC.out.up (E.out.trans EY.out)).up hk; go_simp) ?_
   simp only [Act.put, pA, pB, pC]
   refine WE.new (d := some 9) (cs := #[.int .i64 0, .bool false, .slice none 0 0]) (t := 56) (v := fun g => (.pointer (some ⟨g, 0, none⟩))) rfl rfl (by rfl) (fun w => by go_simp) fun gV9 wv hx0 hbox hge => ?_
   have HNV9V8 := hid (show gV9 ≠ gV8 by have := (V8.out.up EY.out).lt; omega)
   have HGV9 := hid (show w.heap.size ≤ gV9 by have := (E.out.trans EY.out).size; omega)
   replace EY := hid (EY.out.trans hx0)
   have V9 : Hid (Box wv gV9 #[.int .i64 0, .bool false, .slice none 0 0] 56) := hid hbox
   clear hx0 hbox hge
   simp only [Act.put, pA, pB, pC]
   refine WE.store3 (g := gV9) (x := .int .i64 yv) (y := .bool gf) (z := .slice Af nf cf) (t := 56) rfl rfl (by rfl) (fun w hb => ?_) V9.out (by rfl) fun ws hk hs => ?_
   ·obtain ⟨ce0, ce1, ce2⟩ := hb.c3; obtain ⟨f0, f1, f2⟩ := hb.f3; go_simp
   intro hbx
   replace E := hid ((E.out.trans EY.out).keptG hk HGV9.out)
   replace V8 := hid ((V8.out.up EY.out).kept hk (by simpa using HNV9V8.out.symm))
   replace V9 := hid hbx
   replace QE := hid ((QE.out.up EY.out).kz hs)
   replace QF := hid ((QF.out.up EY.out).kz hs)
   clear hk hs hbx
   replace EY := hid (Ext.refl ws)
   refine WE.done ?_
   by_cases hv : ((xv, xc) : Int × Int) = (yv, yc)
   ·go_upto_region 7 with (fail)
    refine wp_region_S [(0, 0), (1, 0), (2, 0), (3, 1), (4, 0)] fun wd hb => ?_
    replace EY := hid (EY.out.trans hb)
    clear hb
    refine WE.pp 26 (.func (.func 57) #[] #[]) ?_
    refine WE.qq 27 (.agg #[.int .i64 xv, .bool ge, .slice Ae ne ce]) rfl (fun w' hk => by obtain ⟨ce0, ce1, ce2⟩ := ((V8.out.up EY.out).up hk).c3; go_simp) ?_
    refine WE.qq 28 (.agg #[.int .i64 yv, .bool gf, .slice Af nf cf]) rfl (fun w' hk => by obtain ⟨ce0, ce1, ce2⟩ := ((V9.out.up EY.out).up hk).c3; go_simp) ?_
    simp only [Act.put, pA, pB, pC]
    refine WE.call (d := some 29) rfl rfl (by rfl) (f := 57) (by go_simp) ((sameM_l (QE.out.up EY.out) (QF.out.up EY.out) (b := true) (decide_eq_true hv)).mono ?_)
    rintro e wn ⟨rfl, hb⟩
    refine ⟨_, rfl, hb, ?_⟩
    replace EY := hid (EY.out.trans hb)
    clear hb
    refine WE.pp 30 (.bool false) ?_
    simp only [Act.put, pA, pB, pC]
    refine WE.done ?_
    go_wp2
    go_roundw
    case rel => exact ⟨k + 1, by go_num, by omega, HXY.out.2 hv, (E.out.trans EY.out)⟩
    case measure => simp [intOf]; all_goals omega
   ·go_upto_region 7 with (fail)
    refine wp_region_S [(0, 0), (1, 0), (2, 0), (3, 1), (4, 0)] fun wd hb => ?_
    replace EY := hid (EY.out.trans hb)
    clear hb
    refine WE.pp 26 (.func (.func 57) #[] #[]) ?_
    refine WE.qq 27 (.agg #[.int .i64 xv, .bool ge, .slice Ae ne ce]) rfl (fun w' hk => by obtain ⟨ce0, ce1, ce2⟩ := ((V8.out.up EY.out).up hk).c3; go_simp) ?_
    refine WE.qq 28 (.agg #[.int .i64 yv, .bool gf, .slice Af nf cf]) rfl (fun w' hk => by obtain ⟨ce0, ce1, ce2⟩ := ((V9.out.up EY.out).up hk).c3; go_simp) ?_
    simp only [Act.put, pA, pB, pC]
    refine WE.call (d := some 29) rfl rfl (by rfl) (f := 57) (by go_simp) ((sameM_l (QE.out.up EY.out) (QF.out.up EY.out) (b := false) (decide_eq_false hv)).mono ?_)
    rintro e wn ⟨rfl, hb⟩
    refine ⟨_, rfl, hb, ?_⟩
    replace EY := hid (EY.out.trans hb)
    clear hb
    refine WE.pp 30 (.bool true) ?_
    simp only [Act.put, pA, pB, pC]
    refine WE.done ?_
    go_upto_region 8 with (fail)
    refine wp_region_S [(0, 0)] fun wd hb => ?_
    replace EY := hid (EY.out.trans hb)
    clear hb
    refine WE.pp 6 (.bool false) ?_
    simp only [Act.put, pA, pB, pC]
    refine WE.done ?_
    repeat go_step
    go_ret
    exact ⟨by rw [HNE.out hv]; rfl, (E.out.trans EY.out)⟩
  ·obtain rfl : k = n1 := by omega
   have hlt' : decide ((k : Int) < (k : Int)) = false := by simp
   go_upto_region 4 with (fail)
   refine wp_region_S [(0, 0)] fun wd hb => ?_
   replace EY := hid (EY.out.trans hb)
   clear hb
   refine WE.pp 18 (.bool false) ?_
   simp only [Act.put, pA, pB, pC]
   refine WE.done ?_
   go_upto_region 10 with (fail)
   refine wp_region_S [(0, 0)] fun wd hb => ?_
   replace EY := hid (EY.out.trans hb)
   clear hb
   refine WE.pp 6 (.bool true) ?_
   simp only [Act.put, pA, pB, pC]
   refine WE.done ?_
   repeat go_step
   go_ret
   exact ⟨by rw [← HB.out, decide_eq_true (show t = s by have := HTK.out; rw [show t.take k = t by rw [HC1.out.1]; exact List.take_length, show s.take k = s by rw [HC2.out.1]; exact List.take_length] at this; exact this)]; rfl, (E.out.trans EY.out)⟩

theorem equalF_l {w : World} {A1 A2 : Option Addr} {n1 c1 n2 c2 W U : Nat} {t s : M.Tm} (h1 : LTm w (.slice A1 n1 c1) t W) (h2 : LTm w (.slice A2 n2 c2) s U) {b : Bool} (hb : decide (t = s) = b) : Calls Tryz.prog 56 #[.slice A1 n1 c1, .slice A2 n2 c2, .func (.func 57) #[] #[]] w (GivesB w b) := by
 by_cases c1 : t.length = s.length
 ·exact equalF_loop h1 h2 hb c1
 ·exact equalF_len h1 h2 hb c1

set_option maxHeartbeats 4000000 in
theorem sameL_ne {w : World} {u v : Value} {t s : M.Tm} {κ μ : Int} {W : Nat} (h1 : WorthL w u t κ W) (h2 : WorthL w v s μ W) {b : Bool} (hb : decide (t = s ∧ κ = μ) = b) (hv : t ≠ s) :
 Calls Tryz.prog 16 #[u, v] w (GivesB w b) := by
 obtain ⟨A1, n1, c1, g1, B1, m1, d1, rfl⟩ := h1.shape
 have R1 := hid h1
 obtain ⟨A2, n2, c2, g2, B2, m2, d2, rfl⟩ := h2.shape
 have R2 := hid h2
 have HB := hid hb
 have HV := hid hv
 clear hb hv
 clear h1 h2
 go_enter Tryz.func16, Tryz.ntmps16
 go_upto_region 1 with (fail)
 obtain ⟨E, BX0, BX1⟩ := open2 w #[.slice A1 n1 c1, .bool g1, .slice B1 m1 d1] 27 #[.slice A2 n2 c2, .bool g2, .slice B2 m2 d2] 27
 replace R1 := hid (R1.out.up E.out)
 replace R2 := hid (R2.out.up E.out)
 refine wp_region_L [(0, 0), (2, 0), (1, 2), (3, 2), (4, 3), (5, 3), (6, 4), (7, 4)] 27 #[.slice none 0 0, .bool false, .slice none 0 0] fun wd hb => ?_
 replace E := hid (E.out.trans hb)
 replace BX0 := hid (BX0.out.up hb)
 replace BX1 := hid (BX1.out.up hb)
 replace R1 := hid (R1.out.up hb)
 replace R2 := hid (R2.out.up hb)
 clear hb
 have HL1BX0 := hid BX0.out.lt
 have HL1BX1 := hid BX1.out.lt
 have HW1 := hid (show w.heap.size ≤ wd.heap.size from E.out.size)
 have EY := hid (Ext.refl wd)
 refine WE.qq 7 (.agg #[.slice A1 n1 c1, .bool g1, .slice B1 m1 d1]) rfl (fun w' hk => by obtain ⟨ce0, ce1, ce2⟩ := ((BX0.out.up EY.out).up hk).c3; go_simp) ?_
 refine WE.qq 9 (.agg #[.slice A2 n2 c2, .bool g2, .slice B2 m2 d2]) rfl (fun w' hk => by obtain ⟨ce0, ce1, ce2⟩ := ((BX1.out.up EY.out).up hk).c3; go_simp) ?_
 simp only [Act.put, pA, pB, pC]
 refine WE.callR (d := some 8) rfl rfl (by rfl) (f := 55) (args := #[(.agg #[.slice A1 n1 c1, .bool g1, .slice B1 m1 d1])]) (fun w => by go_simp) (fun wx hx0 => ?_)
 replace EY := hid (EY.out.trans hx0)
 clear hx0
 refine (readL_l (R1.out.up EY.out)).mono ?_
 rintro e w11 ⟨v1, rfl, x1, hb⟩
 obtain ⟨A11, n11, c11, g11, B11, m11, d11, rfl, t1, k1, o1⟩ := x1
 refine ⟨_, rfl, hb, ?_⟩
 replace EY := hid (EY.out.trans hb)
 have T11 := hid t1
 have F11 := hid (Ext.refl w11)
 clear hb t1 k1 o1
 simp only [Act.put, pA, pB, pC]
 refine WE.callR (d := some 10) rfl rfl (by rfl) (f := 55) (args := #[(.agg #[.slice A2 n2 c2, .bool g2, .slice B2 m2 d2])]) (fun w => by go_simp) (fun wx hx0 => ?_)
 replace EY := hid (EY.out.trans hx0)
 replace F11 := hid (F11.out.trans hx0)
 clear hx0
 refine (readL_l (R2.out.up EY.out)).mono ?_
 rintro e w12 ⟨v1, rfl, x1, hb⟩
 obtain ⟨A12, n12, c12, g12, B12, m12, d12, rfl, t1, k1, o1⟩ := x1
 refine ⟨_, rfl, hb, ?_⟩
 replace EY := hid (EY.out.trans hb)
 replace F11 := hid (F11.out.trans hb)
 have T12 := hid t1
 have F12 := hid (Ext.refl w12)
 clear hb t1 k1 o1
 simp only [Act.put, pA, pB, pC]
 refine WE.var (d := some 5) rfl fun gV5 wv hx0 hbox hge hng => ?_
 have HGV5 := hid (show w.heap.size ≤ gV5 by have := HW1.out; omega)
 replace EY := hid (EY.out.trans hx0)
 replace F11 := hid (F11.out.trans hx0)
 replace F12 := hid (F12.out.trans hx0)
 have V5 : Hid (Box wv gV5 #[.slice none 0 0, .bool false, .slice none 0 0] 27) := hid hbox
 clear hx0 hbox hge hng
 simp only [Act.put, pA, pB, pC]
 refine WE.var (d := some 6) rfl fun gV6 wv hx0 hbox hge hng => ?_
 have HNV6V5 := hid (show gV6 ≠ gV5 by intro e; exact hng (by simp [e]))
 have HGV6 := hid (show w.heap.size ≤ gV6 by have := HW1.out; omega)
 replace EY := hid (EY.out.trans hx0)
 replace V5 := hid (V5.out.up hx0)
 replace F11 := hid (F11.out.trans hx0)
 replace F12 := hid (F12.out.trans hx0)
 have V6 : Hid (Box wv gV6 #[.slice none 0 0, .bool false, .slice none 0 0] 27) := hid hbox
 clear hx0 hbox hge hng
 simp only [Act.put, pA, pB, pC]
 refine WE.store3 (g := gV5) (x := .slice A11 n11 c11) (y := .bool g11) (z := .slice B11 m11 d11) (t := 27) rfl rfl (by rfl) (fun w hb => ?_) V5.out (by rfl) fun ws hk hs => ?_
 ·obtain ⟨ce0, ce1, ce2⟩ := hb.c3; obtain ⟨f0, f1, f2⟩ := hb.f3; go_simp
 intro hbx
 replace T11 := hid ((T11.out.up F11.out).kb V5.out (by rfl) hk hs)
 replace T12 := hid ((T12.out.up F12.out).kb V5.out (by rfl) hk hs)
 replace E := hid ((E.out.trans EY.out).keptG hk HGV5.out)
 replace V5 := hid hbx
 replace V6 := hid (V6.out.kept hk (by simpa using HNV6V5.out))
 clear hk hs hbx
 replace EY := hid (Ext.refl ws)
 replace F11 := hid (Ext.refl ws)
 replace F12 := hid (Ext.refl ws)
 refine WE.store3 (g := gV6) (x := .slice A12 n12 c12) (y := .bool g12) (z := .slice B12 m12 d12) (t := 27) rfl rfl (by rfl) (fun w hb => ?_) (V6.out.up EY.out) (by rfl) fun ws hk hs => ?_
 ·obtain ⟨ce0, ce1, ce2⟩ := hb.c3; obtain ⟨f0, f1, f2⟩ := hb.f3; go_simp
 intro hbx
 replace T11 := hid ((T11.out.up F11.out).kb (V6.out.up EY.out) (by rfl) hk hs)
 replace T12 := hid ((T12.out.up F12.out).kb (V6.out.up EY.out) (by rfl) hk hs)
 replace E := hid ((E.out.trans EY.out).keptG hk HGV6.out)
 replace V5 := hid ((V5.out.up EY.out).kept hk (by simpa using HNV6V5.out.symm))
 replace V6 := hid hbx
 clear hk hs hbx
 replace EY := hid (Ext.refl ws)
 replace F11 := hid (Ext.refl ws)
 replace F12 := hid (Ext.refl ws)
 refine WE.done ?_
 go_upto_region 2 with (fail)
 refine wp_region_S [(0, 0), (1, 0), (2, 0), (3, 0), (4, 1), (5, 0), (6, 0), (7, 0), (8, 0), (9, 0), (10, 1), (11, 0), (12, 0)] fun wd hb => ?_
 replace EY := hid (EY.out.trans hb)
 replace F11 := hid (F11.out.trans hb)
 replace F12 := hid (F12.out.trans hb)
 clear hb
 refine WE.pp 11 (.pointer (some ⟨gV5, 0, none⟩)) ?_
 refine WE.qq 12 (.slice A11 n11 c11) rfl (fun w' hk => by have ce0 := ((V5.out.up EY.out).up hk).k 0; go_simp) ?_
 refine WE.pp 13 (.pointer (some ⟨gV6, 0, none⟩)) ?_
 refine WE.qq 14 (.slice A12 n12 c12) rfl (fun w' hk => by have ce0 := ((V6.out.up EY.out).up hk).k 0; go_simp) ?_
 refine WE.cc 15 ((equalF_l (T11.out.up F11.out) (T12.out.up F12.out) (b := false) (decide_eq_false HV.out)).mono ?_)
 rintro e wn ⟨rfl, hb⟩
 refine ⟨_, rfl, hb, ?_⟩
 replace EY := hid (EY.out.trans hb)
 clear hb
 refine WE.pp 16 (.bool false) ?_
 simp only [Act.put, pA, pB, pC]
 refine WE.ss 17 ?_
 refine WE.ss 18 ?_
 refine WE.ss 19 ?_
 refine WE.ss 20 ?_
 refine WE.tt 21 ?_
 refine WE.pp 22 (.bool false) ?_
 simp only [Act.put, pA, pB, pC]
 refine WE.pp 4 (.bool false) ?_
 simp only [Act.put, pA, pB, pC]
 refine WE.done ?_
 repeat go_step
 go_ret
 exact ⟨by rw [← HB.out, decide_eq_false (fun e => HV.out e.1)]; rfl, (E.out.trans EY.out)⟩

set_option maxHeartbeats 4000000 in
theorem sameL_eq {w : World} {u v : Value} {t s : M.Tm} {κ μ : Int} {W : Nat} (h1 : WorthL w u t κ W) (h2 : WorthL w v s μ W) {b : Bool} (hb : decide (t = s ∧ κ = μ) = b) (hv : t = s) :
 Calls Tryz.prog 16 #[u, v] w (GivesB w b) := by
 obtain ⟨A1, n1, c1, g1, B1, m1, d1, rfl⟩ := h1.shape
 have R1 := hid h1
 obtain ⟨A2, n2, c2, g2, B2, m2, d2, rfl⟩ := h2.shape
 have R2 := hid h2
 have HB := hid hb
 have HV := hid hv
 clear hb hv
 clear h1 h2
 go_enter Tryz.func16, Tryz.ntmps16
 go_upto_region 1 with (fail)
 obtain ⟨E, BX0, BX1⟩ := open2 w #[.slice A1 n1 c1, .bool g1, .slice B1 m1 d1] 27 #[.slice A2 n2 c2, .bool g2, .slice B2 m2 d2] 27
 replace R1 := hid (R1.out.up E.out)
 replace R2 := hid (R2.out.up E.out)
 refine wp_region_L [(0, 0), (2, 0), (1, 2), (3, 2), (4, 3), (5, 3), (6, 4), (7, 4)] 27 #[.slice none 0 0, .bool false, .slice none 0 0] fun wd hb => ?_
 replace E := hid (E.out.trans hb)
 replace BX0 := hid (BX0.out.up hb)
 replace BX1 := hid (BX1.out.up hb)
 replace R1 := hid (R1.out.up hb)
 replace R2 := hid (R2.out.up hb)
 clear hb
 have HL1BX0 := hid BX0.out.lt
 have HL1BX1 := hid BX1.out.lt
 have HW1 := hid (show w.heap.size ≤ wd.heap.size from E.out.size)
 have EY := hid (Ext.refl wd)
 refine WE.qq 7 (.agg #[.slice A1 n1 c1, .bool g1, .slice B1 m1 d1]) rfl (fun w' hk => by obtain ⟨ce0, ce1, ce2⟩ := ((BX0.out.up EY.out).up hk).c3; go_simp) ?_
 refine WE.qq 9 (.agg #[.slice A2 n2 c2, .bool g2, .slice B2 m2 d2]) rfl (fun w' hk => by obtain ⟨ce0, ce1, ce2⟩ := ((BX1.out.up EY.out).up hk).c3; go_simp) ?_
 simp only [Act.put, pA, pB, pC]
 refine WE.callR (d := some 8) rfl rfl (by rfl) (f := 55) (args := #[(.agg #[.slice A1 n1 c1, .bool g1, .slice B1 m1 d1])]) (fun w => by go_simp) (fun wx hx0 => ?_)
 replace EY := hid (EY.out.trans hx0)
 clear hx0
 refine (readL_l (R1.out.up EY.out)).mono ?_
 rintro e w11 ⟨v1, rfl, x1, hb⟩
 obtain ⟨A11, n11, c11, g11, B11, m11, d11, rfl, t1, k1, o1⟩ := x1
 refine ⟨_, rfl, hb, ?_⟩
 replace EY := hid (EY.out.trans hb)
 have T11 := hid t1
 have Q11 := hid k1
 have F11 := hid (Ext.refl w11)
 clear hb t1 k1 o1
 simp only [Act.put, pA, pB, pC]
 refine WE.callR (d := some 10) rfl rfl (by rfl) (f := 55) (args := #[(.agg #[.slice A2 n2 c2, .bool g2, .slice B2 m2 d2])]) (fun w => by go_simp) (fun wx hx0 => ?_)
 replace EY := hid (EY.out.trans hx0)
 replace Q11 := hid (Q11.out.up hx0)
 replace F11 := hid (F11.out.trans hx0)
 clear hx0
 refine (readL_l (R2.out.up EY.out)).mono ?_
 rintro e w12 ⟨v1, rfl, x1, hb⟩
 obtain ⟨A12, n12, c12, g12, B12, m12, d12, rfl, t1, k1, o1⟩ := x1
 refine ⟨_, rfl, hb, ?_⟩
 replace EY := hid (EY.out.trans hb)
 replace Q11 := hid (Q11.out.up hb)
 replace F11 := hid (F11.out.trans hb)
 have T12 := hid t1
 have Q12 := hid k1
 have F12 := hid (Ext.refl w12)
 clear hb t1 k1 o1
 simp only [Act.put, pA, pB, pC]
 refine WE.var (d := some 5) rfl fun gV5 wv hx0 hbox hge hng => ?_
 have HGV5 := hid (show w.heap.size ≤ gV5 by have := HW1.out; omega)
 replace EY := hid (EY.out.trans hx0)
 replace Q11 := hid (Q11.out.up hx0)
 replace Q12 := hid (Q12.out.up hx0)
 replace F11 := hid (F11.out.trans hx0)
 replace F12 := hid (F12.out.trans hx0)
 have V5 : Hid (Box wv gV5 #[.slice none 0 0, .bool false, .slice none 0 0] 27) := hid hbox
 clear hx0 hbox hge hng
 simp only [Act.put, pA, pB, pC]
 refine WE.var (d := some 6) rfl fun gV6 wv hx0 hbox hge hng => ?_
 have HNV6V5 := hid (show gV6 ≠ gV5 by intro e; exact hng (by simp [e]))
 have HGV6 := hid (show w.heap.size ≤ gV6 by have := HW1.out; omega)
 replace EY := hid (EY.out.trans hx0)
 replace V5 := hid (V5.out.up hx0)
 replace Q11 := hid (Q11.out.up hx0)
 replace Q12 := hid (Q12.out.up hx0)
 replace F11 := hid (F11.out.trans hx0)
 replace F12 := hid (F12.out.trans hx0)
 have V6 : Hid (Box wv gV6 #[.slice none 0 0, .bool false, .slice none 0 0] 27) := hid hbox
 clear hx0 hbox hge hng
 simp only [Act.put, pA, pB, pC]
 refine WE.store3 (g := gV5) (x := .slice A11 n11 c11) (y := .bool g11) (z := .slice B11 m11 d11) (t := 27) rfl rfl (by rfl) (fun w hb => ?_) V5.out (by rfl) fun ws hk hs => ?_
 ·obtain ⟨ce0, ce1, ce2⟩ := hb.c3; obtain ⟨f0, f1, f2⟩ := hb.f3; go_simp
 intro hbx
 replace T11 := hid ((T11.out.up F11.out).kb V5.out (by rfl) hk hs)
 replace T12 := hid ((T12.out.up F12.out).kb V5.out (by rfl) hk hs)
 replace E := hid ((E.out.trans EY.out).keptG hk HGV5.out)
 replace V5 := hid hbx
 replace V6 := hid (V6.out.kept hk (by simpa using HNV6V5.out))
 replace Q11 := hid (Q11.out.kz hs)
 replace Q12 := hid (Q12.out.kz hs)
 clear hk hs hbx
 replace EY := hid (Ext.refl ws)
 replace F11 := hid (Ext.refl ws)
 replace F12 := hid (Ext.refl ws)
 refine WE.store3 (g := gV6) (x := .slice A12 n12 c12) (y := .bool g12) (z := .slice B12 m12 d12) (t := 27) rfl rfl (by rfl) (fun w hb => ?_) (V6.out.up EY.out) (by rfl) fun ws hk hs => ?_
 ·obtain ⟨ce0, ce1, ce2⟩ := hb.c3; obtain ⟨f0, f1, f2⟩ := hb.f3; go_simp
 intro hbx
 replace T11 := hid ((T11.out.up F11.out).kb (V6.out.up EY.out) (by rfl) hk hs)
 replace T12 := hid ((T12.out.up F12.out).kb (V6.out.up EY.out) (by rfl) hk hs)
 replace E := hid ((E.out.trans EY.out).keptG hk HGV6.out)
 replace V5 := hid ((V5.out.up EY.out).kept hk (by simpa using HNV6V5.out.symm))
 replace V6 := hid hbx
 replace Q11 := hid ((Q11.out.up EY.out).kz hs)
 replace Q12 := hid ((Q12.out.up EY.out).kz hs)
 clear hk hs hbx
 replace EY := hid (Ext.refl ws)
 replace F11 := hid (Ext.refl ws)
 replace F12 := hid (Ext.refl ws)
 refine WE.done ?_
 go_upto_region 2 with (fail)
 refine wp_region_S [(0, 0), (1, 0), (2, 0), (3, 0), (4, 1), (5, 0), (6, 0), (7, 0), (8, 0), (9, 0), (10, 1), (11, 0), (12, 0)] fun wd hb => ?_
 replace EY := hid (EY.out.trans hb)
 replace F11 := hid (F11.out.trans hb)
 replace F12 := hid (F12.out.trans hb)
 clear hb
 refine WE.pp 11 (.pointer (some ⟨gV5, 0, none⟩)) ?_
 refine WE.qq 12 (.slice A11 n11 c11) rfl (fun w' hk => by have ce0 := ((V5.out.up EY.out).up hk).k 0; go_simp) ?_
 refine WE.pp 13 (.pointer (some ⟨gV6, 0, none⟩)) ?_
 refine WE.qq 14 (.slice A12 n12 c12) rfl (fun w' hk => by have ce0 := ((V6.out.up EY.out).up hk).k 0; go_simp) ?_
 refine WE.cc 15 ((equalF_l (T11.out.up F11.out) (T12.out.up F12.out) (b := true) (decide_eq_true HV.out)).mono ?_)
 rintro e wn ⟨rfl, hb⟩
 refine ⟨_, rfl, hb, ?_⟩
 replace EY := hid (EY.out.trans hb)
 clear hb
 refine WE.pp 16 (.bool true) ?_
 simp only [Act.put, pA, pB, pC]
 refine WE.pp 17 (.pointer (some ⟨gV5, 1, none⟩)) ?_
 refine WE.qq 18 (.agg #[.bool g11, .slice B11 m11 d11]) rfl (fun w' hk => by obtain ⟨ce0, ce1, ce2⟩ := ((V5.out.up EY.out).up hk).c3; go_simp) ?_
 refine WE.pp 19 (.pointer (some ⟨gV6, 1, none⟩)) ?_
 refine WE.qq 20 (.agg #[.bool g12, .slice B12 m12 d12]) rfl (fun w' hk => by obtain ⟨ce0, ce1, ce2⟩ := ((V6.out.up EY.out).up hk).c3; go_simp) ?_
 refine WE.cc 21 ((same_w (Q11.out.up EY.out).worth (Q12.out.up EY.out).worth (b := b) (by rw [← HB.out]; have := HV.out; simp [this])).mono ?_)
 rintro e wn ⟨rfl, hb⟩
 refine ⟨_, rfl, hb, ?_⟩
 replace EY := hid (EY.out.trans hb)
 clear hb
 refine WE.pp 22 (.bool b) ?_
 simp only [Act.put, pA, pB, pC]
 refine WE.pp 4 (.bool b) ?_
 simp only [Act.put, pA, pB, pC]
 refine WE.done ?_
 repeat go_step
 go_ret
 exact ⟨rfl, (E.out.trans EY.out)⟩

theorem sameL_l {w : World} {u v : Value} {t s : M.Tm} {κ μ : Int} {W : Nat} (h1 : WorthL w u t κ W) (h2 : WorthL w v s μ W) {b : Bool} (hb : decide (t = s ∧ κ = μ) = b) : Calls Tryz.prog 16 #[u, v] w (GivesB w b) := by
 by_cases hv : t = s
 ·exact sameL_eq h1 h2 hb hv
 ·exact sameL_ne h1 h2 hb hv

end Go.Proofs.YtklmnmkmpkobhaaGreat
