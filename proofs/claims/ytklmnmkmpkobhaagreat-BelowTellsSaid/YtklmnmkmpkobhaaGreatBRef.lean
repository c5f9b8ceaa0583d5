/-
  Contracts of the reference's constraints.
-/
import Derived.Test.YtklmnmkmpkobhaaGreatBMath
import Derived.Test.YtklmnmkmpkobhaaGreatLRefG
import Derived.Test.YtklmnmkmpkobhaaGreatLRefC
import Derived.Test.YtklmnmkmpkobhaaGreatRZD
namespace Go.Proofs.YtklmnmkmpkobhaaGreat
open Go.RowKit
set_option linter.unusedSimpArgs false
set_option linter.unusedVariables false

set_option maxHeartbeats 2000000 in
theorem rNotL_l {w : World} {u : Value} {t : M.Tm} {κ : Int} {W : Nat} (h1 : WorthL w u t κ W) (hw : W ≤ 40) (hn : t.length ≤ 150) :
 Calls Tryz.prog 46 #[u] w (GivesL w (M.scaleT t (-1)) (1 + κ * -1) (W + W + 13)) := by
 obtain ⟨A1, n1, c1, g1, B1, m1, d1, rfl⟩ := h1.shape
 have R1 := hid h1
 have HW := hid hw
 have HN := hid hn
 clear hw hn
 clear h1
 go_enter Tryz.func46, Tryz.ntmps46
 go_upto_region 1 with (fail)
 obtain ⟨E, BX0, BX1⟩ := open2 w #[.slice A1 n1 c1, .bool g1, .slice B1 m1 d1] 27 #[.slice none 0 0, .bool false, .slice none 0 0] 27
 replace R1 := hid (R1.out.up E.out)
 refine wp_region_D [(2, 0), (0, 1), (1, 1), (3, 1), (4, 4)] fun wd hb => ?_
 replace E := hid (E.out.trans hb)
 replace BX0 := hid (BX0.out.up hb)
 replace BX1 := hid (BX1.out.up hb)
 replace R1 := hid (R1.out.up hb)
 clear hb
 have EY := hid (Ext.refl wd)
 refine WE.qq 5 (.agg #[.slice A1 n1 c1, .bool g1, .slice B1 m1 d1]) rfl (fun w' hk => by obtain ⟨ce0, ce1, ce2⟩ := ((BX0.out.up EY.out).up hk).c3; go_simp) ?_
 refine WE.cc 3 ((rOf_z (n := 1) (by decide) (by decide) _).mono ?_)
 rintro e wn ⟨v1, rfl, x1, hb⟩
 obtain ⟨g11, A11, n11, c11, rfl⟩ := x1.shape
 refine ⟨_, rfl, hb, ?_⟩
 replace EY := hid (EY.out.trans hb)
 have Q11 := hid x1
 clear hb x1
 refine WE.cc 4 ((rConstL_l Q11.out.worth).mono ?_)
 rintro e wn ⟨v1, rfl, x1, hb⟩
 obtain ⟨A12, n12, c12, g12, B12, m12, d12, rfl⟩ := x1.shape
 refine ⟨_, rfl, hb, ?_⟩
 replace EY := hid (EY.out.trans hb)
 have S12 := hid x1
 clear hb x1
 refine WE.cc 6 ((rSubL_l (WorthL.wide S12.out.worth (U := W + 3) (by omega)) (WorthL.wide (R1.out.up EY.out) (U := W + 3) (by omega)) (by have := HW.out; omega) (Nat.zero_le _) (Nat.le_trans HN.out (by decide))).mono ?_)
 rintro e wn ⟨v1, rfl, x1, hb⟩
 obtain ⟨A13, n13, c13, g13, B13, m13, d13, rfl⟩ := x1.shape
 refine ⟨_, rfl, hb, ?_⟩
 replace EY := hid (EY.out.trans hb)
 have S13 := hid x1
 clear hb x1
 simp only [Act.put, pA, pB, pC]
 refine WE.store3 (g := (w.heap.size + 1)) (x := .slice A13 n13 c13) (y := .bool g13) (z := .slice B13 m13 d13) (t := 27) rfl rfl (by rfl) (fun w hb => ?_) (BX1.out.up EY.out) (by rfl) fun ws hk hs => ?_
 ·obtain ⟨ce0, ce1, ce2⟩ := hb.c3; obtain ⟨f0, f1, f2⟩ := hb.f3; go_simp
 intro hbx
 replace S13 := hid (S13.out.kb (BX1.out.up EY.out) (by rfl) hk hs)
 replace E := hid ((E.out.trans EY.out).keptG hk (by simp))
 replace BX1 := hid hbx
 clear hk hs hbx
 replace EY := hid (Ext.refl ws)
 refine WE.done ?_
 have r0 := (BX1.out.up EY.out).cell (o := 0) (v := .slice A13 n13 c13) rfl
 have r1 := (BX1.out.up EY.out).cell (o := 1) (v := .bool g13) rfl
 have r2 := (BX1.out.up EY.out).cell (o := 2) (v := .slice B13 m13 d13) rfl
 repeat go_step
 exact bodyPost_ret (v := .agg #[.slice A13 n13 c13, .bool g13, .slice B13 m13 d13]) (by simp [results, Tryz.results46, go_sem, r0, r1, r2]) rfl ⟨_, rfl, by have h := (S13.out.up EY.out); rw [M.nil_addT] at h; exact h.wide (by omega), (E.out.trans EY.out)⟩

set_option maxHeartbeats 2000000 in
theorem rHoldsL_l {w : World} {u : Value} {t : M.Tm} {κ : Int} {W : Nat} (h1 : WorthL w u t κ W) {Ap : Option Addr} {np cp : Nat} {xs : List (Bool × List Nat)} (hp : ZList w (.slice Ap np cp) xs) (hps : ∀ x ∈ xs, x.2.length ≤ W) (hw : W ≤ 50) (hn : t.length ≤ 1000) {b : Bool} (hb : decide (κ + M.atT (M.valAt xs) t ≤ 0) = b) :
 Calls Tryz.prog 48 #[u, .slice Ap np cp] w (GivesB w b) := by
 obtain ⟨A1, n1, c1, g1, B1, m1, d1, rfl⟩ := h1.shape
 have R1 := hid h1
 have HP := hid hp
 have HPS := hid hps
 have HW := hid hw
 have HN := hid hn
 obtain ⟨sg, hsg⟩ : ∃ s : Int, (κ + M.atT (M.valAt xs) t).sign = s := ⟨_, rfl⟩
 have HSG := hid hsg
 have hsd : decide (sg ≤ 0) = b := by rw [← hsg, M.sign_le]; exact hb
 clear hp hps hw hn hb hsg
 clear h1
 go_enter Tryz.func48, Tryz.ntmps48
 go_upto_region 1 with (fail)
 obtain ⟨E, BX0⟩ := open1 w #[.slice A1 n1 c1, .bool g1, .slice B1 m1 d1] 27
 replace R1 := hid (R1.out.up E.out)
 refine wp_region_S [(0, 0), (1, 0), (2, 1), (3, 1), (4, 0), (5, 0)] fun wd hb => ?_
 replace E := hid (E.out.trans hb)
 replace BX0 := hid (BX0.out.up hb)
 replace R1 := hid (R1.out.up hb)
 clear hb
 have EY := hid (Ext.refl wd)
 refine WE.qq 5 (.agg #[.slice A1 n1 c1, .bool g1, .slice B1 m1 d1]) rfl (fun w' hk => by obtain ⟨ce0, ce1, ce2⟩ := ((BX0.out.up EY.out).up hk).c3; go_simp) ?_
 refine WE.pp 6 (.slice Ap np cp) ?_
 refine WE.cc 7 ((rAtL_l (R1.out.up EY.out) (HP.out.up (E.out.trans EY.out)) HPS.out (by have := HW.out; omega) HN.out).mono ?_)
 rintro e wn ⟨v1, rfl, x1, hb⟩
 obtain ⟨g11, A11, n11, c11, rfl⟩ := x1.shape
 refine ⟨_, rfl, hb, ?_⟩
 replace EY := hid (EY.out.trans hb)
 have Q11 := hid x1
 clear hb x1
 refine WE.cc 8 ((rSign_w Q11.out.worth (s := sg) HSG.out).mono ?_)
 rintro e wn ⟨rfl, hb⟩
 refine ⟨_, rfl, hb, ?_⟩
 replace EY := hid (EY.out.trans hb)
 clear hb
 refine WE.pp 9 (.bool b) ?_
 refine WE.pp 4 (.bool b) ?_
 simp only [Act.put, pA, pB, pC]
 refine WE.done ?_
 repeat go_step
 go_ret
 exact ⟨rfl, (E.out.trans EY.out)⟩

set_option maxHeartbeats 4000000 in
theorem rAllL_l {w : World} {A1 : Option Addr} {n1 c1 W : Nat} {fs : List (M.Tm × Int)} (h1 : WList w (.slice A1 n1 c1) fs W) {Ap : Option Addr} {np cp : Nat} {xs : List (Bool × List Nat)} (hp : ZList w (.slice Ap np cp) xs) (hps : ∀ x ∈ xs, x.2.length ≤ W) (hw : W ≤ 50) (hn : ∀ x ∈ fs, x.1.length ≤ 1000) {b : Bool} (hb : fs.all (M.hl (M.valAt xs)) = b) :
 Calls Tryz.prog 50 #[.slice A1 n1 c1, .slice Ap np cp] w (GivesB w b) := by
 have HM := hid h1
 have HC := hid h1.count
 have hb9 : n1 ≤ 9223372036854775807 := h1.count.2.2
 have HP := hid hp
 have HPS := hid hps
 have HW := hid hw
 have HN := hid hn
 have HB := hid hb
 clear hp hps hw hn hb
 clear h1
 go_enter Tryz.func50, Tryz.ntmps50
 go_upto_region 1 with (fail)
 have E := hid (Ext.refl w)
 refine wp_region_S [(0, 0)] fun wd hb => ?_
 replace E := hid (E.out.trans hb)
 clear hb
 have EY := hid (Ext.refl wd)
 refine WE.pp 5 (.int .i64 (0)) ?_
 simp only [Act.put, pA, pB, pC]
 refine WE.done ?_
 go_wp2
 go_loopw [5] (fun x5 wr => ∃ (k : Nat), x5 = .int .i64 (k : Int) ∧ k ≤ n1 ∧ (∀ x ∈ fs.take k, M.hl (M.valAt xs) x = true) ∧ Ext w wr) (fun x5 _ => n1 - (intOf x5).toNat)
 case atStart => exact ⟨0, rfl, Nat.zero_le _, fun x hx => by simp at hx, (E.out.trans EY.out)⟩
 case round =>
  clear E EY
  obtain ⟨k, rfl, hr0, hr1, hr2⟩ := hrel
  have HOK := hid hr1
  have E := hid hr2
  clear hr1 hr2
  have EY := hid (Ext.refl wr)
  have hk := hr0
  by_cases hlt : k < n1
  ·have hlt' : decide ((k : Int) < (n1 : Int)) = true := decide_eq_true (by omega)
   obtain ⟨x, hx⟩ : ∃ x, fs[k]? = some x := ⟨_, List.getElem?_eq_getElem (by rw [← HC.out.1]; exact hlt)⟩
   obtain ⟨ad, Be, pe, qe, ge, Ce, me, de, rfl, ka, kb, kc, kw⟩ := HM.out.get hx
   have HX := hid hx
   have HNX := hid (HN.out x (List.mem_of_getElem? hx))
   obtain ⟨tx, kx⟩ := x
   have KA := hid ka
   have KB := hid kb
   have KC := hid kc
   have KW := hid kw
   clear hx ka kb kc kw
   go_upto_region 2 with (fail)
   refine wp_region_S [(0, 0), (1, 0), (2, 0), (3, 0)] fun wd hb => ?_
   replace EY := hid (EY.out.trans hb)
   clear hb
   refine WE.pp 6 (.int .i64 (k : Int)) ?_
   refine WE.pp 7 (.slice (some ad) n1 c1) ?_
   refine WE.pp 8 (.int .i64 (n1 : Int)) ?_
   refine WE.pp 9 (.bool true) ?_
   simp only [Act.put, pA, pB, pC]
   refine WE.done ?_
   obtain ⟨bx, hbx⟩ : ∃ b : Bool, decide (kx + M.atT (M.valAt xs) tx ≤ 0) = b := ⟨_, rfl⟩
   have HBX := hid hbx
   clear hbx
   cases bx with
   | false =>
    go_upto_region 4 with (fail)
    refine wp_region_S [(0, 0), (1, 0), (2, 0), (3, 0), (4, 0), (5, 1), (6, 0)] fun wd hb => ?_
    replace EY := hid (EY.out.trans hb)
    clear hb
    refine WE.pp 12 (.slice (some ad) n1 c1) ?_
    refine WE.pp 13 (.int .i64 (k : Int)) ?_
    refine WE.pp 14 (.pointer (some (ad.add (k * 3)))) ?_
    refine WE.qq 15 (.agg #[.slice Be pe qe, .bool ge, .slice Ce me de]) rfl (fun w' hk => by have ce0 : w'.cell? (ad.add (k * 3)) = some (.slice Be pe qe) := (KA.out.up (E.out.trans EY.out)).up hk; have ce1 : w'.cell? ⟨(ad.add (k * 3)).block, (ad.add (k * 3)).off + 1, none⟩ = some (.bool ge) := (KB.out.up (E.out.trans EY.out)).up hk; have ce2 : w'.cell? ⟨(ad.add (k * 3)).block, (ad.add (k * 3)).off + 2, none⟩ = some (.slice Ce me de) := (KC.out.up (E.out.trans EY.out)).up hk; go_simp) ?_
    refine WE.pp 16 (.slice Ap np cp) ?_
    refine WE.cc 17 ((rHoldsL_l (KW.out.up (E.out.trans EY.out)) (HP.out.up (E.out.trans EY.out)) HPS.out HW.out HNX.out HBX.out).mono ?_)
    rintro e wn ⟨rfl, hb⟩
    refine ⟨_, rfl, hb, ?_⟩
    replace EY := hid (EY.out.trans hb)
    clear hb
    simp only [Act.put, pA, pB, pC]
    refine WE.pp 18 (.bool true) ?_
    simp only [Act.put, pA, pB, pC]
    refine WE.done ?_
    go_upto_region 5 with (fail)
    refine wp_region_S [(0, 0)] fun wd hb => ?_
    replace EY := hid (EY.out.trans hb)
    clear hb
    refine WE.pp 4 (.bool false) ?_
    simp only [Act.put, pA, pB, pC]
    refine WE.done ?_
    repeat go_step
    go_ret
    exact ⟨by rw [← HB.out, M.all_take_false HX.out (show M.hl (M.valAt xs) (tx, kx) = false from HBX.out)]; rfl, (E.out.trans EY.out)⟩
   | true =>
    go_upto_region 4 with (fail)
    refine wp_region_S [(0, 0), (1, 0), (2, 0), (3, 0), (4, 0), (5, 1), (6, 0)] fun wd hb => ?_
    replace EY := hid (EY.out.trans hb)
    clear hb
    refine WE.pp 12 (.slice (some ad) n1 c1) ?_
    refine WE.pp 13 (.int .i64 (k : Int)) ?_
    refine WE.pp 14 (.pointer (some (ad.add (k * 3)))) ?_
    refine WE.qq 15 (.agg #[.slice Be pe qe, .bool ge, .slice Ce me de]) rfl (fun w' hk => by have ce0 : w'.cell? (ad.add (k * 3)) = some (.slice Be pe qe) := (KA.out.up (E.out.trans EY.out)).up hk; have ce1 : w'.cell? ⟨(ad.add (k * 3)).block, (ad.add (k * 3)).off + 1, none⟩ = some (.bool ge) := (KB.out.up (E.out.trans EY.out)).up hk; have ce2 : w'.cell? ⟨(ad.add (k * 3)).block, (ad.add (k * 3)).off + 2, none⟩ = some (.slice Ce me de) := (KC.out.up (E.out.trans EY.out)).up hk; go_simp) ?_
    refine WE.pp 16 (.slice Ap np cp) ?_
    refine WE.cc 17 ((rHoldsL_l (KW.out.up (E.out.trans EY.out)) (HP.out.up (E.out.trans EY.out)) HPS.out HW.out HNX.out HBX.out).mono ?_)
    rintro e wn ⟨rfl, hb⟩
    refine ⟨_, rfl, hb, ?_⟩
    replace EY := hid (EY.out.trans hb)
    clear hb
    simp only [Act.put, pA, pB, pC]
    refine WE.pp 18 (.bool false) ?_
    simp only [Act.put, pA, pB, pC]
    refine WE.done ?_
    go_wp2
    go_roundw
    case rel => exact ⟨k + 1, by go_num, by omega, fun y hy => by rw [List.take_add_one, HX.out, Option.toList_some] at hy; rcases List.mem_append.1 hy with hy | hy; exact HOK.out y hy; simp only [List.mem_singleton] at hy; subst hy; exact HBX.out, (E.out.trans EY.out)⟩
    case measure => simp [intOf]; all_goals omega
  ·obtain rfl : k = n1 := by omega
   have hlt' : decide ((k : Int) < (k : Int)) = false := by simp
   go_upto_region 2 with (fail)
   refine wp_region_S [(0, 0), (1, 0), (2, 0), (3, 0)] fun wd hb => ?_
   replace EY := hid (EY.out.trans hb)
   clear hb
   refine WE.pp 6 (.int .i64 (k : Int)) ?_
   refine WE.pp 7 (.slice A1 k c1) ?_
   refine WE.pp 8 (.int .i64 (k : Int)) ?_
   refine WE.pp 9 (.bool false) ?_
   simp only [Act.put, pA, pB, pC]
   refine WE.done ?_
   go_upto_region 6 with (fail)
   refine wp_region_S [(0, 0)] fun wd hb => ?_
   replace EY := hid (EY.out.trans hb)
   clear hb
   refine WE.pp 4 (.bool true) ?_
   simp only [Act.put, pA, pB, pC]
   refine WE.done ?_
   repeat go_step
   go_ret
   exact ⟨by rw [← HB.out, List.all_eq_true.2 fun x hx => HOK.out x (by rw [HC.out.1, List.take_length]; exact hx)]; rfl, (E.out.trans EY.out)⟩

set_option maxHeartbeats 4000000 in
theorem rNorm_never {w : World} {u : Value} {t : M.Tm} {κ : Int} {W : Nat} (h1 : WorthL w u t κ W) (hw : W ≤ 1000) (hn : t.length ≤ 1000) (he : t = []) (hc : ¬ κ ≤ 0) :
 Calls Tryz.prog 44 #[u] w (GivesNC w (M.nT t) (M.nK t κ) (M.nC t κ) (W + 2)) := by
 obtain ⟨A1, n1, c1, g1, B1, m1, d1, rfl⟩ := h1.shape
 have R1 := hid h1
 have HE := hid he
 have HC2 := hid hc
 obtain ⟨sg, hsg⟩ : ∃ s : Int, κ.sign = s := ⟨_, rfl⟩
 have HSG := hid hsg
 have hsd : decide (0 < sg) = true := by rw [← hsg, M.sign_gt]; exact decide_eq_true (by omega)
 clear hw hn he hc hsg
 clear h1
 go_enter Tryz.func44, Tryz.ntmps44
 go_upto_region 1 with (fail)
 obtain ⟨E, BX0, BX1⟩ := open2 w #[.slice A1 n1 c1, .bool g1, .slice B1 m1 d1] 27 #[.slice none 0 0, .bool false, .slice none 0 0] 27
 replace R1 := hid (R1.out.up E.out)
 refine wp_region_S [(0, 0), (1, 1), (2, 1), (3, 4)] fun wd hb => ?_
 replace E := hid (E.out.trans hb)
 replace BX0 := hid (BX0.out.up hb)
 replace BX1 := hid (BX1.out.up hb)
 replace R1 := hid (R1.out.up hb)
 clear hb
 have EY := hid (Ext.refl wd)
 refine WE.qq 12 (.agg #[.slice A1 n1 c1, .bool g1, .slice B1 m1 d1]) rfl (fun w' hk => by obtain ⟨ce0, ce1, ce2⟩ := ((BX0.out.up EY.out).up hk).c3; go_simp) ?_
 refine WE.cc 13 ((rMayL_l (R1.out.up EY.out)).mono ?_)
 rintro e w11 ⟨v1, rfl, x1, hb⟩
 obtain ⟨A11, n11, c11, g11, B11, m11, d11, rfl, t1, k1, o1⟩ := x1
 refine ⟨_, rfl, hb, ?_⟩
 replace EY := hid (EY.out.trans hb)
 have T11 := hid t1
 have Q11 := hid k1
 have O11 := hid o1
 have F11 := hid (Ext.refl w11)
 clear hb t1 k1 o1
 simp only [Act.put, pA, pB, pC]
 refine WE.new (d := some 4) (cs := #[.slice none 0 0, .bool false, .slice none 0 0]) (t := 27) (v := fun g => (.pointer (some ⟨g, 0, none⟩))) rfl rfl (by rfl) (fun w => by go_simp) fun gV4 wv hx0 hbox hge => ?_
 have HNV4BX1 := hid (show gV4 ≠ (w.heap.size + 1) by have := (BX1.out.up EY.out).lt; omega)
 have HGV4 := hid (show w.heap.size ≤ gV4 by have := (E.out.trans EY.out).size; omega)
 replace EY := hid (EY.out.trans hx0)
 replace Q11 := hid (Q11.out.up hx0)
 replace F11 := hid (F11.out.trans hx0)
 have V4 : Hid (Box wv gV4 #[.slice none 0 0, .bool false, .slice none 0 0] 27) := hid hbox
 clear hx0 hbox hge
 simp only [Act.put, pA, pB, pC]
 refine WE.store3 (g := gV4) (x := .slice A11 n11 c11) (y := .bool g11) (z := .slice B11 m11 d11) (t := 27) rfl rfl (by rfl) (fun w hb => ?_) V4.out (by rfl) fun ws hk hs => ?_
 ·obtain ⟨ce0, ce1, ce2⟩ := hb.c3; obtain ⟨f0, f1, f2⟩ := hb.f3; go_simp
 intro hbx
 replace T11 := hid ((T11.out.up F11.out).kb V4.out (by rfl) hk hs)
 replace E := hid ((E.out.trans EY.out).keptG hk HGV4.out)
 replace BX1 := hid ((BX1.out.up EY.out).kept hk (by simpa using HNV4BX1.out.symm))
 replace V4 := hid hbx
 replace Q11 := hid (Q11.out.kz hs)
 clear hk hs hbx
 replace EY := hid (Ext.refl ws)
 replace F11 := hid (Ext.refl ws)
 refine WE.done ?_
 have HC := hid T11.out.count
 have hb9 : n11 ≤ 9223372036854775807 := T11.out.count.2.2
 have hn0 : ((n11 : Int) == 0) = true := by have hc1 := HC.out.1; rw [HE.out] at hc1; rw [hc1]; rfl
 go_upto_region 2 with (fail)
 refine wp_region_S [(0, 0), (1, 0), (2, 0), (3, 0)] fun wd hb => ?_
 replace EY := hid (EY.out.trans hb)
 replace F11 := hid (F11.out.trans hb)
 clear hb
 refine WE.pp 14 (.pointer (some ⟨gV4, 0, none⟩)) ?_
 refine WE.qq 15 (.slice A11 n11 c11) rfl (fun w' hk => by have ce0 := ((V4.out.up EY.out).up hk).k 0; go_simp) ?_
 refine WE.pp 16 (.int .i64 (n11 : Int)) ?_
 refine WE.pp 17 (.bool true) ?_
 simp only [Act.put, pA, pB, pC]
 refine WE.done ?_
 go_upto_region 3 with (fail)
 refine wp_region_S [(0, 0), (1, 0), (2, 1), (3, 0)] fun wd hb => ?_
 replace EY := hid (EY.out.trans hb)
 replace F11 := hid (F11.out.trans hb)
 clear hb
 refine WE.pp 18 (.pointer (some ⟨gV4, 1, none⟩)) ?_
 refine WE.qq 19 (.agg #[.bool g11, .slice B11 m11 d11]) rfl (fun w' hk => by obtain ⟨ce0, ce1, ce2⟩ := ((V4.out.up EY.out).up hk).c3; go_simp) ?_
 refine WE.cc 20 ((rSign_w (Q11.out.up EY.out).worth (s := sg) (HSG.out)).mono ?_)
 rintro e wn ⟨rfl, hb⟩
 refine ⟨_, rfl, hb, ?_⟩
 replace EY := hid (EY.out.trans hb)
 replace F11 := hid (F11.out.trans hb)
 clear hb
 refine WE.pp 21 (.bool true) ?_
 simp only [Act.put, pA, pB, pC]
 refine WE.done ?_
 go_upto_region 4 with (fail)
 refine wp_region_S [(0, 0), (1, 4), (2, 0)] fun wd hb => ?_
 replace EY := hid (EY.out.trans hb)
 replace F11 := hid (F11.out.trans hb)
 clear hb
 refine WE.qq 22 (.agg #[.slice A11 n11 c11, .bool g11, .slice B11 m11 d11]) rfl (fun w' hk => by obtain ⟨ce0, ce1, ce2⟩ := ((V4.out.up EY.out).up hk).c3; go_simp) ?_
 simp only [Act.put, pA, pB, pC]
 refine WE.store3 (g := (w.heap.size + 1)) (x := .slice A11 n11 c11) (y := .bool g11) (z := .slice B11 m11 d11) (t := 27) rfl rfl (by rfl) (fun w hb => ?_) (BX1.out.up EY.out) (by rfl) fun ws hk hs => ?_
 ·obtain ⟨ce0, ce1, ce2⟩ := hb.c3; obtain ⟨f0, f1, f2⟩ := hb.f3; go_simp
 intro hbx
 replace T11 := hid ((T11.out.up F11.out).kb (BX1.out.up EY.out) (by rfl) hk hs)
 replace E := hid ((E.out.trans EY.out).keptG hk (by simp))
 replace BX1 := hid hbx
 replace Q11 := hid ((Q11.out.up EY.out).kz hs)
 clear hk hs hbx
 replace EY := hid (Ext.refl ws)
 replace F11 := hid (Ext.refl ws)
 refine WE.pp 3 (.int .i64 (3)) ?_
 simp only [Act.put, pA, pB, pC]
 refine WE.done ?_
 have r0 := (BX1.out.up EY.out).cell (o := 0) (v := .slice A11 n11 c11) rfl
 have r1 := (BX1.out.up EY.out).cell (o := 1) (v := .bool g11) rfl
 have r2 := (BX1.out.up EY.out).cell (o := 2) (v := .slice B11 m11 d11) rfl
 repeat go_step
 exact bodyPost_ret (v := .tuple #[.agg #[.slice A11 n11 c11, .bool g11, .slice B11 m11 d11], .int .i64 3]) (by simp [results, Tryz.results44, go_sem, r0, r1, r2]) rfl ⟨_, by rw [HE.out, M.nC_nil, if_neg HC2.out], by rw [HE.out, M.nT_nil, M.nK_nil]; have h := (show IsL _ _ _ _ _ from ⟨_, _, _, _, _, _, _, rfl, (T11.out.up F11.out), (Q11.out.up EY.out), O11.out⟩); rw [HE.out] at h; exact h.wide (by omega), (E.out.trans EY.out)⟩

set_option maxHeartbeats 4000000 in
theorem rNorm_always {w : World} {u : Value} {t : M.Tm} {κ : Int} {W : Nat} (h1 : WorthL w u t κ W) (hw : W ≤ 1000) (hn : t.length ≤ 1000) (he : t = []) (hc : κ ≤ 0) :
 Calls Tryz.prog 44 #[u] w (GivesNC w (M.nT t) (M.nK t κ) (M.nC t κ) (W + 2)) := by
 obtain ⟨A1, n1, c1, g1, B1, m1, d1, rfl⟩ := h1.shape
 have R1 := hid h1
 have HE := hid he
 have HC2 := hid hc
 obtain ⟨sg, hsg⟩ : ∃ s : Int, κ.sign = s := ⟨_, rfl⟩
 have HSG := hid hsg
 have hsd : decide (0 < sg) = false := by rw [← hsg, M.sign_gt]; exact decide_eq_false (by omega)
 clear hw hn he hc hsg
 clear h1
 go_enter Tryz.func44, Tryz.ntmps44
 go_upto_region 1 with (fail)
 obtain ⟨E, BX0, BX1⟩ := open2 w #[.slice A1 n1 c1, .bool g1, .slice B1 m1 d1] 27 #[.slice none 0 0, .bool false, .slice none 0 0] 27
 replace R1 := hid (R1.out.up E.out)
 refine wp_region_S [(0, 0), (1, 1), (2, 1), (3, 4)] fun wd hb => ?_
 replace E := hid (E.out.trans hb)
 replace BX0 := hid (BX0.out.up hb)
 replace BX1 := hid (BX1.out.up hb)
 replace R1 := hid (R1.out.up hb)
 clear hb
 have EY := hid (Ext.refl wd)
 refine WE.qq 12 (.agg #[.slice A1 n1 c1, .bool g1, .slice B1 m1 d1]) rfl (fun w' hk => by obtain ⟨ce0, ce1, ce2⟩ := ((BX0.out.up EY.out).up hk).c3; go_simp) ?_
 refine WE.cc 13 ((rMayL_l (R1.out.up EY.out)).mono ?_)
 rintro e w11 ⟨v1, rfl, x1, hb⟩
 obtain ⟨A11, n11, c11, g11, B11, m11, d11, rfl, t1, k1, o1⟩ := x1
 refine ⟨_, rfl, hb, ?_⟩
 replace EY := hid (EY.out.trans hb)
 have T11 := hid t1
 have Q11 := hid k1
 have O11 := hid o1
 have F11 := hid (Ext.refl w11)
 clear hb t1 k1 o1
 simp only [Act.put, pA, pB, pC]
 refine WE.new (d := some 4) (cs := #[.slice none 0 0, .bool false, .slice none 0 0]) (t := 27) (v := fun g => (.pointer (some ⟨g, 0, none⟩))) rfl rfl (by rfl) (fun w => by go_simp) fun gV4 wv hx0 hbox hge => ?_
 have HNV4BX1 := hid (show gV4 ≠ (w.heap.size + 1) by have := (BX1.out.up EY.out).lt; omega)
 have HGV4 := hid (show w.heap.size ≤ gV4 by have := (E.out.trans EY.out).size; omega)
 replace EY := hid (EY.out.trans hx0)
 replace Q11 := hid (Q11.out.up hx0)
 replace F11 := hid (F11.out.trans hx0)
 have V4 : Hid (Box wv gV4 #[.slice none 0 0, .bool false, .slice none 0 0] 27) := hid hbox
 clear hx0 hbox hge
 simp only [Act.put, pA, pB, pC]
 refine WE.store3 (g := gV4) (x := .slice A11 n11 c11) (y := .bool g11) (z := .slice B11 m11 d11) (t := 27) rfl rfl (by rfl) (fun w hb => ?_) V4.out (by rfl) fun ws hk hs => ?_
 ·obtain ⟨ce0, ce1, ce2⟩ := hb.c3; obtain ⟨f0, f1, f2⟩ := hb.f3; go_simp
 intro hbx
 replace T11 := hid ((T11.out.up F11.out).kb V4.out (by rfl) hk hs)
 replace E := hid ((E.out.trans EY.out).keptG hk HGV4.out)
 replace BX1 := hid ((BX1.out.up EY.out).kept hk (by simpa using HNV4BX1.out.symm))
 replace V4 := hid hbx
 replace Q11 := hid (Q11.out.kz hs)
 clear hk hs hbx
 replace EY := hid (Ext.refl ws)
 replace F11 := hid (Ext.refl ws)
 refine WE.done ?_
 have HC := hid T11.out.count
 have hb9 : n11 ≤ 9223372036854775807 := T11.out.count.2.2
 have hn0 : ((n11 : Int) == 0) = true := by have hc1 := HC.out.1; rw [HE.out] at hc1; rw [hc1]; rfl
 go_upto_region 2 with (fail)
 refine wp_region_S [(0, 0), (1, 0), (2, 0), (3, 0)] fun wd hb => ?_
 replace EY := hid (EY.out.trans hb)
 replace F11 := hid (F11.out.trans hb)
 clear hb
 refine WE.pp 14 (.pointer (some ⟨gV4, 0, none⟩)) ?_
 refine WE.qq 15 (.slice A11 n11 c11) rfl (fun w' hk => by have ce0 := ((V4.out.up EY.out).up hk).k 0; go_simp) ?_
 refine WE.pp 16 (.int .i64 (n11 : Int)) ?_
 refine WE.pp 17 (.bool true) ?_
 simp only [Act.put, pA, pB, pC]
 refine WE.done ?_
 go_upto_region 3 with (fail)
 refine wp_region_S [(0, 0), (1, 0), (2, 1), (3, 0)] fun wd hb => ?_
 replace EY := hid (EY.out.trans hb)
 replace F11 := hid (F11.out.trans hb)
 clear hb
 refine WE.pp 18 (.pointer (some ⟨gV4, 1, none⟩)) ?_
 refine WE.qq 19 (.agg #[.bool g11, .slice B11 m11 d11]) rfl (fun w' hk => by obtain ⟨ce0, ce1, ce2⟩ := ((V4.out.up EY.out).up hk).c3; go_simp) ?_
 refine WE.cc 20 ((rSign_w (Q11.out.up EY.out).worth (s := sg) (HSG.out)).mono ?_)
 rintro e wn ⟨rfl, hb⟩
 refine ⟨_, rfl, hb, ?_⟩
 replace EY := hid (EY.out.trans hb)
 replace F11 := hid (F11.out.trans hb)
 clear hb
 refine WE.pp 21 (.bool false) ?_
 simp only [Act.put, pA, pB, pC]
 refine WE.done ?_
 go_upto_region 5 with (fail)
 refine wp_region_S [(0, 0), (1, 4), (2, 0)] fun wd hb => ?_
 replace EY := hid (EY.out.trans hb)
 replace F11 := hid (F11.out.trans hb)
 clear hb
 refine WE.qq 23 (.agg #[.slice A11 n11 c11, .bool g11, .slice B11 m11 d11]) rfl (fun w' hk => by obtain ⟨ce0, ce1, ce2⟩ := ((V4.out.up EY.out).up hk).c3; go_simp) ?_
 simp only [Act.put, pA, pB, pC]
 refine WE.store3 (g := (w.heap.size + 1)) (x := .slice A11 n11 c11) (y := .bool g11) (z := .slice B11 m11 d11) (t := 27) rfl rfl (by rfl) (fun w hb => ?_) (BX1.out.up EY.out) (by rfl) fun ws hk hs => ?_
 ·obtain ⟨ce0, ce1, ce2⟩ := hb.c3; obtain ⟨f0, f1, f2⟩ := hb.f3; go_simp
 intro hbx
 replace T11 := hid ((T11.out.up F11.out).kb (BX1.out.up EY.out) (by rfl) hk hs)
 replace E := hid ((E.out.trans EY.out).keptG hk (by simp))
 replace BX1 := hid hbx
 replace Q11 := hid ((Q11.out.up EY.out).kz hs)
 clear hk hs hbx
 replace EY := hid (Ext.refl ws)
 replace F11 := hid (Ext.refl ws)
 refine WE.pp 3 (.int .i64 (2)) ?_
 simp only [Act.put, pA, pB, pC]
 refine WE.done ?_
 have r0 := (BX1.out.up EY.out).cell (o := 0) (v := .slice A11 n11 c11) rfl
 have r1 := (BX1.out.up EY.out).cell (o := 1) (v := .bool g11) rfl
 have r2 := (BX1.out.up EY.out).cell (o := 2) (v := .slice B11 m11 d11) rfl
 repeat go_step
 exact bodyPost_ret (v := .tuple #[.agg #[.slice A11 n11 c11, .bool g11, .slice B11 m11 d11], .int .i64 2]) (by simp [results, Tryz.results44, go_sem, r0, r1, r2]) rfl ⟨_, by rw [HE.out, M.nC_nil, if_pos HC2.out], by rw [HE.out, M.nT_nil, M.nK_nil]; have h := (show IsL _ _ _ _ _ from ⟨_, _, _, _, _, _, _, rfl, (T11.out.up F11.out), (Q11.out.up EY.out), O11.out⟩); rw [HE.out] at h; exact h.wide (by omega), (E.out.trans EY.out)⟩

set_option maxRecDepth 100000 in
set_option maxHeartbeats 8000000 in
theorem rNorm_open {w : World} {u : Value} {t : M.Tm} {κ : Int} {W : Nat} (h1 : WorthL w u t κ W) (hw : W ≤ 1000) (hn : t.length ≤ 1000) (he : t ≠ []) :
 Calls Tryz.prog 44 #[u] w (GivesNC w (M.nT t) (M.nK t κ) (M.nC t κ) (W + 2)) := by
 obtain ⟨A1, n1, c1, g1, B1, m1, d1, rfl⟩ := h1.shape
 have R1 := hid h1
 have HW := hid hw
 have HN := hid hn
 have HE := hid he
 have HO := hid h1.okB
 have HG := hid (M.cm_pos HO.out)
 have HD := hid (show ∀ x ∈ t, (M.cm t : Int) ∣ x.2 from fun _ hx => M.cm_dvd hx)
 obtain ⟨g, hg⟩ : ∃ g : Int, (M.cm t : Int) = g := ⟨_, rfl⟩
 have HGG := hid (show (M.gcdT t : Int) = g by rw [← hg, M.cm_some he])
 rw [hg] at HG HD
 have HGE := hid hg
 clear hw hn he hg
 clear h1
 go_enter Tryz.func44, Tryz.ntmps44
 go_upto_region 1 with (fail)
 obtain ⟨E, BX0, BX1⟩ := open2 w #[.slice A1 n1 c1, .bool g1, .slice B1 m1 d1] 27 #[.slice none 0 0, .bool false, .slice none 0 0] 27
 replace R1 := hid (R1.out.up E.out)
 refine wp_region_S [(0, 0), (1, 1), (2, 1), (3, 4)] fun wd hb => ?_
 replace E := hid (E.out.trans hb)
 replace BX0 := hid (BX0.out.up hb)
 replace BX1 := hid (BX1.out.up hb)
 replace R1 := hid (R1.out.up hb)
 clear hb
 have EY := hid (Ext.refl wd)
 refine WE.qq 12 (.agg #[.slice A1 n1 c1, .bool g1, .slice B1 m1 d1]) rfl (fun w' hk => by obtain ⟨ce0, ce1, ce2⟩ := ((BX0.out.up EY.out).up hk).c3; go_simp) ?_
 refine WE.cc 13 ((rMayL_l (R1.out.up EY.out)).mono ?_)
 rintro e w11 ⟨v1, rfl, x1, hb⟩
 obtain ⟨A11, n11, c11, g11, B11, m11, d11, rfl, t1, k1, o1⟩ := x1
 refine ⟨_, rfl, hb, ?_⟩
 replace EY := hid (EY.out.trans hb)
 have T11 := hid t1
 have Q11 := hid k1
 have O11 := hid o1
 have F11 := hid (Ext.refl w11)
 clear hb t1 k1 o1
 simp only [Act.put, pA, pB, pC]
 refine WE.new (d := some 4) (cs := #[.slice none 0 0, .bool false, .slice none 0 0]) (t := 27) (v := fun g => (.pointer (some ⟨g, 0, none⟩))) rfl rfl (by rfl) (fun w => by go_simp) fun gV4 wv hx0 hbox hge => ?_
 have HNV4BX0 := hid (show gV4 ≠ (w.heap.size) by have := (BX0.out.up EY.out).lt; omega)
 have HNV4BX1 := hid (show gV4 ≠ (w.heap.size + 1) by have := (BX1.out.up EY.out).lt; omega)
 have HGV4 := hid (show w.heap.size ≤ gV4 by have := (E.out.trans EY.out).size; omega)
 replace EY := hid (EY.out.trans hx0)
 replace Q11 := hid (Q11.out.up hx0)
 replace F11 := hid (F11.out.trans hx0)
 have V4 : Hid (Box wv gV4 #[.slice none 0 0, .bool false, .slice none 0 0] 27) := hid hbox
 clear hx0 hbox hge
 simp only [Act.put, pA, pB, pC]
 refine WE.store3 (g := gV4) (x := .slice A11 n11 c11) (y := .bool g11) (z := .slice B11 m11 d11) (t := 27) rfl rfl (by rfl) (fun w hb => ?_) V4.out (by rfl) fun ws hk hs => ?_
 ·obtain ⟨ce0, ce1, ce2⟩ := hb.c3; obtain ⟨f0, f1, f2⟩ := hb.f3; go_simp
 intro hbx
 replace T11 := hid ((T11.out.up F11.out).kb V4.out (by rfl) hk hs)
 replace E := hid ((E.out.trans EY.out).keptG hk HGV4.out)
 replace BX0 := hid ((BX0.out.up EY.out).kept hk (by simpa using HNV4BX0.out.symm))
 replace BX1 := hid ((BX1.out.up EY.out).kept hk (by simpa using HNV4BX1.out.symm))
 replace V4 := hid hbx
 replace Q11 := hid (Q11.out.kz hs)
 clear hk hs hbx
 replace EY := hid (Ext.refl ws)
 replace F11 := hid (Ext.refl ws)
 refine WE.done ?_
 have HC := hid T11.out.count
 have hb9 : n11 ≤ 9223372036854775807 := T11.out.count.2.2
 have hn0 : ((n11 : Int) == 0) = false := by have hc1 := HC.out.1; rw [beq_eq_false_iff_ne]; have := List.length_pos_iff.2 HE.out; omega
 go_upto_region 2 with (fail)
 refine wp_region_S [(0, 0), (1, 0), (2, 0), (3, 0)] fun wd hb => ?_
 replace EY := hid (EY.out.trans hb)
 replace F11 := hid (F11.out.trans hb)
 clear hb
 refine WE.pp 14 (.pointer (some ⟨gV4, 0, none⟩)) ?_
 refine WE.qq 15 (.slice A11 n11 c11) rfl (fun w' hk => by have ce0 := ((V4.out.up EY.out).up hk).k 0; go_simp) ?_
 refine WE.pp 16 (.int .i64 (n11 : Int)) ?_
 refine WE.pp 17 (.bool false) ?_
 simp only [Act.put, pA, pB, pC]
 refine WE.done ?_
 go_upto_region 6 with (fail)
 refine wp_region_S [(0, 0), (1, 1), (2, 1), (3, 4)] fun wd hb => ?_
 replace EY := hid (EY.out.trans hb)
 replace F11 := hid (F11.out.trans hb)
 clear hb
 refine WE.qq 24 (.agg #[.slice A11 n11 c11, .bool g11, .slice B11 m11 d11]) rfl (fun w' hk => by obtain ⟨ce0, ce1, ce2⟩ := ((V4.out.up EY.out).up hk).c3; go_simp) ?_
 refine WE.cc 25 ((rGcdL_l (show IsL _ _ _ _ _ from ⟨_, _, _, _, _, _, _, rfl, (T11.out.up F11.out), (Q11.out.up EY.out), O11.out⟩).worth (by have := HW.out; omega)).mono ?_)
 rintro e wn ⟨v1, rfl, x1, hb⟩
 obtain ⟨g12, A12, n12, c12, rfl⟩ := x1.shape
 replace x1 := (IsZ.to x1 HGG.out)
 refine ⟨_, rfl, hb, ?_⟩
 replace EY := hid (EY.out.trans hb)
 replace F11 := hid (F11.out.trans hb)
 have Q12 := hid x1
 clear hb x1
 simp only [Act.put, pA, pB, pC]
 refine WE.new (d := some 5) (cs := #[.bool false, .slice none 0 0]) (t := 25) (v := fun g => (.pointer (some ⟨g, 0, none⟩))) rfl rfl (by rfl) (fun w => by go_simp) fun gV5 wv hx0 hbox hge => ?_
 have HNV5BX0 := hid (show gV5 ≠ (w.heap.size) by have := (BX0.out.up EY.out).lt; omega)
 have HNV5BX1 := hid (show gV5 ≠ (w.heap.size + 1) by have := (BX1.out.up EY.out).lt; omega)
 have HNV5V4 := hid (show gV5 ≠ gV4 by have := (V4.out.up EY.out).lt; omega)
 have HGV5 := hid (show w.heap.size ≤ gV5 by have := (E.out.trans EY.out).size; omega)
 replace EY := hid (EY.out.trans hx0)
 replace Q12 := hid (Q12.out.up hx0)
 replace F11 := hid (F11.out.trans hx0)
 have V5 : Hid (Box wv gV5 #[.bool false, .slice none 0 0] 25) := hid hbox
 clear hx0 hbox hge
 simp only [Act.put, pA, pB, pC]
 refine WE.store2 (g := gV5) (x := .bool g12) (y := .slice A12 n12 c12) (t := 25) rfl rfl (by rfl) (fun w hb => ?_) V5.out (by rfl) fun ws hk hs => ?_
 ·obtain ⟨ce0, ce1⟩ := hb.c2; obtain ⟨f0, f1⟩ := hb.f2; go_simp
 intro hbx
 replace T11 := hid ((T11.out.up F11.out).kb V5.out (by rfl) hk hs)
 replace E := hid ((E.out.trans EY.out).keptG hk HGV5.out)
 replace BX0 := hid ((BX0.out.up EY.out).kept hk (by simpa using HNV5BX0.out.symm))
 replace BX1 := hid ((BX1.out.up EY.out).kept hk (by simpa using HNV5BX1.out.symm))
 replace V4 := hid ((V4.out.up EY.out).kept hk (by simpa using HNV5V4.out.symm))
 replace V5 := hid hbx
 replace Q11 := hid ((Q11.out.up EY.out).kz hs)
 replace Q12 := hid (Q12.out.kz hs)
 clear hk hs hbx
 replace EY := hid (Ext.refl ws)
 replace F11 := hid (Ext.refl ws)
 refine WE.done ?_
 go_upto_region 7 with (fail)
 refine wp_region_L [(0, 0), (1, 0), (3, 0), (2, 2), (4, 2), (5, 0), (6, 0), (7, 5), (8, 3), (9, 3), (10, 4), (11, 4)] 25 #[.bool false, .slice none 0 0] fun wd hb => ?_
 replace EY := hid (EY.out.trans hb)
 replace F11 := hid (F11.out.trans hb)
 clear hb
 have HL1BX0 := hid (BX0.out.up EY.out).lt
 have HL1BX1 := hid (BX1.out.up EY.out).lt
 have HL1V4 := hid (V4.out.up EY.out).lt
 have HL1V5 := hid (V5.out.up EY.out).lt
 have HW1 := hid (show w.heap.size ≤ wd.heap.size from (E.out.trans EY.out).size)
 refine WE.pp 27 (.pointer (some ⟨gV4, 1, none⟩)) ?_
 refine WE.qq 28 (.agg #[.bool g11, .slice B11 m11 d11]) rfl (fun w' hk => by obtain ⟨ce0, ce1, ce2⟩ := ((V4.out.up EY.out).up hk).c3; go_simp) ?_
 refine WE.qq 30 (.agg #[.bool g12, .slice A12 n12 c12]) rfl (fun w' hk => by obtain ⟨ce0, ce1⟩ := ((V5.out.up EY.out).up hk).c2; go_simp) ?_
 simp only [Act.put, pA, pB, pC]
 refine WE.callR (d := some 29) rfl rfl (by rfl) (f := 73) (args := #[(.agg #[.bool g11, .slice B11 m11 d11])]) (fun w => by go_simp) (fun wx hx0 => ?_)
 replace EY := hid (EY.out.trans hx0)
 replace F11 := hid (F11.out.trans hx0)
 clear hx0
 refine (rNeg_w (Q11.out.up EY.out).worth).mono ?_
 rintro e wn ⟨v1, rfl, x1, hb⟩
 obtain ⟨g13, A13, n13, c13, rfl⟩ := x1.shape
 refine ⟨_, rfl, hb, ?_⟩
 replace EY := hid (EY.out.trans hb)
 replace F11 := hid (F11.out.trans hb)
 have Q13 := hid x1
 clear hb x1
 simp only [Act.put, pA, pB, pC]
 refine WE.callR (d := some 31) rfl rfl (by rfl) (f := 80) (args := #[(.agg #[.bool g13, .slice A13 n13 c13]), (.agg #[.bool g12, .slice A12 n12 c12])]) (fun w => by go_simp) (fun wx hx0 => ?_)
 replace EY := hid (EY.out.trans hx0)
 replace Q13 := hid (Q13.out.up hx0)
 replace F11 := hid (F11.out.trans hx0)
 clear hx0
 refine (rFloor_w Q13.out.worth (Q12.out.up EY.out).worth (by have := HW.out; omega) (by have := HW.out; omega)).mono ?_
 rintro e wn ⟨u1, v1, rfl, x1, y1, hb⟩
 obtain ⟨g14, A14, n14, c14, rfl⟩ := x1.shape
 obtain ⟨g15, A15, n15, c15, rfl⟩ := y1.shape
 refine ⟨_, rfl, hb, ?_⟩
 replace EY := hid (EY.out.trans hb)
 replace F11 := hid (F11.out.trans hb)
 have Q14 := hid x1
 clear hb x1 y1
 refine WE.pp 26 (.tuple #[(.agg #[.bool g14, .slice A14 n14 c14]), (.agg #[.bool g15, .slice A15 n15 c15])]) ?_
 refine WE.pp 32 (.agg #[.bool g14, .slice A14 n14 c14]) ?_
 refine WE.any (d := some 33) rfl rfl (by rfl) (v := (.agg #[.bool g15, .slice A15 n15 c15])) (fun w' => by go_simp) ?_
 simp only [Act.put, pA, pB, pC]
 refine WE.var (d := some 6) rfl fun gV6 wv hx0 hbox hge hng => ?_
 have HNV6BX1 := hid (show gV6 ≠ (w.heap.size + 1) by have := HL1BX1.out; omega)
 have HNV6V4 := hid (show gV6 ≠ gV4 by have := HL1V4.out; omega)
 have HNV6V5 := hid (show gV6 ≠ gV5 by have := HL1V5.out; omega)
 have HGV6 := hid (show w.heap.size ≤ gV6 by have := HW1.out; omega)
 replace EY := hid (EY.out.trans hx0)
 replace Q14 := hid (Q14.out.up hx0)
 replace F11 := hid (F11.out.trans hx0)
 have V6 : Hid (Box wv gV6 #[.bool false, .slice none 0 0] 25) := hid hbox
 clear hx0 hbox hge hng
 simp only [Act.put, pA, pB, pC]
 refine WE.var (d := some 7) rfl fun gV7 wv hx0 hbox hge hng => ?_
 have HNV7BX1 := hid (show gV7 ≠ (w.heap.size + 1) by have := HL1BX1.out; omega)
 have HNV7V4 := hid (show gV7 ≠ gV4 by have := HL1V4.out; omega)
 have HNV7V5 := hid (show gV7 ≠ gV5 by have := HL1V5.out; omega)
 have HNV7V6 := hid (show gV7 ≠ gV6 by intro e; exact hng (by simp [e]))
 have HGV7 := hid (show w.heap.size ≤ gV7 by have := HW1.out; omega)
 replace EY := hid (EY.out.trans hx0)
 replace V6 := hid (V6.out.up hx0)
 replace Q14 := hid (Q14.out.up hx0)
 replace F11 := hid (F11.out.trans hx0)
 have V7 : Hid (Box wv gV7 #[.bool false, .slice none 0 0] 25) := hid hbox
 clear hx0 hbox hge hng
 simp only [Act.put, pA, pB, pC]
 refine WE.store2 (g := gV6) (x := .bool g14) (y := .slice A14 n14 c14) (t := 25) rfl rfl (by rfl) (fun w hb => ?_) V6.out (by rfl) fun ws hk hs => ?_
 ·obtain ⟨ce0, ce1⟩ := hb.c2; obtain ⟨f0, f1⟩ := hb.f2; go_simp
 intro hbx
 replace T11 := hid ((T11.out.up F11.out).kb V6.out (by rfl) hk hs)
 replace E := hid ((E.out.trans EY.out).keptG hk HGV6.out)
 replace BX1 := hid ((BX1.out.up EY.out).kept hk (by simpa using HNV6BX1.out.symm))
 replace V4 := hid ((V4.out.up EY.out).kept hk (by simpa using HNV6V4.out.symm))
 replace V5 := hid ((V5.out.up EY.out).kept hk (by simpa using HNV6V5.out.symm))
 replace V6 := hid hbx
 replace V7 := hid (V7.out.kept hk (by simpa using HNV7V6.out))
 replace Q12 := hid ((Q12.out.up EY.out).kz hs)
 replace Q14 := hid (Q14.out.kz hs)
 clear hk hs hbx
 replace EY := hid (Ext.refl ws)
 replace F11 := hid (Ext.refl ws)
 refine WE.store2 (g := gV7) (x := .bool g15) (y := .slice A15 n15 c15) (t := 25) rfl rfl (by rfl) (fun w hb => ?_) (V7.out.up EY.out) (by rfl) fun ws hk hs => ?_
 ·obtain ⟨ce0, ce1⟩ := hb.c2; obtain ⟨f0, f1⟩ := hb.f2; go_simp
 intro hbx
 replace T11 := hid ((T11.out.up F11.out).kb (V7.out.up EY.out) (by rfl) hk hs)
 replace E := hid ((E.out.trans EY.out).keptG hk HGV7.out)
 replace BX1 := hid ((BX1.out.up EY.out).kept hk (by simpa using HNV7BX1.out.symm))
 replace V4 := hid ((V4.out.up EY.out).kept hk (by simpa using HNV7V4.out.symm))
 replace V5 := hid ((V5.out.up EY.out).kept hk (by simpa using HNV7V5.out.symm))
 replace V6 := hid ((V6.out.up EY.out).kept hk (by simpa using HNV7V6.out.symm))
 replace Q12 := hid ((Q12.out.up EY.out).kz hs)
 replace Q14 := hid ((Q14.out.up EY.out).kz hs)
 clear hk hs hbx
 replace EY := hid (Ext.refl ws)
 replace F11 := hid (Ext.refl ws)
 refine WE.done ?_
 go_upto_region 8 with (fail)
 refine wp_region_S [(0, 0), (1, 1), (2, 0), (3, 1), (4, 4)] fun wd hb => ?_
 replace EY := hid (EY.out.trans hb)
 replace F11 := hid (F11.out.trans hb)
 clear hb
 refine WE.qq 34 (.agg #[.bool g14, .slice A14 n14 c14]) rfl (fun w' hk => by obtain ⟨ce0, ce1⟩ := ((V6.out.up EY.out).up hk).c2; go_simp) ?_
 refine WE.cc 35 ((rNeg_w (Q14.out.up EY.out).worth).mono ?_)
 rintro e wn ⟨v1, rfl, x1, hb⟩
 obtain ⟨g16, A16, n16, c16, rfl⟩ := x1.shape
 refine ⟨_, rfl, hb, ?_⟩
 replace EY := hid (EY.out.trans hb)
 replace F11 := hid (F11.out.trans hb)
 have Q16 := hid x1
 clear hb x1
 refine WE.pp 36 (.agg #[.slice none 0 0, .bool g16, .slice A16 n16 c16]) ?_
 simp only [Act.put, pA, pB, pC]
 refine WE.new (d := some 8) (cs := #[.slice none 0 0, .bool false, .slice none 0 0]) (t := 27) (v := fun g => (.pointer (some ⟨g, 0, none⟩))) rfl rfl (by rfl) (fun w => by go_simp) fun gV8 wv hx0 hbox hge => ?_
 have HNV8BX1 := hid (show gV8 ≠ (w.heap.size + 1) by have := (BX1.out.up EY.out).lt; omega)
 have HNV8V4 := hid (show gV8 ≠ gV4 by have := (V4.out.up EY.out).lt; omega)
 have HNV8V5 := hid (show gV8 ≠ gV5 by have := (V5.out.up EY.out).lt; omega)
 have HGV8 := hid (show w.heap.size ≤ gV8 by have := (E.out.trans EY.out).size; omega)
 replace EY := hid (EY.out.trans hx0)
 replace Q16 := hid (Q16.out.up hx0)
 replace F11 := hid (F11.out.trans hx0)
 have V8 : Hid (Box wv gV8 #[.slice none 0 0, .bool false, .slice none 0 0] 27) := hid hbox
 clear hx0 hbox hge
 simp only [Act.put, pA, pB, pC]
 refine WE.store3 (g := gV8) (x := .slice none 0 0) (y := .bool g16) (z := .slice A16 n16 c16) (t := 27) rfl rfl (by rfl) (fun w hb => ?_) V8.out (by rfl) fun ws hk hs => ?_
 ·obtain ⟨ce0, ce1, ce2⟩ := hb.c3; obtain ⟨f0, f1, f2⟩ := hb.f3; go_simp
 intro hbx
 replace T11 := hid ((T11.out.up F11.out).kb V8.out (by rfl) hk hs)
 replace E := hid ((E.out.trans EY.out).keptG hk HGV8.out)
 replace BX1 := hid ((BX1.out.up EY.out).kept hk (by simpa using HNV8BX1.out.symm))
 replace V4 := hid ((V4.out.up EY.out).kept hk (by simpa using HNV8V4.out.symm))
 replace V5 := hid ((V5.out.up EY.out).kept hk (by simpa using HNV8V5.out.symm))
 replace V8 := hid hbx
 replace Q12 := hid ((Q12.out.up EY.out).kz hs)
 replace Q16 := hid (Q16.out.kz hs)
 clear hk hs hbx
 replace EY := hid (Ext.refl ws)
 replace F11 := hid (Ext.refl ws)
 refine WE.done ?_
 go_upto_region 9 with (fail)
 refine wp_region_S [(0, 0)] fun wd hb => ?_
 replace EY := hid (EY.out.trans hb)
 replace F11 := hid (F11.out.trans hb)
 clear hb
 refine WE.pp 9 (.int .i64 (0)) ?_
 simp only [Act.put, pA, pB, pC]
 refine WE.done ?_
 replace T11 := hid (T11.out.up F11.out)
 replace F11 := hid (Ext.refl wd)
 have hlt4 := (V4.out.up EY.out).lt
 have hlt5 := (V5.out.up EY.out).lt
 have hlt8 := (V8.out.up EY.out).lt
 have hltx := (BX1.out.up EY.out).lt
 have hszw := (E.out.trans EY.out).size
 obtain ⟨base, hbase, HB4', HB5', HB8', HBX1', HBW', HBA'⟩ : ∃ base : Nat, base ≤ _ ∧ gV4 < base ∧ gV5 < base ∧ gV8 < base ∧ (w.heap.size + 1) < base ∧ w.heap.size ≤ base ∧ wd.heap.size ≤ base := ⟨_, Nat.le_refl _, hlt4, hlt5, hlt8, hltx, hszw, Nat.le_refl _⟩
 have HBV4 := hid HB4'
 have HBV5 := hid HB5'
 have HBV8 := hid HB8'
 have HBBX1 := hid HBX1'
 have HBW := hid HBW'
 have BE11 := hid (T11.out.bel HBA')
 clear HB4' HB5' HB8' HBX1' HBW' HBA' hlt4 hlt5 hlt8 hltx hszw
 go_wp2
 go_loopw [9] (fun x9 wr => ∃ (k : Nat) (Ao : Option Addr) (no : Nat) (co : Nat), x9 = .int .i64 (k : Int) ∧ k ≤ n11 ∧ Ext w wr ∧ LTm wr (.slice A11 n11 c11) t W ∧ base ≤ wr.heap.size ∧ Box wr gV4 #[.slice A11 n11 c11, .bool g11, .slice B11 m11 d11] 27 ∧ Box wr gV5 #[.bool g12, .slice A12 n12 c12] 25 ∧ Box wr gV8 #[.slice Ao no co, .bool g16, .slice A16 n16 c16] 27 ∧ Box wr (w.heap.size + 1) #[.slice none 0 0, .bool false, .slice none 0 0] 27 ∧ IsZ wr (.agg #[.bool g12, .slice A12 n12 c12]) g W ∧ IsZ wr (.agg #[.bool g16, .slice A16 n16 c16]) (-((-κ).fdiv g)) (W + 2) ∧ LOwn base wr (.slice Ao no co) ((M.dmap (t.take k) g).map M.rawm)) (fun x9 _ => n11 - (intOf x9).toNat)
 case atStart => exact ⟨0, none, 0, 0, rfl, Nat.zero_le _, (E.out.trans EY.out), T11.out, hbase, (V4.out.up EY.out), (V5.out.up EY.out), (V8.out.up EY.out), (BX1.out.up EY.out), (Q12.out.up EY.out), (Q16.out.up EY.out).wide (by omega), .inl ⟨rfl, rfl⟩⟩
 case round =>
  clear E EY F11 T11 V4 V5 V6 V7 V8 BX0 BX1 R1 Q11 Q12 Q13 Q14 Q16 hbase
  obtain ⟨k, Ao, no, co, rfl, hr0, hr1, hr2, hr3, hr4, hr5, hr6, hr7, hr8, hr9, hr10⟩ := hrel
  have E := hid hr1
  have T11 := hid hr2
  have HBH := hid hr3
  have V4 := hid hr4
  have V5 := hid hr5
  have V8 := hid hr6
  have BX1 := hid hr7
  have Q12 := hid hr8
  have Q16 := hid hr9
  have OWN := hid hr10
  clear hr1 hr2 hr3 hr4 hr5 hr6 hr7 hr8 hr9 hr10
  have EY := hid (Ext.refl wr)
  have hk := hr0
  clear hr0
  have F11 := hid (Ext.refl wr)
  have FE := hid (Ext.refl wr)
  by_cases hlt : k < n11
  ·have hlt' : decide ((k : Int) < (n11 : Int)) = true := decide_eq_true (by omega)
   obtain ⟨x, hx⟩ : ∃ x, t[k]? = some x := ⟨_, List.getElem?_eq_getElem (by rw [← HC.out.1]; omega)⟩
   obtain ⟨ad, ge, Ae, ne, ce, rfl, ka, kb, kc, kz⟩ := T11.out.get hx
   obtain ⟨xv, xc⟩ := x
   have HX := hid hx
   have KA := hid ka
   have KB := hid kb
   have KC := hid kc
   have QE := hid kz
   clear hx ka kb kc kz
   go_upto_region 10 with (fail)
   refine wp_region_S [(0, 0), (1, 0), (2, 0), (3, 0), (4, 0)] fun wd hb => ?_
   replace EY := hid (EY.out.trans hb)
   replace F11 := hid (F11.out.trans hb)
   replace FE := hid (FE.out.trans hb)
   clear hb
   refine WE.pp 37 (.int .i64 (k : Int)) ?_
   refine WE.pp 38 (.pointer (some ⟨gV4, 0, none⟩)) ?_
   refine WE.qq 39 (.slice (some ad) n11 c11) rfl (fun w' hk => by have ce0 := ((V4.out.up EY.out).up hk).k 0; go_simp) ?_
   refine WE.pp 40 (.int .i64 (n11 : Int)) ?_
   refine WE.pp 41 (.bool true) ?_
   simp only [Act.put, pA, pB, pC]
   refine WE.done ?_
   go_upto_region 12 with (fail)
   refine wp_region_L [(0, 0), (1, 0), (2, 0), (3, 0), (4, 0), (5, 0), (6, 0), (7, 2), (8, 0), (9, 0), (10, 5), (11, 3), (12, 3), (13, 4), (14, 4)] 25 #[.bool false, .slice none 0 0] fun wd hb => ?_
   replace EY := hid (EY.out.trans hb)
   replace F11 := hid (F11.out.trans hb)
   replace FE := hid (FE.out.trans hb)
   clear hb
   have HL2BX1 := hid (BX1.out.up EY.out).lt
   have HL2V4 := hid (V4.out.up EY.out).lt
   have HL2V5 := hid (V5.out.up EY.out).lt
   have HL2V8 := hid (V8.out.up EY.out).lt
   have HW2 := hid (show w.heap.size ≤ wd.heap.size from (E.out.trans EY.out).size)
   have HDOWN := hid (OWN.out.up EY.out)
   have HDWFE := hid (show wr.heap.size ≤ wd.heap.size from FE.out.size)
   refine WE.pp 45 (.pointer (some ⟨gV4, 0, none⟩)) ?_
   refine WE.qq 46 (.slice (some ad) n11 c11) rfl (fun w' hk => by have ce0 := ((V4.out.up EY.out).up hk).k 0; go_simp) ?_
   refine WE.pp 47 (.int .i64 (k : Int)) ?_
   refine WE.pp 48 (.pointer (some (ad.add (k * 3)))) ?_
   refine WE.pp 49 (.pointer (some ⟨(ad.add (k * 3)).block, (ad.add (k * 3)).off + 1, none⟩)) ?_
   refine WE.qq 50 (.agg #[.bool ge, .slice Ae ne ce]) rfl (fun w' hk => by have ce1 : w'.cell? ⟨(ad.add (k * 3)).block, (ad.add (k * 3)).off + 1, none⟩ = some (.bool ge) := (KB.out.up FE.out).up hk; have ce2 : w'.cell? ⟨(ad.add (k * 3)).block, (ad.add (k * 3)).off + 2, none⟩ = some (.slice Ae ne ce) := (KC.out.up FE.out).up hk; go_simp) ?_
   simp only [Act.put, pA, pB, pC]
   refine WE.qq 51 (.agg #[.bool g12, .slice A12 n12 c12]) rfl (fun w' hk => by obtain ⟨ce0, ce1⟩ := ((V5.out.up EY.out).up hk).c2; go_simp) ?_
   simp only [Act.put, pA, pB, pC]
   refine WE.callR (d := some 52) rfl rfl (by rfl) (f := 80) (args := #[(.agg #[.bool ge, .slice Ae ne ce]), (.agg #[.bool g12, .slice A12 n12 c12])]) (fun w => by go_simp) (fun wx hx0 => ?_)
   replace EY := hid (EY.out.trans hx0)
   replace F11 := hid (F11.out.trans hx0)
   replace FE := hid (FE.out.trans hx0)
   clear hx0
   refine (rFloor_w (QE.out.up EY.out).worth (Q12.out.up EY.out).worth (by have := HW.out; omega) (by have := HW.out; omega)).mono ?_
   rintro e wn ⟨u1, v1, rfl, x1, y1, hb⟩
   obtain ⟨g17, A17, n17, c17, rfl⟩ := x1.shape
   obtain ⟨g18, A18, n18, c18, rfl⟩ := y1.shape
   refine ⟨_, rfl, hb, ?_⟩
   replace EY := hid (EY.out.trans hb)
   replace F11 := hid (F11.out.trans hb)
   replace FE := hid (FE.out.trans hb)
   have Q17 := hid x1
   clear hb x1 y1
   refine WE.pp 44 (.tuple #[(.agg #[.bool g17, .slice A17 n17 c17]), (.agg #[.bool g18, .slice A18 n18 c18])]) ?_
   refine WE.pp 53 (.agg #[.bool g17, .slice A17 n17 c17]) ?_
   refine WE.any (d := some 54) rfl rfl (by rfl) (v := (.agg #[.bool g18, .slice A18 n18 c18])) (fun w' => by go_simp) ?_
   simp only [Act.put, pA, pB, pC]
   refine WE.var (d := some 10) rfl fun gV10 wv hx0 hbox hge hng => ?_
   have HNV10BX1 := hid (show gV10 ≠ (w.heap.size + 1) by have := HL2BX1.out; omega)
   have HNV10V4 := hid (show gV10 ≠ gV4 by have := HL2V4.out; omega)
   have HNV10V5 := hid (show gV10 ≠ gV5 by have := HL2V5.out; omega)
   have HNV10V8 := hid (show gV10 ≠ gV8 by have := HL2V8.out; omega)
   have HGV10 := hid (show w.heap.size ≤ gV10 by have := HW2.out; omega)
   have HAFEV10 := hid (Nat.le_trans HDWFE.out hge)
   have HOOWNV10 := hid (HDOWN.out.ne hge)
   replace EY := hid (EY.out.trans hx0)
   replace Q17 := hid (Q17.out.up hx0)
   replace F11 := hid (F11.out.trans hx0)
   replace FE := hid (FE.out.trans hx0)
   have V10 : Hid (Box wv gV10 #[.bool false, .slice none 0 0] 25) := hid hbox
   clear hx0 hbox hge hng
   simp only [Act.put, pA, pB, pC]
   refine WE.var (d := some 11) rfl fun gV11 wv hx0 hbox hge hng => ?_
   have HNV11BX1 := hid (show gV11 ≠ (w.heap.size + 1) by have := HL2BX1.out; omega)
   have HNV11V4 := hid (show gV11 ≠ gV4 by have := HL2V4.out; omega)
   have HNV11V5 := hid (show gV11 ≠ gV5 by have := HL2V5.out; omega)
   have HNV11V8 := hid (show gV11 ≠ gV8 by have := HL2V8.out; omega)
   have HNV11V10 := hid (show gV11 ≠ gV10 by intro e; exact hng (by simp [e]))
   have HGV11 := hid (show w.heap.size ≤ gV11 by have := HW2.out; omega)
   have HAFEV11 := hid (Nat.le_trans HDWFE.out hge)
   have HOOWNV11 := hid (HDOWN.out.ne hge)
   replace EY := hid (EY.out.trans hx0)
   replace V10 := hid (V10.out.up hx0)
   replace Q17 := hid (Q17.out.up hx0)
   replace F11 := hid (F11.out.trans hx0)
   replace FE := hid (FE.out.trans hx0)
   have V11 : Hid (Box wv gV11 #[.bool false, .slice none 0 0] 25) := hid hbox
   clear hx0 hbox hge hng
   simp only [Act.put, pA, pB, pC]
   refine WE.store2 (g := gV10) (x := .bool g17) (y := .slice A17 n17 c17) (t := 25) rfl rfl (by rfl) (fun w hb => ?_) V10.out (by rfl) fun ws hk hs => ?_
   ·obtain ⟨ce0, ce1⟩ := hb.c2; obtain ⟨f0, f1⟩ := hb.f2; go_simp
   intro hbx
   replace HBH := hid (Nat.le_trans HBH.out (Nat.le_trans EY.out.size hk.1.size))
   replace OWN := hid ((OWN.out.up EY.out).keptF hk hs HOOWNV10.out)
   replace T11 := hid ((T11.out.up F11.out).kb V10.out (by rfl) hk hs)
   replace FE := hid (FE.out.keptG hk HAFEV10.out)
   replace E := hid ((E.out.trans EY.out).keptG hk HGV10.out)
   replace BX1 := hid ((BX1.out.up EY.out).kept hk (by simpa using HNV10BX1.out.symm))
   replace V4 := hid ((V4.out.up EY.out).kept hk (by simpa using HNV10V4.out.symm))
   replace V5 := hid ((V5.out.up EY.out).kept hk (by simpa using HNV10V5.out.symm))
   replace V8 := hid ((V8.out.up EY.out).kept hk (by simpa using HNV10V8.out.symm))
   replace V10 := hid hbx
   replace V11 := hid (V11.out.kept hk (by simpa using HNV11V10.out))
   replace Q12 := hid ((Q12.out.up EY.out).kz hs)
   replace Q16 := hid ((Q16.out.up EY.out).kz hs)
   replace Q17 := hid (Q17.out.kz hs)
   clear hk hs hbx
   replace EY := hid (Ext.refl ws)
   replace F11 := hid (Ext.refl ws)
   refine WE.store2 (g := gV11) (x := .bool g18) (y := .slice A18 n18 c18) (t := 25) rfl rfl (by rfl) (fun w hb => ?_) (V11.out.up EY.out) (by rfl) fun ws hk hs => ?_
   ·obtain ⟨ce0, ce1⟩ := hb.c2; obtain ⟨f0, f1⟩ := hb.f2; go_simp
   intro hbx
   replace HBH := hid (Nat.le_trans HBH.out (Nat.le_trans EY.out.size hk.1.size))
   replace OWN := hid ((OWN.out.up EY.out).keptF hk hs HOOWNV11.out)
   replace T11 := hid ((T11.out.up F11.out).kb (V11.out.up EY.out) (by rfl) hk hs)
   replace FE := hid (FE.out.keptG hk HAFEV11.out)
   replace E := hid ((E.out.trans EY.out).keptG hk HGV11.out)
   replace BX1 := hid ((BX1.out.up EY.out).kept hk (by simpa using HNV11BX1.out.symm))
   replace V4 := hid ((V4.out.up EY.out).kept hk (by simpa using HNV11V4.out.symm))
   replace V5 := hid ((V5.out.up EY.out).kept hk (by simpa using HNV11V5.out.symm))
   replace V8 := hid ((V8.out.up EY.out).kept hk (by simpa using HNV11V8.out.symm))
   replace V10 := hid ((V10.out.up EY.out).kept hk (by simpa using HNV11V10.out.symm))
   replace V11 := hid hbx
   replace Q12 := hid ((Q12.out.up EY.out).kz hs)
   replace Q16 := hid ((Q16.out.up EY.out).kz hs)
   replace Q17 := hid ((Q17.out.up EY.out).kz hs)
   clear hk hs hbx
   replace EY := hid (Ext.refl ws)
   replace F11 := hid (Ext.refl ws)
   refine WE.done ?_
   go_upto_region 13 with (fail)
   refine wp_region_X [gV8, ownBlk base (.slice Ao no co)] [(0, 0), (1, 0), (2, 0), (3, 0), (4, 0), (5, 0), (6, 0), (7, 0), (8, 0), (9, 0), (10, 1), (11, 4), (12, 5), (13, 4)] (fun _ => (0, #[])) rfl (by kernel_rfl) (by intro j hj; cases hj) (fun _ _ d _ _ => by cases d <;> exact Iff.rfl) fun wd hb => ?_
   replace EY := hid (EY.out.trans hb)
   replace F11 := hid (F11.out.trans hb)
   replace FE := hid (FE.out.trans hb)
   clear hb
   have HL3BX1 := hid (BX1.out.up EY.out).lt
   have HL3V4 := hid (V4.out.up EY.out).lt
   have HL3V5 := hid (V5.out.up EY.out).lt
   have HL3V8 := hid (V8.out.up EY.out).lt
   have HL3V10 := hid (V10.out.up EY.out).lt
   have HL3V11 := hid (V11.out.up EY.out).lt
   refine WX.pp 55 (.pointer (some ⟨gV8, 0, none⟩)) ?_
   refine WX.qq 56 (.slice Ao no co) rfl (fun w' hk => by have ce0 := ((V8.out.up EY.out).up hk).k 0; go_simp) ?_
   refine WX.pp 57 (.pointer (some ⟨gV4, 0, none⟩)) ?_
   refine WX.qq 58 (.slice (some ad) n11 c11) rfl (fun w' hk => by have ce0 := ((V4.out.up EY.out).up hk).k 0; go_simp) ?_
   refine WX.pp 59 (.int .i64 (k : Int)) ?_
   refine WX.pp 60 (.pointer (some (ad.add (k * 3)))) ?_
   simp only [Act.put, pA, pB, pC]
   refine WX.pp 61 (.pointer (some (ad.add (k * 3)))) ?_
   refine WX.qq 62 (.int .i64 xv) rfl (fun w' hk => by have ce0 : w'.cell? (ad.add (k * 3)) = some (.int .i64 xv) := (KA.out.up FE.out).up hk; go_simp) ?_
   refine WX.qq 63 (.agg #[.bool g17, .slice A17 n17 c17]) rfl (fun w' hk => by obtain ⟨ce0, ce1⟩ := ((V10.out.up EY.out).up hk).c2; go_simp) ?_
   refine WX.pp 64 (.agg #[.int .i64 xv, .bool g17, .slice A17 n17 c17]) ?_
   simp only [Act.put, pA, pB, pC]
   refine WX.new (d := some 65) (cs := #[.int .i64 xv, .bool g17, .slice A17 n17 c17]) (t := 56) (v := fun g => (.slice (some ⟨g, 0, none⟩) 1 1)) rfl rfl (by rfl) (fun w => by go_simp) fun gL1 wv hx0 hbox hge => ?_
   replace EY := hid (EY.out.trans hx0)
   replace F11 := hid (F11.out.trans hx0)
   have L1 : Hid (Box wv gL1 #[.int .i64 xv, .bool g17, .slice A17 n17 c17] 56) := hid hbox
   clear hx0 hbox hge
   simp only [Act.put, pA, pB, pC]
   clear FE
   obtain ⟨v9, wk, hrun, ho9, hk9, hs9⟩ := appL_run (V := xv) (OWN.out.up EY.out) L1.out (Q17.out.up EY.out).fields.2.1 (by rw [List.length_map, M.dmap_len, List.length_take]; have := HN.out; omega) (Nat.le_trans HBH.out EY.out.size) 22
   obtain ⟨A9, n9, c9, rfl⟩ := ho9.shape
   have HBLK := hid (OWN.out.up EY.out).blk
   refine WX.actK (d := some 66) rfl rfl (by rfl) (exec_app (.tmp 56) (.tmp 65) rfl rfl rfl hrun) (hk9.keptB (.inl (by simp))) ?_
   have HQ9 := hid (Q17.out.up EY.out).fields
   replace E := hid (((E.out.trans EY.out)).own hk9 HBLK.out HBW.out)
   replace V4 := hid (Kept.box (X := []) ((V4.out.up EY.out)) hk9 HBLK.out HBV4.out)
   replace V5 := hid (Kept.box (X := []) ((V5.out.up EY.out)) hk9 HBLK.out HBV5.out)
   replace V8 := hid (Kept.box (X := []) ((V8.out.up EY.out)) hk9 HBLK.out HBV8.out)
   replace BX1 := hid (Kept.box (X := []) ((BX1.out.up EY.out)) hk9 HBLK.out HBBX1.out)
   replace Q12 := hid ((Q12.out.up EY.out).kz hs9)
   replace Q16 := hid ((Q16.out.up EY.out).kz hs9)
   replace T11 := hid ((T11.out.up F11.out).keptB BE11.out hk9 HBLK.out hs9)
   replace F11 := hid (Ext.refl wk)
   have HSZ := hid hk9.1.size
   replace HBH := hid (Nat.le_trans HBH.out (Nat.le_trans EY.out.size HSZ.out))
   replace OWN := hid ho9
   replace EY := hid (Ext.refl wk)
   clear hrun ho9 hk9 hs9 HBLK HSZ L1 V10 V11
   refine WX.any (d := some 67) rfl rfl (by rfl) (v := (.pointer (some ⟨gV8, 0, none⟩))) (fun w' hk => by go_simp) ?_
   simp only [Act.put, pA, pB, pC]
   refine WX.storeAt (g := gV8) (off := 0) (cs' := #[.slice A9 n9 c9, .bool g16, .slice A16 n16 c16]) (y := .slice A9 n9 c9) (t := 27) rfl rfl (by rfl) (fun w hb => ?_) (V8.out.up EY.out) (by rfl) rfl (.inl (by simp)) fun ws hk hs hbx => ?_
   ·have ce0 := hb.k 0; have f0 := hb.free 0; go_simp
   replace HBH := hid (Nat.le_trans HBH.out (Nat.le_trans EY.out.size hk.1.size))
   replace OWN := hid ((OWN.out.up EY.out).kept hk hs HBV8.out)
   replace T11 := hid ((T11.out.up F11.out).kb (V8.out.up EY.out) (by rfl) hk hs)
   replace E := hid ((E.out.trans EY.out).keptG hk HGV8.out)
   replace BX1 := hid ((BX1.out.up EY.out).kept hk (by simpa using HNV8BX1.out.symm))
   replace V4 := hid ((V4.out.up EY.out).kept hk (by simpa using HNV8V4.out.symm))
   replace V5 := hid ((V5.out.up EY.out).kept hk (by simpa using HNV8V5.out.symm))
   replace V8 := hid hbx
   replace Q12 := hid ((Q12.out.up EY.out).kz hs)
   replace Q16 := hid ((Q16.out.up EY.out).kz hs)
   clear hk hs hbx
   replace EY := hid (Ext.refl ws)
   replace F11 := hid (Ext.refl ws)
   clear Q17
   refine WX.done ?_
   have hwk : IntKind.i64.wrap ((k : Int) + 1) = (k : Int) + 1 := by rw [IntKind.wrap_i64]; omega
   go_upto_region 11 with (fail)
   refine wp_region_S [(0, 0), (1, 0), (2, 0)] fun wd hb => ?_
   replace EY := hid (EY.out.trans hb)
   replace F11 := hid (F11.out.trans hb)
   clear hb
   refine WE.pp 42 (.int .i64 (k : Int)) ?_
   refine WE.pp 43 (.int .i64 ((k : Int) + 1)) ?_
   refine WE.pp 9 (.int .i64 ((k : Int) + 1)) ?_
   simp only [Act.put, pA, pB, pC]
   refine WE.done ?_
   go_wp2
   go_roundw
   case rel => exact ⟨k + 1, A9, n9, c9, by go_num, by omega, (E.out.trans EY.out), T11.out.up F11.out, Nat.le_trans HBH.out EY.out.size, (V4.out.up EY.out), (V5.out.up EY.out), (V8.out.up EY.out), (BX1.out.up EY.out), (Q12.out.up EY.out), (Q16.out.up EY.out), by rw [List.take_add_one, HX.out, Option.toList_some, M.dmap_snoc, List.map_append]; have := (OWN.out.up EY.out); rw [HQ9.out.1, M.down_exact HG.out] at this; exact this⟩
   case measure => simp [intOf]; all_goals omega
  ·obtain rfl : k = n11 := by omega
   have hlt' : decide ((k : Int) < (k : Int)) = false := by simp
   go_upto_region 10 with (fail)
   refine wp_region_S [(0, 0), (1, 0), (2, 0), (3, 0), (4, 0)] fun wd hb => ?_
   replace EY := hid (EY.out.trans hb)
   replace F11 := hid (F11.out.trans hb)
   clear hb
   refine WE.pp 37 (.int .i64 (k : Int)) ?_
   refine WE.pp 38 (.pointer (some ⟨gV4, 0, none⟩)) ?_
   refine WE.qq 39 (.slice A11 k c11) rfl (fun w' hk => by have ce0 := ((V4.out.up EY.out).up hk).k 0; go_simp) ?_
   refine WE.pp 40 (.int .i64 (k : Int)) ?_
   refine WE.pp 41 (.bool false) ?_
   simp only [Act.put, pA, pB, pC]
   refine WE.done ?_
   clear FE
   have T12 := hid (T11.out.up F11.out)
   clear F11
   go_upto_region 14 with (fail)
   refine wp_region_S [(0, 0), (1, 4), (2, 0)] fun wd hb => ?_
   replace EY := hid (EY.out.trans hb)
   clear hb
   refine WE.qq 68 (.agg #[.slice Ao no co, .bool g16, .slice A16 n16 c16]) rfl (fun w' hk => by obtain ⟨ce0, ce1, ce2⟩ := ((V8.out.up EY.out).up hk).c3; go_simp) ?_
   simp only [Act.put, pA, pB, pC]
   refine WE.store3 (g := (w.heap.size + 1)) (x := .slice Ao no co) (y := .bool g16) (z := .slice A16 n16 c16) (t := 27) rfl rfl (by rfl) (fun w hb => ?_) (BX1.out.up EY.out) (by rfl) fun ws hk hs => ?_
   ·obtain ⟨ce0, ce1, ce2⟩ := hb.c3; obtain ⟨f0, f1, f2⟩ := hb.f3; go_simp
   intro hbx
   replace OWN := hid ((OWN.out.up EY.out).kept hk hs HBBX1.out)
   replace E := hid ((E.out.trans EY.out).keptG hk (by simp))
   replace BX1 := hid hbx
   replace Q16 := hid ((Q16.out.up EY.out).kz hs)
   clear hk hs hbx
   replace EY := hid (Ext.refl ws)
   refine WE.pp 3 (.int .i64 (1)) ?_
   simp only [Act.put, pA, pB, pC]
   refine WE.done ?_
   have r0 := (BX1.out.up EY.out).cell (o := 0) (v := .slice Ao no co) rfl
   have r1 := (BX1.out.up EY.out).cell (o := 1) (v := .bool g16) rfl
   have r2 := (BX1.out.up EY.out).cell (o := 2) (v := .slice A16 n16 c16) rfl
   repeat go_step
   exact bodyPost_ret (v := .tuple #[.agg #[.slice Ao no co, .bool g16, .slice A16 n16 c16], .int .i64 1]) (by simp [results, Tryz.results44, go_sem, r0, r1, r2]) rfl ⟨_, by rw [M.nC_some HE.out], by unfold M.nT M.nK; rw [HGE.out]; exact by_post (by rw [HC.out.1]; exact List.take_length) (OWN.out.up EY.out) (fun x hx => Nat.le_trans (T12.out.2 x hx) (Nat.le_add_right _ 2)) (Q16.out.up EY.out) HO.out HG.out HD.out, (E.out.trans EY.out)⟩

theorem rNormL_l {w : World} {u : Value} {t : M.Tm} {κ : Int} {W : Nat} (h1 : WorthL w u t κ W) (hw : W ≤ 1000) (hn : t.length ≤ 1000) : Calls Tryz.prog 44 #[u] w (GivesNC w (M.nT t) (M.nK t κ) (M.nC t κ) (W + 2)) := by
 by_cases he : t = []
 ·by_cases hk : κ ≤ 0
  ·exact rNorm_always h1 hw hn he hk
  ·exact rNorm_never h1 hw hn he hk
 ·exact rNorm_open h1 hw hn he

end Go.Proofs.YtklmnmkmpkobhaaGreat
