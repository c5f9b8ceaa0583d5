/-
  Contracts of the reference's forms.
-/
import Derived.Test.YtklmnmkmpkobhaaGreatLWords
import Derived.Test.YtklmnmkmpkobhaaGreatRZB
import Derived.Test.YtklmnmkmpkobhaaGreatRZC
import Derived.Test.YtklmnmkmpkobhaaGreatGRef
namespace Go.Proofs.YtklmnmkmpkobhaaGreat
open Go.RowKit
set_option linter.unusedSimpArgs false
set_option linter.unusedVariables false

theorem WorthL.shape {w : World} {v : Value} {t : M.Tm} {κ : Int} {W : Nat} (h : WorthL w v t κ W) : ∃ A n c g B m d, v = .agg #[.slice A n c, .bool g, .slice B m d] := by
 obtain ⟨A, n, c, ls, g, B, m, d, l, h1, _⟩ := h
 exact ⟨A, n, c, g, B, m, d, h1⟩
theorem M.coef_at {t : M.Tm} {lo : Int} (h : M.okT lo t) {k : Nat} {x : Int × Int} (hk : t[k]? = some x) : M.coef t x.1 = x.2 := by
 induction t generalizing lo k with
 | nil => simp at hk
 | cons y r ih =>
  obtain ⟨u, c⟩ := y
  rcases k with _ | k
  ·simp at hk; subst hk; rw [M.coef_cons, if_pos rfl]
  ·simp at hk
   rw [M.coef_cons, if_neg ?_]
   ·exact ih h.2.2 hk
   ·have : ∀ (s : M.Tm) (lo : Int), M.okT lo s → ∀ y ∈ s, lo < y.1 := by
     intro s
     induction s with
     | nil => intro _ _ y hy; simp at hy
     | cons z s' ih' =>
      intro lo' hs y hy
      rcases List.mem_cons.1 hy with rfl | hy
      ·exact hs.1
      ·have := ih' _ hs.2.2 y hy; have := hs.1; omega
    have := this r u h.2.2 x (List.mem_of_getElem? hk)
    omega
theorem M.coef_none {t : M.Tm} {v : Int} (h : ∀ x ∈ t, x.1 ≠ v) : M.coef t v = 0 := by
 induction t with
 | nil => rfl
 | cons y r ih =>
  obtain ⟨u, c⟩ := y
  rw [M.coef_cons, if_neg (h (u, c) (by simp))]
  exact ih fun x hx => h x (by simp [hx])

theorem drop_get {α : Type} {l : List α} {k : Nat} {x : α} (h : l[k]? = some x) : l.drop k = x :: l.drop (k + 1) := by
 obtain ⟨hk, rfl⟩ := List.getElem?_eq_some_iff.1 h
 exact List.drop_eq_getElem_cons hk
theorem M.isT_cons (lo v : Int) (g : Bool) (l : List Nat) (r : List (Int × Bool × List Nat)) : M.isT lo ((v, g, l) :: r) = (decide (lo < v) && (M.isZ g l && (!decide (M.zv g l = 0) && M.isT v r))) := rfl

set_option maxHeartbeats 4000000 in
theorem rIsL_any {w : World} {g1 : Bool} {A1 B1 : Option Addr} {n1 c1 m1 d1 : Nat} {ls : List (Int × Bool × List Nat)} {l1 : List Nat} (h1 : LList w (.slice A1 n1 c1) ls) (h2 : Num w w.heap.size (.slice B1 m1 d1) l1) {b : Bool} (hb : M.isL ls g1 l1 = b) :
 Calls Tryz.prog 15 #[.agg #[.slice A1 n1 c1, .bool g1, .slice B1 m1 d1]] w (GivesB w b) := by
 have HL := hid h1
 have N1 := hid h2
 have HC := hid h1.count
 have HB := hid hb
 have hb9 : n1 ≤ 9223372036854775807 := h1.count.2.2
 clear h1 h2 hb
 go_enter Tryz.func15, Tryz.ntmps15
 go_upto_region 1 with (fail)
 obtain ⟨E, BX0⟩ := open1 w #[.slice A1 n1 c1, .bool g1, .slice B1 m1 d1] 27
 replace N1 := hid (N1.out.up E.out)
 go_wp2
 go_loopw [3] (fun i wr => ∃ (k : Nat) (lo : Int), k ≤ n1 ∧ i = .int .i64 (k : Int) ∧ (k = 0 → lo = -1) ∧ (0 < k → 0 ≤ lo ∧ ∃ x, ls[k - 1]? = some x ∧ x.1 = lo) ∧ M.isT (-1) ls = M.isT lo (ls.drop k) ∧ Ext w wr ∧ Box wr w.heap.size #[.slice A1 n1 c1, .bool g1, .slice B1 m1 d1] 27 ∧ Num wr wr.heap.size (.slice B1 m1 d1) l1) (fun i _ => n1 - (intOf i).toNat)
 case atStart => exact ⟨0, -1, Nat.zero_le _, rfl, fun _ => rfl, fun h => absurd h (Nat.lt_irrefl _), by rw [List.drop_zero], E.out, BX0.out, N1.out⟩
 case round =>
  clear E BX0 N1
  obtain ⟨k, lo, hk, rfl, hlo0, hlo1, hT, hext, hbx, hn1⟩ := hrel
  have E := hid hext
  have BX0 := hid hbx
  have N1 := hid hn1
  have HT := hid hT
  have HLO0 := hid hlo0
  have HLO1 := hid hlo1
  clear hext hbx hn1 hT hlo0 hlo1
  have EY := hid (Ext.refl wr)
  by_cases hlt : k < n1
  ·have hlt' : decide ((k : Int) < (n1 : Int)) = true := decide_eq_true (by omega)
   obtain ⟨x, hx⟩ : ∃ x, ls[k]? = some x := ⟨_, List.getElem?_eq_getElem (by rw [← HC.out.1]; exact hlt)⟩
   obtain ⟨ad, Ae, ne, ce, rfl, ka, kb, kc, kn⟩ := HL.out.get hx
   obtain ⟨xv, ge, le⟩ := x
   have KA := hid ka
   have KB := hid kb
   have KC := hid kc
   have NE := hid (kn.up E.out)
   have HS := hid (show M.isT (-1) ls = (decide (lo < xv) && (M.isZ ge le && (!decide (M.zv ge le = 0) && M.isT xv (ls.drop (k + 1))))) by rw [HT.out, drop_get hx, M.isT_cons])
   have HX := hid hx
   clear hx ka kb kc kn HT
   go_upto_region 2 with (fail)
   refine wp_region_S [(0, 0), (1, 0), (2, 0), (3, 0), (4, 0)] fun wd hb => ?_
   replace EY := hid (EY.out.trans hb)
   replace NE := hid (NE.out.up hb)
   clear hb
   refine WE.pp 5 (.int .i64 (k : Int)) ?_
   refine WE.pp 6 (.pointer (some ⟨(w.heap.size), 0, none⟩)) ?_
   refine WE.qq 7 (.slice (some ad) n1 c1) rfl (fun w' hk => by have ce0 := ((BX0.out.up EY.out).up hk).k 0; go_simp) ?_
   refine WE.pp 8 (.int .i64 (n1 : Int)) ?_
   refine WE.pp 9 (.bool true) ?_
   simp only [Act.put, pA, pB, pC]
   refine WE.done ?_
   go_upto_region 4 with (fail)
   refine wp_region_S [(0, 0), (1, 0), (2, 0), (3, 0), (4, 0), (5, 1), (6, 4)] fun wd hb => ?_
   replace EY := hid (EY.out.trans hb)
   replace NE := hid (NE.out.up hb)
   clear hb
   refine WE.pp 12 (.pointer (some ⟨(w.heap.size), 0, none⟩)) ?_
   refine WE.qq 13 (.slice (some ad) n1 c1) rfl (fun w' hk => by have ce0 := ((BX0.out.up EY.out).up hk).k 0; go_simp) ?_
   refine WE.pp 14 (.int .i64 (k : Int)) ?_
   refine WE.pp 15 (.pointer (some (ad.add (k * 3)))) ?_
   refine WE.qq 16 (.agg #[.int .i64 xv, .bool ge, .slice Ae ne ce]) rfl (fun w' hk => by have ce0 : w'.cell? (ad.add (k * 3)) = some (.int .i64 xv) := (KA.out.up (E.out.trans EY.out)).up hk; have ce1 : w'.cell? ⟨(ad.add (k * 3)).block, (ad.add (k * 3)).off + 1, none⟩ = some (.bool ge) := (KB.out.up (E.out.trans EY.out)).up hk; have ce2 : w'.cell? ⟨(ad.add (k * 3)).block, (ad.add (k * 3)).off + 2, none⟩ = some (.slice Ae ne ce) := (KC.out.up (E.out.trans EY.out)).up hk; go_simp) ?_
   simp only [Act.put, pA, pB, pC]
   refine WE.new (d := some 4) (cs := #[.int .i64 0, .bool false, .slice none 0 0]) (t := 56) (v := fun g => (.pointer (some ⟨g, 0, none⟩))) rfl rfl (by rfl) (fun w => by go_simp) fun gV4 wv hx0 hbox hge => ?_
   have HNV4BX0 := hid (show gV4 ≠ (w.heap.size) by have := (BX0.out.up EY.out).lt; omega)
   have HGV4 := hid (show w.heap.size ≤ gV4 by have := (E.out.trans EY.out).size; omega)
   replace EY := hid (EY.out.trans hx0)
   replace NE := hid (NE.out.up hx0)
   have V4 : Hid (Box wv gV4 #[.int .i64 0, .bool false, .slice none 0 0] 56) := hid hbox
   clear hx0 hbox hge
   simp only [Act.put, pA, pB, pC]
   refine WE.store3 (g := gV4) (x := .int .i64 xv) (y := .bool ge) (z := .slice Ae ne ce) (t := 56) rfl rfl (by rfl) (fun w hb => ?_) V4.out (by rfl) fun ws hk hs => ?_
   ·obtain ⟨ce0, ce1, ce2⟩ := hb.c3; obtain ⟨f0, f1, f2⟩ := hb.f3; go_simp
   intro hbx
   replace E := hid ((E.out.trans EY.out).keptG hk HGV4.out)
   replace BX0 := hid ((BX0.out.up EY.out).kept hk (by simpa using HNV4BX0.out.symm))
   replace V4 := hid hbx
   replace N1 := hid ((N1.out.up EY.out).kz hs)
   replace NE := hid (NE.out.kz hs)
   clear hk hs hbx
   replace EY := hid (Ext.refl ws)
   refine WE.done ?_
   rcases Nat.eq_zero_or_pos k with hk0 | hk0
   ·have hlo := HLO0.out hk0
    have hkd : decide (0 < (k : Int)) = false := decide_eq_false (by omega)
    have hkn : decide (0 < k) = false := decide_eq_false (by omega)
    by_cases hv : xv < 0
    ·have hvd : decide (xv < 0) = true := decide_eq_true hv
     go_upto_region 5 with (fail)
     refine wp_region_D [(0, 0), (1, 0), (2, 0), (3, 0), (4, 0), (5, 0), (6, 0), (7, 0), (8, 0), (9, 0), (10, 0), (11, 0), (12, 0), (13, 0), (14, 0), (15, 0), (16, 0), (17, 0), (18, 0), (19, 0), (20, 0), (21, 0), (22, 1), (23, 0), (24, 0), (25, 0), (26, 0), (27, 0), (28, 1), (29, 0), (30, 0)] fun wd hb => ?_
     replace EY := hid (EY.out.trans hb)
     clear hb
     refine WE.pp 17 (.pointer (some ⟨gV4, 0, none⟩)) ?_
     refine WE.qq 18 (.int .i64 xv) rfl (fun w' hk => by have ce0 := ((V4.out.up EY.out).up hk).k 0; go_simp) ?_
     refine WE.pp 19 (.bool true) ?_
     refine WE.pp 20 (.bool true) ?_
     refine WE.ss 21 ?_
     refine WE.ss 22 ?_
     simp only [Act.put, pA, pB, pC]
     refine WE.ss 23 ?_
     refine WE.ss 24 ?_
     refine WE.ss 25 ?_
     refine WE.ss 26 ?_
     refine WE.ss 27 ?_
     refine WE.ss 28 ?_
     simp only [Act.put, pA, pB, pC]
     refine WE.ss 29 ?_
     refine WE.ss 30 ?_
     refine WE.ss 31 ?_
     refine WE.ss 32 ?_
     refine WE.ss 33 ?_
     refine WE.ss 34 ?_
     simp only [Act.put, pA, pB, pC]
     refine WE.pp 35 (.bool true) ?_
     refine WE.pp 36 (.bool true) ?_
     refine WE.ss 37 ?_
     refine WE.ss 38 ?_
     refine WE.tt 39 ?_
     refine WE.ss 40 ?_
     simp only [Act.put, pA, pB, pC]
     refine WE.pp 41 (.bool true) ?_
     refine WE.pp 42 (.bool true) ?_
     refine WE.ss 43 ?_
     refine WE.ss 44 ?_
     refine WE.tt 45 ?_
     refine WE.ss 46 ?_
     simp only [Act.put, pA, pB, pC]
     refine WE.pp 47 (.bool true) ?_
     simp only [Act.put, pA, pB, pC]
     refine WE.done ?_
     go_upto_region 6 with (fail)
     refine wp_region_S [(0, 0)] fun wd hb => ?_
     replace EY := hid (EY.out.trans hb)
     clear hb
     refine WE.pp 2 (.bool false) ?_
     simp only [Act.put, pA, pB, pC]
     refine WE.done ?_
     repeat go_step
     go_ret
     exact ⟨by rw [← HB.out]; unfold M.isL; rw [HS.out]; simp [show ¬ lo < xv by omega], (E.out.trans EY.out)⟩
    have hvd : decide (xv < 0) = false := decide_eq_false hv
    by_cases hz : M.isZ ge le = false
    ·go_upto_region 5 with (fail)
     refine wp_region_D [(0, 0), (1, 0), (2, 0), (3, 0), (4, 0), (5, 0), (6, 0), (7, 0), (8, 0), (9, 0), (10, 0), (11, 0), (12, 0), (13, 0), (14, 0), (15, 0), (16, 0), (17, 0), (18, 0), (19, 0), (20, 0), (21, 0), (22, 1), (23, 0), (24, 0), (25, 0), (26, 0), (27, 0), (28, 1), (29, 0), (30, 0)] fun wd hb => ?_
     replace EY := hid (EY.out.trans hb)
     clear hb
     refine WE.pp 17 (.pointer (some ⟨gV4, 0, none⟩)) ?_
     refine WE.qq 18 (.int .i64 xv) rfl (fun w' hk => by have ce0 := ((V4.out.up EY.out).up hk).k 0; go_simp) ?_
     refine WE.pp 19 (.bool false) ?_
     refine WE.pp 20 (.bool false) ?_
     refine WE.pp 21 (.int .i64 (k : Int)) ?_
     refine WE.pp 22 (.bool false) ?_
     simp only [Act.put, pA, pB, pC]
     refine WE.pp 23 (.bool false) ?_
     refine WE.ss 24 ?_
     refine WE.ss 25 ?_
     refine WE.ss 26 ?_
     refine WE.ss 27 ?_
     refine WE.ss 28 ?_
     simp only [Act.put, pA, pB, pC]
     refine WE.ss 29 ?_
     refine WE.ss 30 ?_
     refine WE.ss 31 ?_
     refine WE.ss 32 ?_
     refine WE.ss 33 ?_
     refine WE.pp 34 (.bool false) ?_
     simp only [Act.put, pA, pB, pC]
     refine WE.pp 35 (.bool false) ?_
     refine WE.pp 36 (.bool false) ?_
     refine WE.pp 37 (.pointer (some ⟨gV4, 1, none⟩)) ?_
     refine WE.qq 38 (.agg #[.bool ge, .slice Ae ne ce]) rfl (fun w' hk => by obtain ⟨ce0, ce1, ce2⟩ := ((V4.out.up EY.out).up hk).c3; go_simp) ?_
     refine WE.cc 39 ((rzIs_any (NE.out.up EY.out) hz).mono ?_)
     rintro e wn ⟨rfl, hb⟩
     refine ⟨_, rfl, hb, ?_⟩
     replace EY := hid (EY.out.trans hb)
     clear hb
     refine WE.pp 40 (.bool true) ?_
     simp only [Act.put, pA, pB, pC]
     refine WE.pp 41 (.bool true) ?_
     refine WE.pp 42 (.bool true) ?_
     refine WE.ss 43 ?_
     refine WE.ss 44 ?_
     refine WE.tt 45 ?_
     refine WE.ss 46 ?_
     simp only [Act.put, pA, pB, pC]
     refine WE.pp 47 (.bool true) ?_
     simp only [Act.put, pA, pB, pC]
     refine WE.done ?_
     go_upto_region 6 with (fail)
     refine wp_region_S [(0, 0)] fun wd hb => ?_
     replace EY := hid (EY.out.trans hb)
     clear hb
     refine WE.pp 2 (.bool false) ?_
     simp only [Act.put, pA, pB, pC]
     refine WE.done ?_
     repeat go_step
     go_ret
     exact ⟨by rw [← HB.out]; unfold M.isL; rw [HS.out]; simp [hz], (E.out.trans EY.out)⟩
    have hz1 : M.isZ ge le = true := by simpa using hz
    have HZ1 := hid hz1
    obtain ⟨sg, hsg⟩ : ∃ s : Int, (M.zv ge le).sign = s := ⟨_, rfl⟩
    have HSG := hid hsg
    by_cases h0 : M.zv ge le = 0
    ·have hs0 : (sg == 0) = true := by rw [← hsg, h0]; rfl
     clear hsg
     go_upto_region 5 with (fail)
     refine wp_region_D [(0, 0), (1, 0), (2, 0), (3, 0), (4, 0), (5, 0), (6, 0), (7, 0), (8, 0), (9, 0), (10, 0), (11, 0), (12, 0), (13, 0), (14, 0), (15, 0), (16, 0), (17, 0), (18, 0), (19, 0), (20, 0), (21, 0), (22, 1), (23, 0), (24, 0), (25, 0), (26, 0), (27, 0), (28, 1), (29, 0), (30, 0)] fun wd hb => ?_
     replace EY := hid (EY.out.trans hb)
     clear hb
     refine WE.pp 17 (.pointer (some ⟨gV4, 0, none⟩)) ?_
     refine WE.qq 18 (.int .i64 xv) rfl (fun w' hk => by have ce0 := ((V4.out.up EY.out).up hk).k 0; go_simp) ?_
     refine WE.pp 19 (.bool false) ?_
     refine WE.pp 20 (.bool false) ?_
     refine WE.pp 21 (.int .i64 (k : Int)) ?_
     refine WE.pp 22 (.bool false) ?_
     simp only [Act.put, pA, pB, pC]
     refine WE.pp 23 (.bool false) ?_
     refine WE.ss 24 ?_
     refine WE.ss 25 ?_
     refine WE.ss 26 ?_
     refine WE.ss 27 ?_
     refine WE.ss 28 ?_
     simp only [Act.put, pA, pB, pC]
     refine WE.ss 29 ?_
     refine WE.ss 30 ?_
     refine WE.ss 31 ?_
     refine WE.ss 32 ?_
     refine WE.ss 33 ?_
     refine WE.pp 34 (.bool false) ?_
     simp only [Act.put, pA, pB, pC]
     refine WE.pp 35 (.bool false) ?_
     refine WE.pp 36 (.bool false) ?_
     refine WE.pp 37 (.pointer (some ⟨gV4, 1, none⟩)) ?_
     refine WE.qq 38 (.agg #[.bool ge, .slice Ae ne ce]) rfl (fun w' hk => by obtain ⟨ce0, ce1, ce2⟩ := ((V4.out.up EY.out).up hk).c3; go_simp) ?_
     refine WE.cc 39 ((rzIs_any (NE.out.up EY.out) HZ1.out).mono ?_)
     rintro e wn ⟨rfl, hb⟩
     refine ⟨_, rfl, hb, ?_⟩
     replace EY := hid (EY.out.trans hb)
     clear hb
     refine WE.pp 40 (.bool false) ?_
     simp only [Act.put, pA, pB, pC]
     refine WE.pp 41 (.bool false) ?_
     refine WE.pp 42 (.bool false) ?_
     refine WE.pp 43 (.pointer (some ⟨gV4, 1, none⟩)) ?_
     refine WE.qq 44 (.agg #[.bool ge, .slice Ae ne ce]) rfl (fun w' hk => by obtain ⟨ce0, ce1, ce2⟩ := ((V4.out.up EY.out).up hk).c3; go_simp) ?_
     refine WE.cc 45 ((rSign_w (worth_of (NE.out.up EY.out) (Nat.le_refl _) rfl) (s := sg) HSG.out).mono ?_)
     rintro e wn ⟨rfl, hb⟩
     refine ⟨_, rfl, hb, ?_⟩
     replace EY := hid (EY.out.trans hb)
     clear hb
     refine WE.pp 46 (.bool true) ?_
     simp only [Act.put, pA, pB, pC]
     refine WE.pp 47 (.bool true) ?_
     simp only [Act.put, pA, pB, pC]
     refine WE.done ?_
     go_upto_region 6 with (fail)
     refine wp_region_S [(0, 0)] fun wd hb => ?_
     replace EY := hid (EY.out.trans hb)
     clear hb
     refine WE.pp 2 (.bool false) ?_
     simp only [Act.put, pA, pB, pC]
     refine WE.done ?_
     repeat go_step
     go_ret
     exact ⟨by rw [← HB.out]; unfold M.isL; rw [HS.out]; simp [h0], (E.out.trans EY.out)⟩
    have hs0 : (sg == 0) = false := by rw [← hsg, beq_eq_false_iff_ne]; exact fun e => h0 (Int.sign_eq_zero_iff_zero.1 e)
    clear hsg
    have HST := hid (show M.isT (-1) ls = M.isT xv (ls.drop (k + 1)) by rw [HS.out, decide_eq_true (show lo < xv by omega), hz1, decide_eq_false h0]; rfl)
    go_upto_region 5 with (fail)
    refine wp_region_D [(0, 0), (1, 0), (2, 0), (3, 0), (4, 0), (5, 0), (6, 0), (7, 0), (8, 0), (9, 0), (10, 0), (11, 0), (12, 0), (13, 0), (14, 0), (15, 0), (16, 0), (17, 0), (18, 0), (19, 0), (20, 0), (21, 0), (22, 1), (23, 0), (24, 0), (25, 0), (26, 0), (27, 0), (28, 1), (29, 0), (30, 0)] fun wd hb => ?_
    replace EY := hid (EY.out.trans hb)
    clear hb
    refine WE.pp 17 (.pointer (some ⟨gV4, 0, none⟩)) ?_
    refine WE.qq 18 (.int .i64 xv) rfl (fun w' hk => by have ce0 := ((V4.out.up EY.out).up hk).k 0; go_simp) ?_
    refine WE.pp 19 (.bool false) ?_
    refine WE.pp 20 (.bool false) ?_
    refine WE.pp 21 (.int .i64 (k : Int)) ?_
    refine WE.pp 22 (.bool false) ?_
    simp only [Act.put, pA, pB, pC]
    refine WE.pp 23 (.bool false) ?_
    refine WE.ss 24 ?_
    refine WE.ss 25 ?_
    refine WE.ss 26 ?_
    refine WE.ss 27 ?_
    refine WE.ss 28 ?_
    simp only [Act.put, pA, pB, pC]
    refine WE.ss 29 ?_
    refine WE.ss 30 ?_
    refine WE.ss 31 ?_
    refine WE.ss 32 ?_
    refine WE.ss 33 ?_
    refine WE.pp 34 (.bool false) ?_
    simp only [Act.put, pA, pB, pC]
    refine WE.pp 35 (.bool false) ?_
    refine WE.pp 36 (.bool false) ?_
    refine WE.pp 37 (.pointer (some ⟨gV4, 1, none⟩)) ?_
    refine WE.qq 38 (.agg #[.bool ge, .slice Ae ne ce]) rfl (fun w' hk => by obtain ⟨ce0, ce1, ce2⟩ := ((V4.out.up EY.out).up hk).c3; go_simp) ?_
    refine WE.cc 39 ((rzIs_any (NE.out.up EY.out) HZ1.out).mono ?_)
    rintro e wn ⟨rfl, hb⟩
    refine ⟨_, rfl, hb, ?_⟩
    replace EY := hid (EY.out.trans hb)
    clear hb
    refine WE.pp 40 (.bool false) ?_
    simp only [Act.put, pA, pB, pC]
    refine WE.pp 41 (.bool false) ?_
    refine WE.pp 42 (.bool false) ?_
    refine WE.pp 43 (.pointer (some ⟨gV4, 1, none⟩)) ?_
    refine WE.qq 44 (.agg #[.bool ge, .slice Ae ne ce]) rfl (fun w' hk => by obtain ⟨ce0, ce1, ce2⟩ := ((V4.out.up EY.out).up hk).c3; go_simp) ?_
    refine WE.cc 45 ((rSign_w (worth_of (NE.out.up EY.out) (Nat.le_refl _) rfl) (s := sg) HSG.out).mono ?_)
    rintro e wn ⟨rfl, hb⟩
    refine ⟨_, rfl, hb, ?_⟩
    replace EY := hid (EY.out.trans hb)
    clear hb
    refine WE.pp 46 (.bool false) ?_
    simp only [Act.put, pA, pB, pC]
    refine WE.pp 47 (.bool false) ?_
    simp only [Act.put, pA, pB, pC]
    refine WE.done ?_
    go_wp2
    go_roundw
    case rel => exact ⟨k + 1, xv, by omega, by go_num, fun h => absurd h (by omega), fun _ => ⟨by omega, _, HX.out, rfl⟩, HST.out, (E.out.trans EY.out), (BX0.out.up EY.out), (N1.out.up EY.out)⟩
    case measure => simp [intOf]; all_goals omega
   ·obtain ⟨hlo, y, hy, hyl⟩ := HLO1.out hk0
    obtain ⟨kp, hkp⟩ : ∃ kp : Nat, k - 1 = kp := ⟨_, rfl⟩
    rw [hkp] at hy
    obtain ⟨ad', Af, nf, cf, e', ja, jb, jc, jn⟩ := HL.out.get hy
    obtain rfl := Option.some.inj e'
    obtain ⟨yv, gf, lf⟩ := y
    obtain rfl : yv = lo := hyl
    have JA := hid ja
    clear ja jb jc jn hy e'
    have hkd : decide (0 < (k : Int)) = true := decide_eq_true (by omega)
    have hkn : decide (0 < k) = true := decide_eq_true (by omega)
    have hks : (k : Int) - 1 = (kp : Int) := by omega
    have hkw : IntKind.i64.wrap (kp : Int) = (kp : Int) := by rw [IntKind.wrap_i64]; omega
    have hpl : decide ((kp : Int) < (n1 : Int)) = true := decide_eq_true (by omega)
    have hpn : kp < n1 := by omega
    by_cases hv : xv < 0
    ·have hvd : decide (xv < 0) = true := decide_eq_true hv
     go_upto_region 5 with (fail)
     refine wp_region_D [(0, 0), (1, 0), (2, 0), (3, 0), (4, 0), (5, 0), (6, 0), (7, 0), (8, 0), (9, 0), (10, 0), (11, 0), (12, 0), (13, 0), (14, 0), (15, 0), (16, 0), (17, 0), (18, 0), (19, 0), (20, 0), (21, 0), (22, 1), (23, 0), (24, 0), (25, 0), (26, 0), (27, 0), (28, 1), (29, 0), (30, 0)] fun wd hb => ?_
     replace EY := hid (EY.out.trans hb)
     clear hb
     refine WE.pp 17 (.pointer (some ⟨gV4, 0, none⟩)) ?_
     refine WE.qq 18 (.int .i64 xv) rfl (fun w' hk => by have ce0 := ((V4.out.up EY.out).up hk).k 0; go_simp) ?_
     refine WE.pp 19 (.bool true) ?_
     refine WE.pp 20 (.bool true) ?_
     refine WE.ss 21 ?_
     refine WE.ss 22 ?_
     simp only [Act.put, pA, pB, pC]
     refine WE.ss 23 ?_
     refine WE.ss 24 ?_
     refine WE.ss 25 ?_
     refine WE.ss 26 ?_
     refine WE.ss 27 ?_
     refine WE.ss 28 ?_
     simp only [Act.put, pA, pB, pC]
     refine WE.ss 29 ?_
     refine WE.ss 30 ?_
     refine WE.ss 31 ?_
     refine WE.ss 32 ?_
     refine WE.ss 33 ?_
     refine WE.ss 34 ?_
     simp only [Act.put, pA, pB, pC]
     refine WE.pp 35 (.bool true) ?_
     refine WE.pp 36 (.bool true) ?_
     refine WE.ss 37 ?_
     refine WE.ss 38 ?_
     refine WE.tt 39 ?_
     refine WE.ss 40 ?_
     simp only [Act.put, pA, pB, pC]
     refine WE.pp 41 (.bool true) ?_
     refine WE.pp 42 (.bool true) ?_
     refine WE.ss 43 ?_
     refine WE.ss 44 ?_
     refine WE.tt 45 ?_
     refine WE.ss 46 ?_
     simp only [Act.put, pA, pB, pC]
     refine WE.pp 47 (.bool true) ?_
     simp only [Act.put, pA, pB, pC]
     refine WE.done ?_
     go_upto_region 6 with (fail)
     refine wp_region_S [(0, 0)] fun wd hb => ?_
     replace EY := hid (EY.out.trans hb)
     clear hb
     refine WE.pp 2 (.bool false) ?_
     simp only [Act.put, pA, pB, pC]
     refine WE.done ?_
     repeat go_step
     go_ret
     exact ⟨by rw [← HB.out]; unfold M.isL; rw [HS.out]; simp [show ¬ yv < xv by omega], (E.out.trans EY.out)⟩
    have hvd : decide (xv < 0) = false := decide_eq_false hv
    by_cases hl : xv ≤ yv
    ·have hld : decide (xv ≤ yv) = true := decide_eq_true hl
     go_upto_region 5 with (fail)
     refine wp_region_D [(0, 0), (1, 0), (2, 0), (3, 0), (4, 0), (5, 0), (6, 0), (7, 0), (8, 0), (9, 0), (10, 0), (11, 0), (12, 0), (13, 0), (14, 0), (15, 0), (16, 0), (17, 0), (18, 0), (19, 0), (20, 0), (21, 0), (22, 1), (23, 0), (24, 0), (25, 0), (26, 0), (27, 0), (28, 1), (29, 0), (30, 0)] fun wd hb => ?_
     replace EY := hid (EY.out.trans hb)
     clear hb
     refine WE.pp 17 (.pointer (some ⟨gV4, 0, none⟩)) ?_
     refine WE.qq 18 (.int .i64 xv) rfl (fun w' hk => by have ce0 := ((V4.out.up EY.out).up hk).k 0; go_simp) ?_
     refine WE.pp 19 (.bool false) ?_
     refine WE.pp 20 (.bool false) ?_
     refine WE.pp 21 (.int .i64 (k : Int)) ?_
     refine WE.pp 22 (.bool true) ?_
     simp only [Act.put, pA, pB, pC]
     refine WE.pp 23 (.bool true) ?_
     refine WE.pp 24 (.pointer (some ⟨gV4, 0, none⟩)) ?_
     refine WE.qq 25 (.int .i64 xv) rfl (fun w' hk => by have ce0 := ((V4.out.up EY.out).up hk).k 0; go_simp) ?_
     refine WE.pp 26 (.pointer (some ⟨(w.heap.size), 0, none⟩)) ?_
     refine WE.qq 27 (.slice (some ad) n1 c1) rfl (fun w' hk => by have ce0 := ((BX0.out.up EY.out).up hk).k 0; go_simp) ?_
     refine WE.pp 28 (.int .i64 (k : Int)) ?_
     simp only [Act.put, pA, pB, pC]
     refine WE.pp 29 (.int .i64 (kp : Int)) ?_
     refine WE.pp 30 (.pointer (some (ad.add (kp * 3)))) ?_
     refine WE.pp 31 (.pointer (some (ad.add (kp * 3)))) ?_
     refine WE.qq 32 (.int .i64 yv) rfl (fun w' hk => by have ce0 : w'.cell? (ad.add (kp * 3)) = some (.int .i64 yv) := (JA.out.up (E.out.trans EY.out)).up hk; go_simp) ?_
     refine WE.pp 33 (.bool true) ?_
     refine WE.pp 34 (.bool true) ?_
     simp only [Act.put, pA, pB, pC]
     refine WE.pp 35 (.bool true) ?_
     refine WE.pp 36 (.bool true) ?_
     refine WE.ss 37 ?_
     refine WE.ss 38 ?_
     refine WE.tt 39 ?_
     refine WE.ss 40 ?_
     simp only [Act.put, pA, pB, pC]
     refine WE.pp 41 (.bool true) ?_
     refine WE.pp 42 (.bool true) ?_
     refine WE.ss 43 ?_
     refine WE.ss 44 ?_
     refine WE.tt 45 ?_
     refine WE.ss 46 ?_
     simp only [Act.put, pA, pB, pC]
     refine WE.pp 47 (.bool true) ?_
     simp only [Act.put, pA, pB, pC]
     refine WE.done ?_
     go_upto_region 6 with (fail)
     refine wp_region_S [(0, 0)] fun wd hb => ?_
     replace EY := hid (EY.out.trans hb)
     clear hb
     refine WE.pp 2 (.bool false) ?_
     simp only [Act.put, pA, pB, pC]
     refine WE.done ?_
     repeat go_step
     go_ret
     exact ⟨by rw [← HB.out]; unfold M.isL; rw [HS.out]; simp [show ¬ yv < xv by omega], (E.out.trans EY.out)⟩
    have hld : decide (xv ≤ yv) = false := decide_eq_false hl
    by_cases hz : M.isZ ge le = false
    ·go_upto_region 5 with (fail)
     refine wp_region_D [(0, 0), (1, 0), (2, 0), (3, 0), (4, 0), (5, 0), (6, 0), (7, 0), (8, 0), (9, 0), (10, 0), (11, 0), (12, 0), (13, 0), (14, 0), (15, 0), (16, 0), (17, 0), (18, 0), (19, 0), (20, 0), (21, 0), (22, 1), (23, 0), (24, 0), (25, 0), (26, 0), (27, 0), (28, 1), (29, 0), (30, 0)] fun wd hb => ?_
     replace EY := hid (EY.out.trans hb)
     clear hb
     refine WE.pp 17 (.pointer (some ⟨gV4, 0, none⟩)) ?_
     refine WE.qq 18 (.int .i64 xv) rfl (fun w' hk => by have ce0 := ((V4.out.up EY.out).up hk).k 0; go_simp) ?_
     refine WE.pp 19 (.bool false) ?_
     refine WE.pp 20 (.bool false) ?_
     refine WE.pp 21 (.int .i64 (k : Int)) ?_
     refine WE.pp 22 (.bool true) ?_
     simp only [Act.put, pA, pB, pC]
     refine WE.pp 23 (.bool true) ?_
     refine WE.pp 24 (.pointer (some ⟨gV4, 0, none⟩)) ?_
     refine WE.qq 25 (.int .i64 xv) rfl (fun w' hk => by have ce0 := ((V4.out.up EY.out).up hk).k 0; go_simp) ?_
     refine WE.pp 26 (.pointer (some ⟨(w.heap.size), 0, none⟩)) ?_
     refine WE.qq 27 (.slice (some ad) n1 c1) rfl (fun w' hk => by have ce0 := ((BX0.out.up EY.out).up hk).k 0; go_simp) ?_
     refine WE.pp 28 (.int .i64 (k : Int)) ?_
     simp only [Act.put, pA, pB, pC]
     refine WE.pp 29 (.int .i64 (kp : Int)) ?_
     refine WE.pp 30 (.pointer (some (ad.add (kp * 3)))) ?_
     refine WE.pp 31 (.pointer (some (ad.add (kp * 3)))) ?_
     refine WE.qq 32 (.int .i64 yv) rfl (fun w' hk => by have ce0 : w'.cell? (ad.add (kp * 3)) = some (.int .i64 yv) := (JA.out.up (E.out.trans EY.out)).up hk; go_simp) ?_
     refine WE.pp 33 (.bool false) ?_
     refine WE.pp 34 (.bool false) ?_
     simp only [Act.put, pA, pB, pC]
     refine WE.pp 35 (.bool false) ?_
     refine WE.pp 36 (.bool false) ?_
     refine WE.pp 37 (.pointer (some ⟨gV4, 1, none⟩)) ?_
     refine WE.qq 38 (.agg #[.bool ge, .slice Ae ne ce]) rfl (fun w' hk => by obtain ⟨ce0, ce1, ce2⟩ := ((V4.out.up EY.out).up hk).c3; go_simp) ?_
     refine WE.cc 39 ((rzIs_any (NE.out.up EY.out) hz).mono ?_)
     rintro e wn ⟨rfl, hb⟩
     refine ⟨_, rfl, hb, ?_⟩
     replace EY := hid (EY.out.trans hb)
     clear hb
     refine WE.pp 40 (.bool true) ?_
     simp only [Act.put, pA, pB, pC]
     refine WE.pp 41 (.bool true) ?_
     refine WE.pp 42 (.bool true) ?_
     refine WE.ss 43 ?_
     refine WE.ss 44 ?_
     refine WE.tt 45 ?_
     refine WE.ss 46 ?_
     simp only [Act.put, pA, pB, pC]
     refine WE.pp 47 (.bool true) ?_
     simp only [Act.put, pA, pB, pC]
     refine WE.done ?_
     go_upto_region 6 with (fail)
     refine wp_region_S [(0, 0)] fun wd hb => ?_
     replace EY := hid (EY.out.trans hb)
     clear hb
     refine WE.pp 2 (.bool false) ?_
     simp only [Act.put, pA, pB, pC]
     refine WE.done ?_
     repeat go_step
     go_ret
     exact ⟨by rw [← HB.out]; unfold M.isL; rw [HS.out]; simp [hz], (E.out.trans EY.out)⟩
    have hz1 : M.isZ ge le = true := by simpa using hz
    have HZ1 := hid hz1
    obtain ⟨sg, hsg⟩ : ∃ s : Int, (M.zv ge le).sign = s := ⟨_, rfl⟩
    have HSG := hid hsg
    by_cases h0 : M.zv ge le = 0
    ·have hs0 : (sg == 0) = true := by rw [← hsg, h0]; rfl
     clear hsg
     go_upto_region 5 with (fail)
     refine wp_region_D [(0, 0), (1, 0), (2, 0), (3, 0), (4, 0), (5, 0), (6, 0), (7, 0), (8, 0), (9, 0), (10, 0), (11, 0), (12, 0), (13, 0), (14, 0), (15, 0), (16, 0), (17, 0), (18, 0), (19, 0), (20, 0), (21, 0), (22, 1), (23, 0), (24, 0), (25, 0), (26, 0), (27, 0), (28, 1), (29, 0), (30, 0)] fun wd hb => ?_
     replace EY := hid (EY.out.trans hb)
     clear hb
     refine WE.pp 17 (.pointer (some ⟨gV4, 0, none⟩)) ?_
     refine WE.qq 18 (.int .i64 xv) rfl (fun w' hk => by have ce0 := ((V4.out.up EY.out).up hk).k 0; go_simp) ?_
     refine WE.pp 19 (.bool false) ?_
     refine WE.pp 20 (.bool false) ?_
     refine WE.pp 21 (.int .i64 (k : Int)) ?_
     refine WE.pp 22 (.bool true) ?_
     simp only [Act.put, pA, pB, pC]
     refine WE.pp 23 (.bool true) ?_
     refine WE.pp 24 (.pointer (some ⟨gV4, 0, none⟩)) ?_
     refine WE.qq 25 (.int .i64 xv) rfl (fun w' hk => by have ce0 := ((V4.out.up EY.out).up hk).k 0; go_simp) ?_
     refine WE.pp 26 (.pointer (some ⟨(w.heap.size), 0, none⟩)) ?_
     refine WE.qq 27 (.slice (some ad) n1 c1) rfl (fun w' hk => by have ce0 := ((BX0.out.up EY.out).up hk).k 0; go_simp) ?_
     refine WE.pp 28 (.int .i64 (k : Int)) ?_
     simp only [Act.put, pA, pB, pC]
     refine WE.pp 29 (.int .i64 (kp : Int)) ?_
     refine WE.pp 30 (.pointer (some (ad.add (kp * 3)))) ?_
     refine WE.pp 31 (.pointer (some (ad.add (kp * 3)))) ?_
     refine WE.qq 32 (.int .i64 yv) rfl (fun w' hk => by have ce0 : w'.cell? (ad.add (kp * 3)) = some (.int .i64 yv) := (JA.out.up (E.out.trans EY.out)).up hk; go_simp) ?_
     refine WE.pp 33 (.bool false) ?_
     refine WE.pp 34 (.bool false) ?_
     simp only [Act.put, pA, pB, pC]
     refine WE.pp 35 (.bool false) ?_
     refine WE.pp 36 (.bool false) ?_
     refine WE.pp 37 (.pointer (some ⟨gV4, 1, none⟩)) ?_
     refine WE.qq 38 (.agg #[.bool ge, .slice Ae ne ce]) rfl (fun w' hk => by obtain ⟨ce0, ce1, ce2⟩ := ((V4.out.up EY.out).up hk).c3; go_simp) ?_
     refine WE.cc 39 ((rzIs_any (NE.out.up EY.out) HZ1.out).mono ?_)
     rintro e wn ⟨rfl, hb⟩
     refine ⟨_, rfl, hb, ?_⟩
     replace EY := hid (EY.out.trans hb)
     clear hb
     refine WE.pp 40 (.bool false) ?_
     simp only [Act.put, pA, pB, pC]
     refine WE.pp 41 (.bool false) ?_
     refine WE.pp 42 (.bool false) ?_
     refine WE.pp 43 (.pointer (some ⟨gV4, 1, none⟩)) ?_
     refine WE.qq 44 (.agg #[.bool ge, .slice Ae ne ce]) rfl (fun w' hk => by obtain ⟨ce0, ce1, ce2⟩ := ((V4.out.up EY.out).up hk).c3; go_simp) ?_
     refine WE.cc 45 ((rSign_w (worth_of (NE.out.up EY.out) (Nat.le_refl _) rfl) (s := sg) HSG.out).mono ?_)
     rintro e wn ⟨rfl, hb⟩
     refine ⟨_, rfl, hb, ?_⟩
     replace EY := hid (EY.out.trans hb)
     clear hb
     refine WE.pp 46 (.bool true) ?_
     simp only [Act.put, pA, pB, pC]
     refine WE.pp 47 (.bool true) ?_
     simp only [Act.put, pA, pB, pC]
     refine WE.done ?_
     go_upto_region 6 with (fail)
     refine wp_region_S [(0, 0)] fun wd hb => ?_
     replace EY := hid (EY.out.trans hb)
     clear hb
     refine WE.pp 2 (.bool false) ?_
     simp only [Act.put, pA, pB, pC]
     refine WE.done ?_
     repeat go_step
     go_ret
     exact ⟨by rw [← HB.out]; unfold M.isL; rw [HS.out]; simp [h0], (E.out.trans EY.out)⟩
    have hs0 : (sg == 0) = false := by rw [← hsg, beq_eq_false_iff_ne]; exact fun e => h0 (Int.sign_eq_zero_iff_zero.1 e)
    clear hsg
    have HST := hid (show M.isT (-1) ls = M.isT xv (ls.drop (k + 1)) by rw [HS.out, decide_eq_true (show yv < xv by omega), hz1, decide_eq_false h0]; rfl)
    go_upto_region 5 with (fail)
    refine wp_region_D [(0, 0), (1, 0), (2, 0), (3, 0), (4, 0), (5, 0), (6, 0), (7, 0), (8, 0), (9, 0), (10, 0), (11, 0), (12, 0), (13, 0), (14, 0), (15, 0), (16, 0), (17, 0), (18, 0), (19, 0), (20, 0), (21, 0), (22, 1), (23, 0), (24, 0), (25, 0), (26, 0), (27, 0), (28, 1), (29, 0), (30, 0)] fun wd hb => ?_
    replace EY := hid (EY.out.trans hb)
    clear hb
    refine WE.pp 17 (.pointer (some ⟨gV4, 0, none⟩)) ?_
    refine WE.qq 18 (.int .i64 xv) rfl (fun w' hk => by have ce0 := ((V4.out.up EY.out).up hk).k 0; go_simp) ?_
    refine WE.pp 19 (.bool false) ?_
    refine WE.pp 20 (.bool false) ?_
    refine WE.pp 21 (.int .i64 (k : Int)) ?_
    refine WE.pp 22 (.bool true) ?_
    simp only [Act.put, pA, pB, pC]
    refine WE.pp 23 (.bool true) ?_
    refine WE.pp 24 (.pointer (some ⟨gV4, 0, none⟩)) ?_
    refine WE.qq 25 (.int .i64 xv) rfl (fun w' hk => by have ce0 := ((V4.out.up EY.out).up hk).k 0; go_simp) ?_
    refine WE.pp 26 (.pointer (some ⟨(w.heap.size), 0, none⟩)) ?_
    refine WE.qq 27 (.slice (some ad) n1 c1) rfl (fun w' hk => by have ce0 := ((BX0.out.up EY.out).up hk).k 0; go_simp) ?_
    refine WE.pp 28 (.int .i64 (k : Int)) ?_
    simp only [Act.put, pA, pB, pC]
    refine WE.pp 29 (.int .i64 (kp : Int)) ?_
    refine WE.pp 30 (.pointer (some (ad.add (kp * 3)))) ?_
    refine WE.pp 31 (.pointer (some (ad.add (kp * 3)))) ?_
    refine WE.qq 32 (.int .i64 yv) rfl (fun w' hk => by have ce0 : w'.cell? (ad.add (kp * 3)) = some (.int .i64 yv) := (JA.out.up (E.out.trans EY.out)).up hk; go_simp) ?_
    refine WE.pp 33 (.bool false) ?_
    refine WE.pp 34 (.bool false) ?_
    simp only [Act.put, pA, pB, pC]
    refine WE.pp 35 (.bool false) ?_
    refine WE.pp 36 (.bool false) ?_
    refine WE.pp 37 (.pointer (some ⟨gV4, 1, none⟩)) ?_
    refine WE.qq 38 (.agg #[.bool ge, .slice Ae ne ce]) rfl (fun w' hk => by obtain ⟨ce0, ce1, ce2⟩ := ((V4.out.up EY.out).up hk).c3; go_simp) ?_
    refine WE.cc 39 ((rzIs_any (NE.out.up EY.out) HZ1.out).mono ?_)
    rintro e wn ⟨rfl, hb⟩
    refine ⟨_, rfl, hb, ?_⟩
    replace EY := hid (EY.out.trans hb)
    clear hb
    refine WE.pp 40 (.bool false) ?_
    simp only [Act.put, pA, pB, pC]
    refine WE.pp 41 (.bool false) ?_
    refine WE.pp 42 (.bool false) ?_
    refine WE.pp 43 (.pointer (some ⟨gV4, 1, none⟩)) ?_
    refine WE.qq 44 (.agg #[.bool ge, .slice Ae ne ce]) rfl (fun w' hk => by obtain ⟨ce0, ce1, ce2⟩ := ((V4.out.up EY.out).up hk).c3; go_simp) ?_
    refine WE.cc 45 ((rSign_w (worth_of (NE.out.up EY.out) (Nat.le_refl _) rfl) (s := sg) HSG.out).mono ?_)
    rintro e wn ⟨rfl, hb⟩
    refine ⟨_, rfl, hb, ?_⟩
    replace EY := hid (EY.out.trans hb)
    clear hb
    refine WE.pp 46 (.bool false) ?_
    simp only [Act.put, pA, pB, pC]
    refine WE.pp 47 (.bool false) ?_
    simp only [Act.put, pA, pB, pC]
    refine WE.done ?_
    go_wp2
    go_roundw
    case rel => exact ⟨k + 1, xv, by omega, by go_num, fun h => absurd h (by omega), fun _ => ⟨by omega, _, HX.out, rfl⟩, HST.out, (E.out.trans EY.out), (BX0.out.up EY.out), (N1.out.up EY.out)⟩
    case measure => simp [intOf]; all_goals omega
  ·obtain rfl : k = n1 := by omega
   have hlt' : decide ((k : Int) < (k : Int)) = false := by simp
   go_upto_region 2 with (fail)
   refine wp_region_S [(0, 0), (1, 0), (2, 0), (3, 0), (4, 0)] fun wd hb => ?_
   replace EY := hid (EY.out.trans hb)
   clear hb
   refine WE.pp 5 (.int .i64 (k : Int)) ?_
   refine WE.pp 6 (.pointer (some ⟨(w.heap.size), 0, none⟩)) ?_
   refine WE.qq 7 (.slice A1 k c1) rfl (fun w' hk => by have ce0 := ((BX0.out.up EY.out).up hk).k 0; go_simp) ?_
   refine WE.pp 8 (.int .i64 (k : Int)) ?_
   refine WE.pp 9 (.bool false) ?_
   simp only [Act.put, pA, pB, pC]
   refine WE.done ?_
   go_upto_region 7 with (fail)
   refine wp_region_S [(0, 0), (1, 0), (2, 1), (3, 0)] fun wd hb => ?_
   replace EY := hid (EY.out.trans hb)
   clear hb
   refine WE.pp 48 (.pointer (some ⟨(w.heap.size), 1, none⟩)) ?_
   refine WE.qq 49 (.agg #[.bool g1, .slice B1 m1 d1]) rfl (fun w' hk => by obtain ⟨ce0, ce1, ce2⟩ := ((BX0.out.up EY.out).up hk).c3; go_simp) ?_
   refine WE.cc 50 ((rzIs_any (g := g1) (N1.out.up EY.out) rfl).mono ?_)
   rintro e wn ⟨rfl, hb⟩
   refine ⟨_, rfl, hb, ?_⟩
   replace EY := hid (EY.out.trans hb)
   clear hb
   refine WE.pp 2 (.bool (M.isZ g1 l1)) ?_
   simp only [Act.put, pA, pB, pC]
   refine WE.done ?_
   repeat go_step
   go_ret
   exact ⟨by rw [← HB.out]; unfold M.isL; rw [HT.out, HC.out.1, List.drop_length]; rfl, (E.out.trans EY.out)⟩

end Go.Proofs.YtklmnmkmpkobhaaGreat
