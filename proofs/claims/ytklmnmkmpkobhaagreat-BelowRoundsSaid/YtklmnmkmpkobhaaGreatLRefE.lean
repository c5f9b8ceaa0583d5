/-
  Contract of the reference's Equal: whether two forms are the same.
-/
import Derived.Test.YtklmnmkmpkobhaaGreatLRefA
namespace Go.Proofs.YtklmnmkmpkobhaaGreat
open Go.RowKit
set_option linter.unusedSimpArgs false
set_option linter.unusedVariables false

theorem rEqual_any {w : World} {u v : Value} {Z Y : Int} {j k : Nat} (hu : IsZ w u Z j) (hv : IsZ w v Y k) {b : Bool} (hb : decide (Z = Y) = b) : Calls Tryz.prog 27 #[u, v] w (GivesB w b) := by
 obtain ⟨A, n, c, rfl, h1, _⟩ := hu
 obtain ⟨A', n', c', rfl, h2, _⟩ := hv
 obtain ⟨g, hg⟩ : ∃ g : Bool, g = decide (Z < 0) := ⟨_, rfl⟩
 obtain ⟨g', hg'⟩ : ∃ g : Bool, g = decide (Y < 0) := ⟨_, rfl⟩
 have HS := hid (show g = g' → decide (M.limbs Z.natAbs = M.limbs Y.natAbs) = b by
  intro e
  rw [← hb, Bool.eq_iff_iff, decide_eq_true_iff, decide_eq_true_iff]
  rw [hg, hg', Bool.eq_iff_iff, decide_eq_true_iff, decide_eq_true_iff] at e
  constructor
  ·intro h; have := M.limbs_inj h; omega
  ·intro h; rw [h])
 have HN := hid (show g ≠ g' → b = false by
  intro e
  rw [← hb, decide_eq_false_iff_not]
  rintro rfl
  exact e (hg.trans hg'.symm))
 rw [← hg, ← hg']
 have R := hid h1
 have R' := hid h2
 clear h1 h2 hg hg' hb
 cases g <;> cases g'
 case false.true =>
  go_enter Tryz.func27, Tryz.ntmps27
  go_wp2
  go_ret
  exact ⟨by rw [HN.out (by simp)]; rfl, (Ext.alloc _ _).alloc' _⟩
 case true.false =>
  go_enter Tryz.func27, Tryz.ntmps27
  go_wp2
  go_ret
  exact ⟨by rw [HN.out (by simp)]; rfl, (Ext.alloc _ _).alloc' _⟩
 all_goals
  go_enter Tryz.func27, Tryz.ntmps27
  go_wp2_with fail
  refine (same_any _ _ _ _ _ (R.out.up ((Ext.alloc _ _).alloc' _)) (R'.out.up ((Ext.alloc _ _).alloc' _))).mono ?_
  rintro e wn ⟨rfl, k', rfl⟩
  rw [HS.out (by simp)]
  go_wp2
  go_ret
  exact ⟨rfl, ((Ext.alloc _ _).alloc' _).trans (below_drewN (Below.refl _ _) k')⟩
theorem take_same {α : Type} {t s : List α} {k : Nat} {x y : α} (h : t.take k = s.take k) (hx : t[k]? = some x) (hy : s[k]? = some y) : t.take (k + 1) = s.take (k + 1) ↔ x = y := by
 rw [List.take_add_one, List.take_add_one, hx, hy, h, Option.toList_some, Option.toList_some]
 constructor
 ·intro e; simpa using e
 ·rintro rfl; rfl

set_option maxHeartbeats 2000000 in
theorem rEqualL_len {w : World} {u v : Value} {t s : M.Tm} {κ μ : Int} {W U : Nat} (h1 : IsL w u t κ W) (h2 : IsL w v s μ U) {b : Bool} (hb : decide (t = s ∧ κ = μ) = b) (hcond : t.length ≠ s.length) :
 Calls Tryz.prog 12 #[u, v] w (GivesB w b) := by
 obtain ⟨A1, n1, c1, g1, B1, m1, d1, rfl, ht1, hk1, ho1⟩ := h1
 have HC1 := hid ht1.count
 have hb1 : n1 ≤ 9223372036854775807 := ht1.count.2.2
 obtain ⟨A2, n2, c2, g2, B2, m2, d2, rfl, ht2, hk2, ho2⟩ := h2
 have HC2 := hid ht2.count
 have hb2 : n2 ≤ 9223372036854775807 := ht2.count.2.2
 have hnd : ((n1 : Int) != (n2 : Int)) = true := by rw [bne_iff_ne]; have := ht1.count.1; have := ht2.count.1; omega
 have HB := hid hb
 have HCD := hid hcond
 clear hb hcond ht1 hk1 ho1 ht2 hk2 ho2
 go_enter Tryz.func12, Tryz.ntmps12
 go_upto_region 1 with (fail)
 obtain ⟨E, BX0, BX1⟩ := open2 w #[.slice A1 n1 c1, .bool g1, .slice B1 m1 d1] 27 #[.slice A2 n2 c2, .bool g2, .slice B2 m2 d2] 27
 refine wp_region_S [(0, 0), (1, 0), (2, 0), (3, 0), (4, 0), (5, 0), (6, 0), (7, 0), (8, 0), (9, 0), (10, 0), (11, 0), (12, 1), (13, 0), (14, 0)] fun wd hb => ?_
 replace E := hid (E.out.trans hb)
 replace BX0 := hid (BX0.out.up hb)
 replace BX1 := hid (BX1.out.up hb)
 clear hb
 have EY := hid (Ext.refl wd)
 refine WE.pp 6 (.pointer (some ⟨(w.heap.size), 0, none⟩)) ?_
 refine WE.qq 7 (.slice A1 n1 c1) rfl (fun w' hk => by have ce0 := ((BX0.out.up EY.out).up hk).k 0; go_simp) ?_
 refine WE.pp 8 (.int .i64 (n1 : Int)) ?_
 refine WE.pp 9 (.pointer (some ⟨(w.heap.size + 1), 0, none⟩)) ?_
 refine WE.qq 10 (.slice A2 n2 c2) rfl (fun w' hk => by have ce0 := ((BX1.out.up EY.out).up hk).k 0; go_simp) ?_
 refine WE.pp 11 (.int .i64 (n2 : Int)) ?_
 simp only [Act.put, pA, pB, pC]
 refine WE.pp 12 (.bool true) ?_
 refine WE.pp 13 (.bool true) ?_
 refine WE.ss 14 ?_
 refine WE.ss 15 ?_
 refine WE.ss 16 ?_
 refine WE.ss 17 ?_
 simp only [Act.put, pA, pB, pC]
 refine WE.tt 18 ?_
 refine WE.ss 19 ?_
 refine WE.pp 20 (.bool true) ?_
 simp only [Act.put, pA, pB, pC]
 refine WE.done ?_
 go_upto_region 2 with (fail)
 refine wp_region_S [(0, 0)] fun wd hb => ?_
 replace EY := hid (EY.out.trans hb)
 clear hb
 refine WE.pp 4 (.bool false) ?_
 simp only [Act.put, pA, pB, pC]
 refine WE.done ?_
 repeat go_step
 go_ret
 exact ⟨by rw [← HB.out, decide_eq_false (fun e => HCD.out (by rw [e.1]))]; rfl, (E.out.trans EY.out)⟩

set_option maxHeartbeats 2000000 in
theorem rEqualL_k {w : World} {u v : Value} {t s : M.Tm} {κ μ : Int} {W U : Nat} (h1 : IsL w u t κ W) (h2 : IsL w v s μ U) {b : Bool} (hb : decide (t = s ∧ κ = μ) = b) (hcond : t.length = s.length ∧ κ ≠ μ) :
 Calls Tryz.prog 12 #[u, v] w (GivesB w b) := by
 obtain ⟨A1, n1, c1, g1, B1, m1, d1, rfl, ht1, hk1, ho1⟩ := h1
 have Q1 := hid hk1
 have HC1 := hid ht1.count
 have hb1 : n1 ≤ 9223372036854775807 := ht1.count.2.2
 obtain ⟨A2, n2, c2, g2, B2, m2, d2, rfl, ht2, hk2, ho2⟩ := h2
 have Q2 := hid hk2
 have HC2 := hid ht2.count
 have hb2 : n2 ≤ 9223372036854775807 := ht2.count.2.2
 have hnd : ((n1 : Int) != (n2 : Int)) = false := by rw [bne_eq_false_iff_eq]; have := ht1.count.1; have := ht2.count.1; have := hcond.1; omega
 have HB := hid hb
 have HCD := hid hcond
 clear hb hcond ht1 hk1 ho1 ht2 hk2 ho2
 go_enter Tryz.func12, Tryz.ntmps12
 go_upto_region 1 with (fail)
 obtain ⟨E, BX0, BX1⟩ := open2 w #[.slice A1 n1 c1, .bool g1, .slice B1 m1 d1] 27 #[.slice A2 n2 c2, .bool g2, .slice B2 m2 d2] 27
 replace Q1 := hid (Q1.out.up E.out)
 replace Q2 := hid (Q2.out.up E.out)
 refine wp_region_S [(0, 0), (1, 0), (2, 0), (3, 0), (4, 0), (5, 0), (6, 0), (7, 0), (8, 0), (9, 0), (10, 0), (11, 0), (12, 1), (13, 0), (14, 0)] fun wd hb => ?_
 replace E := hid (E.out.trans hb)
 replace BX0 := hid (BX0.out.up hb)
 replace BX1 := hid (BX1.out.up hb)
 replace Q1 := hid (Q1.out.up hb)
 replace Q2 := hid (Q2.out.up hb)
 clear hb
 have EY := hid (Ext.refl wd)
 refine WE.pp 6 (.pointer (some ⟨(w.heap.size), 0, none⟩)) ?_
 refine WE.qq 7 (.slice A1 n1 c1) rfl (fun w' hk => by have ce0 := ((BX0.out.up EY.out).up hk).k 0; go_simp) ?_
 refine WE.pp 8 (.int .i64 (n1 : Int)) ?_
 refine WE.pp 9 (.pointer (some ⟨(w.heap.size + 1), 0, none⟩)) ?_
 refine WE.qq 10 (.slice A2 n2 c2) rfl (fun w' hk => by have ce0 := ((BX1.out.up EY.out).up hk).k 0; go_simp) ?_
 refine WE.pp 11 (.int .i64 (n2 : Int)) ?_
 simp only [Act.put, pA, pB, pC]
 refine WE.pp 12 (.bool false) ?_
 refine WE.pp 13 (.bool false) ?_
 refine WE.pp 14 (.pointer (some ⟨(w.heap.size), 1, none⟩)) ?_
 refine WE.qq 15 (.agg #[.bool g1, .slice B1 m1 d1]) rfl (fun w' hk => by obtain ⟨ce0, ce1, ce2⟩ := ((BX0.out.up EY.out).up hk).c3; go_simp) ?_
 refine WE.pp 16 (.pointer (some ⟨(w.heap.size + 1), 1, none⟩)) ?_
 refine WE.qq 17 (.agg #[.bool g2, .slice B2 m2 d2]) rfl (fun w' hk => by obtain ⟨ce0, ce1, ce2⟩ := ((BX1.out.up EY.out).up hk).c3; go_simp) ?_
 simp only [Act.put, pA, pB, pC]
 refine WE.cc 18 ((rEqual_any (Q1.out.up EY.out) (Q2.out.up EY.out) (b := false) (decide_eq_false HCD.out.2)).mono ?_)
 rintro e wn ⟨rfl, hb⟩
 refine ⟨_, rfl, hb, ?_⟩
 replace EY := hid (EY.out.trans hb)
 clear hb
 refine WE.pp 19 (.bool true) ?_
 refine WE.pp 20 (.bool true) ?_
 simp only [Act.put, pA, pB, pC]
 refine WE.done ?_
 go_upto_region 2 with (fail)
 refine wp_region_S [(0, 0)] fun wd hb => ?_
 replace EY := hid (EY.out.trans hb)
 clear hb
 refine WE.pp 4 (.bool false) ?_
 simp only [Act.put, pA, pB, pC]
 refine WE.done ?_
 repeat go_step
 go_ret
 exact ⟨by rw [← HB.out, decide_eq_false (fun e => HCD.out.2 e.2)]; rfl, (E.out.trans EY.out)⟩

set_option maxHeartbeats 4000000 in
theorem rEqualL_loop {w : World} {u v : Value} {t s : M.Tm} {κ μ : Int} {W U : Nat} (h1 : IsL w u t κ W) (h2 : IsL w v s μ U) {b : Bool} (hb : decide (t = s ∧ κ = μ) = b) (hcond : t.length = s.length ∧ κ = μ) :
 Calls Tryz.prog 12 #[u, v] w (GivesB w b) := by
 obtain ⟨A1, n1, c1, g1, B1, m1, d1, rfl, ht1, hk1, ho1⟩ := h1
 have T1 := hid ht1
 have Q1 := hid hk1
 have HC1 := hid ht1.count
 have hb1 : n1 ≤ 9223372036854775807 := ht1.count.2.2
 obtain ⟨A2, n2, c2, g2, B2, m2, d2, rfl, ht2, hk2, ho2⟩ := h2
 have T2 := hid ht2
 have Q2 := hid hk2
 have HC2 := hid ht2.count
 have hb2 : n2 ≤ 9223372036854775807 := ht2.count.2.2
 have hnd : ((n1 : Int) != (n2 : Int)) = false := by rw [bne_eq_false_iff_eq]; have := ht1.count.1; have := ht2.count.1; have := hcond.1; omega
 obtain rfl : n1 = n2 := by have := ht1.count.1; have := ht2.count.1; have := hcond.1; omega
 have HB := hid hb
 have HCD := hid hcond
 clear hb hcond ht1 hk1 ho1 ht2 hk2 ho2
 go_enter Tryz.func12, Tryz.ntmps12
 go_upto_region 1 with (fail)
 obtain ⟨E, BX0, BX1⟩ := open2 w #[.slice A1 n1 c1, .bool g1, .slice B1 m1 d1] 27 #[.slice A2 n1 c2, .bool g2, .slice B2 m2 d2] 27
 replace Q1 := hid (Q1.out.up E.out)
 replace Q2 := hid (Q2.out.up E.out)
 refine wp_region_S [(0, 0), (1, 0), (2, 0), (3, 0), (4, 0), (5, 0), (6, 0), (7, 0), (8, 0), (9, 0), (10, 0), (11, 0), (12, 1), (13, 0), (14, 0)] fun wd hb => ?_
 replace E := hid (E.out.trans hb)
 replace BX0 := hid (BX0.out.up hb)
 replace BX1 := hid (BX1.out.up hb)
 replace Q1 := hid (Q1.out.up hb)
 replace Q2 := hid (Q2.out.up hb)
 clear hb
 have EY := hid (Ext.refl wd)
 refine WE.pp 6 (.pointer (some ⟨(w.heap.size), 0, none⟩)) ?_
 refine WE.qq 7 (.slice A1 n1 c1) rfl (fun w' hk => by have ce0 := ((BX0.out.up EY.out).up hk).k 0; go_simp) ?_
 refine WE.pp 8 (.int .i64 (n1 : Int)) ?_
 refine WE.pp 9 (.pointer (some ⟨(w.heap.size + 1), 0, none⟩)) ?_
 refine WE.qq 10 (.slice A2 n1 c2) rfl (fun w' hk => by have ce0 := ((BX1.out.up EY.out).up hk).k 0; go_simp) ?_
 refine WE.pp 11 (.int .i64 (n1 : Int)) ?_
 simp only [Act.put, pA, pB, pC]
 refine WE.pp 12 (.bool false) ?_
 refine WE.pp 13 (.bool false) ?_
 refine WE.pp 14 (.pointer (some ⟨(w.heap.size), 1, none⟩)) ?_
 refine WE.qq 15 (.agg #[.bool g1, .slice B1 m1 d1]) rfl (fun w' hk => by obtain ⟨ce0, ce1, ce2⟩ := ((BX0.out.up EY.out).up hk).c3; go_simp) ?_
 refine WE.pp 16 (.pointer (some ⟨(w.heap.size + 1), 1, none⟩)) ?_
 refine WE.qq 17 (.agg #[.bool g2, .slice B2 m2 d2]) rfl (fun w' hk => by obtain ⟨ce0, ce1, ce2⟩ := ((BX1.out.up EY.out).up hk).c3; go_simp) ?_
 simp only [Act.put, pA, pB, pC]
 refine WE.cc 18 ((rEqual_any (Q1.out.up EY.out) (Q2.out.up EY.out) (b := true) (decide_eq_true HCD.out.2)).mono ?_)
 rintro e wn ⟨rfl, hb⟩
 refine ⟨_, rfl, hb, ?_⟩
 replace EY := hid (EY.out.trans hb)
 clear hb
 refine WE.pp 19 (.bool false) ?_
 refine WE.pp 20 (.bool false) ?_
 simp only [Act.put, pA, pB, pC]
 refine WE.done ?_
 go_wp2
 go_loopw [5] (fun i wr => ∃ k : Nat, k ≤ n1 ∧ i = .int .i64 (k : Int) ∧ t.take k = s.take k ∧ Ext w wr ∧ Box wr w.heap.size #[.slice A1 n1 c1, .bool g1, .slice B1 m1 d1] 27 ∧ Box wr (w.heap.size + 1) #[.slice A2 n1 c2, .bool g2, .slice B2 m2 d2] 27) (fun i _ => n1 - (intOf i).toNat)
 case atStart => exact ⟨0, Nat.zero_le _, rfl, rfl, (E.out.trans EY.out), (BX0.out.up EY.out), (BX1.out.up EY.out)⟩
 case round =>
  clear E EY BX0 BX1 Q1 Q2
  obtain ⟨k, hk, rfl, htk, hext, hb0, hb1'⟩ := hrel
  have E := hid hext
  have BX0 := hid hb0
  have BX1 := hid hb1'
  have HTK := hid htk
  clear hext hb0 hb1' htk
  have EY := hid (Ext.refl wr)
  by_cases hlt : k < n1
  ·have hlt' : decide ((k : Int) < (n1 : Int)) = true := decide_eq_true (by omega)
   obtain ⟨x, hx⟩ : ∃ x, t[k]? = some x := ⟨_, List.getElem?_eq_getElem (by rw [← HC1.out.1]; exact hlt)⟩
   obtain ⟨y, hy⟩ : ∃ y, s[k]? = some y := ⟨_, List.getElem?_eq_getElem (by rw [← HC2.out.1]; exact hlt)⟩
   have HXY := hid (take_same HTK.out hx hy)
   have HNE := hid (show x ≠ y → b = false from fun e => by rw [← HB.out, decide_eq_false]; rintro ⟨rfl, _⟩; rw [hx] at hy; exact e (Option.some.inj hy))
   obtain ⟨ad, ge, Ae, ne, ce, rfl, ka, kb, kc, kz⟩ := T1.out.get hx
   obtain ⟨ap, gf, Af, nf, cf, rfl, ja, jb, jc, jz⟩ := T2.out.get hy
   obtain ⟨xv, xc⟩ := x
   obtain ⟨yv, yc⟩ := y
   have KA := hid ka
   have KB := hid kb
   have KC := hid kc
   have QE := hid (kz.up E.out)
   have JA := hid ja
   have JB := hid jb
   have JC := hid jc
   have QF := hid (jz.up E.out)
   clear hx hy ka kb kc kz ja jb jc jz
   go_upto_region 4 with (fail)
   refine wp_region_S [(0, 0), (1, 0), (2, 0), (3, 0), (4, 0)] fun wd hb => ?_
   replace EY := hid (EY.out.trans hb)
   replace QE := hid (QE.out.up hb)
   replace QF := hid (QF.out.up hb)
   clear hb
   refine WE.pp 21 (.int .i64 (k : Int)) ?_
   refine WE.pp 22 (.pointer (some ⟨(w.heap.size), 0, none⟩)) ?_
   refine WE.qq 23 (.slice (some ad) n1 c1) rfl (fun w' hk => by have ce0 := ((BX0.out.up EY.out).up hk).k 0; go_simp) ?_
   refine WE.pp 24 (.int .i64 (n1 : Int)) ?_
   refine WE.pp 25 (.bool true) ?_
   simp only [Act.put, pA, pB, pC]
   refine WE.done ?_
   by_cases hv : xv = yv
   ·have hvd : (xv != yv) = false := by rw [hv]; simp
    by_cases hc : xc = yc
    ·go_upto_region 6 with (fail)
     refine wp_region_D [(0, 0), (1, 0), (2, 0), (3, 0), (4, 0), (5, 0), (6, 0), (7, 0), (8, 0), (9, 0), (10, 0), (11, 0), (12, 0), (13, 0), (14, 0), (15, 0), (16, 0), (17, 0), (18, 0), (19, 0), (20, 0), (21, 0), (22, 0), (23, 0), (24, 0), (25, 0), (26, 1), (27, 0), (28, 0)] fun wd hb => ?_
     replace EY := hid (EY.out.trans hb)
     replace QE := hid (QE.out.up hb)
     replace QF := hid (QF.out.up hb)
     clear hb
     refine WE.pp 28 (.pointer (some ⟨(w.heap.size), 0, none⟩)) ?_
     refine WE.qq 29 (.slice (some ad) n1 c1) rfl (fun w' hk => by have ce0 := ((BX0.out.up EY.out).up hk).k 0; go_simp) ?_
     refine WE.pp 30 (.int .i64 (k : Int)) ?_
     refine WE.pp 31 (.pointer (some (ad.add (k * 3)))) ?_
     refine WE.pp 32 (.pointer (some (ad.add (k * 3)))) ?_
     refine WE.qq 33 (.int .i64 xv) rfl (fun w' hk => by have ce0 : w'.cell? (ad.add (k * 3)) = some (.int .i64 xv) := (KA.out.up (E.out.trans EY.out)).up hk; go_simp) ?_
     simp only [Act.put, pA, pB, pC]
     refine WE.pp 34 (.pointer (some ⟨(w.heap.size + 1), 0, none⟩)) ?_
     refine WE.qq 35 (.slice (some ap) n1 c2) rfl (fun w' hk => by have ce0 := ((BX1.out.up EY.out).up hk).k 0; go_simp) ?_
     refine WE.pp 36 (.int .i64 (k : Int)) ?_
     refine WE.pp 37 (.pointer (some (ap.add (k * 3)))) ?_
     refine WE.pp 38 (.pointer (some (ap.add (k * 3)))) ?_
     refine WE.qq 39 (.int .i64 yv) rfl (fun w' hk => by have ce0 : w'.cell? (ap.add (k * 3)) = some (.int .i64 yv) := (JA.out.up (E.out.trans EY.out)).up hk; go_simp) ?_
     simp only [Act.put, pA, pB, pC]
     refine WE.pp 40 (.bool false) ?_
     refine WE.pp 41 (.bool false) ?_
     refine WE.pp 42 (.pointer (some ⟨(w.heap.size), 0, none⟩)) ?_
     refine WE.qq 43 (.slice (some ad) n1 c1) rfl (fun w' hk => by have ce0 := ((BX0.out.up EY.out).up hk).k 0; go_simp) ?_
     refine WE.pp 44 (.int .i64 (k : Int)) ?_
     refine WE.pp 45 (.pointer (some (ad.add (k * 3)))) ?_
     simp only [Act.put, pA, pB, pC]
     refine WE.pp 46 (.pointer (some ⟨(ad.add (k * 3)).block, (ad.add (k * 3)).off + 1, none⟩)) ?_
     refine WE.qq 47 (.agg #[.bool ge, .slice Ae ne ce]) rfl (fun w' hk => by have ce1 : w'.cell? ⟨(ad.add (k * 3)).block, (ad.add (k * 3)).off + 1, none⟩ = some (.bool ge) := (KB.out.up (E.out.trans EY.out)).up hk; have ce2 : w'.cell? ⟨(ad.add (k * 3)).block, (ad.add (k * 3)).off + 2, none⟩ = some (.slice Ae ne ce) := (KC.out.up (E.out.trans EY.out)).up hk; go_simp) ?_
     refine WE.pp 48 (.pointer (some ⟨(w.heap.size + 1), 0, none⟩)) ?_
     refine WE.qq 49 (.slice (some ap) n1 c2) rfl (fun w' hk => by have ce0 := ((BX1.out.up EY.out).up hk).k 0; go_simp) ?_
     refine WE.pp 50 (.int .i64 (k : Int)) ?_
     refine WE.pp 51 (.pointer (some (ap.add (k * 3)))) ?_
     simp only [Act.put, pA, pB, pC]
     refine WE.pp 52 (.pointer (some ⟨(ap.add (k * 3)).block, (ap.add (k * 3)).off + 1, none⟩)) ?_
     refine WE.qq 53 (.agg #[.bool gf, .slice Af nf cf]) rfl (fun w' hk => by have ce1 : w'.cell? ⟨(ap.add (k * 3)).block, (ap.add (k * 3)).off + 1, none⟩ = some (.bool gf) := (JB.out.up (E.out.trans EY.out)).up hk; have ce2 : w'.cell? ⟨(ap.add (k * 3)).block, (ap.add (k * 3)).off + 2, none⟩ = some (.slice Af nf cf) := (JC.out.up (E.out.trans EY.out)).up hk; go_simp) ?_
     refine WE.cc 54 ((rEqual_any QE.out QF.out (b := true) (decide_eq_true hc)).mono ?_)
     rintro e wn ⟨rfl, hb⟩
     refine ⟨_, rfl, hb, ?_⟩
     replace EY := hid (EY.out.trans hb)
     replace QE := hid (QE.out.up hb)
     replace QF := hid (QF.out.up hb)
     clear hb
     refine WE.pp 55 (.bool false) ?_
     refine WE.pp 56 (.bool false) ?_
     simp only [Act.put, pA, pB, pC]
     refine WE.done ?_
     go_wp2
     go_roundw
     case rel => exact ⟨k + 1, by omega, by go_num, HXY.out.2 (by rw [hv, hc]), (E.out.trans EY.out), (BX0.out.up EY.out), (BX1.out.up EY.out)⟩
     case measure => simp [intOf]; all_goals omega
    ·go_upto_region 6 with (fail)
     refine wp_region_D [(0, 0), (1, 0), (2, 0), (3, 0), (4, 0), (5, 0), (6, 0), (7, 0), (8, 0), (9, 0), (10, 0), (11, 0), (12, 0), (13, 0), (14, 0), (15, 0), (16, 0), (17, 0), (18, 0), (19, 0), (20, 0), (21, 0), (22, 0), (23, 0), (24, 0), (25, 0), (26, 1), (27, 0), (28, 0)] fun wd hb => ?_
     replace EY := hid (EY.out.trans hb)
     replace QE := hid (QE.out.up hb)
     replace QF := hid (QF.out.up hb)
     clear hb
     refine WE.pp 28 (.pointer (some ⟨(w.heap.size), 0, none⟩)) ?_
     refine WE.qq 29 (.slice (some ad) n1 c1) rfl (fun w' hk => by have ce0 := ((BX0.out.up EY.out).up hk).k 0; go_simp) ?_
     refine WE.pp 30 (.int .i64 (k : Int)) ?_
     refine WE.pp 31 (.pointer (some (ad.add (k * 3)))) ?_
     refine WE.pp 32 (.pointer (some (ad.add (k * 3)))) ?_
     refine WE.qq 33 (.int .i64 xv) rfl (fun w' hk => by have ce0 : w'.cell? (ad.add (k * 3)) = some (.int .i64 xv) := (KA.out.up (E.out.trans EY.out)).up hk; go_simp) ?_
     simp only [Act.put, pA, pB, pC]
     refine WE.pp 34 (.pointer (some ⟨(w.heap.size + 1), 0, none⟩)) ?_
     refine WE.qq 35 (.slice (some ap) n1 c2) rfl (fun w' hk => by have ce0 := ((BX1.out.up EY.out).up hk).k 0; go_simp) ?_
     refine WE.pp 36 (.int .i64 (k : Int)) ?_
     refine WE.pp 37 (.pointer (some (ap.add (k * 3)))) ?_
     refine WE.pp 38 (.pointer (some (ap.add (k * 3)))) ?_
     refine WE.qq 39 (.int .i64 yv) rfl (fun w' hk => by have ce0 : w'.cell? (ap.add (k * 3)) = some (.int .i64 yv) := (JA.out.up (E.out.trans EY.out)).up hk; go_simp) ?_
     simp only [Act.put, pA, pB, pC]
     refine WE.pp 40 (.bool false) ?_
     refine WE.pp 41 (.bool false) ?_
     refine WE.pp 42 (.pointer (some ⟨(w.heap.size), 0, none⟩)) ?_
     refine WE.qq 43 (.slice (some ad) n1 c1) rfl (fun w' hk => by have ce0 := ((BX0.out.up EY.out).up hk).k 0; go_simp) ?_
     refine WE.pp 44 (.int .i64 (k : Int)) ?_
     refine WE.pp 45 (.pointer (some (ad.add (k * 3)))) ?_
     simp only [Act.put, pA, pB, pC]
     refine WE.pp 46 (.pointer (some ⟨(ad.add (k * 3)).block, (ad.add (k * 3)).off + 1, none⟩)) ?_
     refine WE.qq 47 (.agg #[.bool ge, .slice Ae ne ce]) rfl (fun w' hk => by have ce1 : w'.cell? ⟨(ad.add (k * 3)).block, (ad.add (k * 3)).off + 1, none⟩ = some (.bool ge) := (KB.out.up (E.out.trans EY.out)).up hk; have ce2 : w'.cell? ⟨(ad.add (k * 3)).block, (ad.add (k * 3)).off + 2, none⟩ = some (.slice Ae ne ce) := (KC.out.up (E.out.trans EY.out)).up hk; go_simp) ?_
     refine WE.pp 48 (.pointer (some ⟨(w.heap.size + 1), 0, none⟩)) ?_
     refine WE.qq 49 (.slice (some ap) n1 c2) rfl (fun w' hk => by have ce0 := ((BX1.out.up EY.out).up hk).k 0; go_simp) ?_
     refine WE.pp 50 (.int .i64 (k : Int)) ?_
     refine WE.pp 51 (.pointer (some (ap.add (k * 3)))) ?_
     simp only [Act.put, pA, pB, pC]
     refine WE.pp 52 (.pointer (some ⟨(ap.add (k * 3)).block, (ap.add (k * 3)).off + 1, none⟩)) ?_
     refine WE.qq 53 (.agg #[.bool gf, .slice Af nf cf]) rfl (fun w' hk => by have ce1 : w'.cell? ⟨(ap.add (k * 3)).block, (ap.add (k * 3)).off + 1, none⟩ = some (.bool gf) := (JB.out.up (E.out.trans EY.out)).up hk; have ce2 : w'.cell? ⟨(ap.add (k * 3)).block, (ap.add (k * 3)).off + 2, none⟩ = some (.slice Af nf cf) := (JC.out.up (E.out.trans EY.out)).up hk; go_simp) ?_
     refine WE.cc 54 ((rEqual_any QE.out QF.out (b := false) (decide_eq_false hc)).mono ?_)
     rintro e wn ⟨rfl, hb⟩
     refine ⟨_, rfl, hb, ?_⟩
     replace EY := hid (EY.out.trans hb)
     clear hb
     refine WE.pp 55 (.bool true) ?_
     refine WE.pp 56 (.bool true) ?_
     simp only [Act.put, pA, pB, pC]
     refine WE.done ?_
     go_upto_region 7 with (fail)
     refine wp_region_S [(0, 0)] fun wd hb => ?_
     replace EY := hid (EY.out.trans hb)
     clear hb
     refine WE.pp 4 (.bool false) ?_
     simp only [Act.put, pA, pB, pC]
     refine WE.done ?_
     repeat go_step
     go_ret
     exact ⟨by rw [HNE.out (fun e => hc (by injection e))]; rfl, (E.out.trans EY.out)⟩
   ·have hvd : (xv != yv) = true := by simpa using hv
    go_upto_region 6 with (fail)
    refine wp_region_D [(0, 0), (1, 0), (2, 0), (3, 0), (4, 0), (5, 0), (6, 0), (7, 0), (8, 0), (9, 0), (10, 0), (11, 0), (12, 0), (13, 0), (14, 0), (15, 0), (16, 0), (17, 0), (18, 0), (19, 0), (20, 0), (21, 0), (22, 0), (23, 0), (24, 0), (25, 0), (26, 1), (27, 0), (28, 0)] fun wd hb => ?_
    replace EY := hid (EY.out.trans hb)
    clear hb
    refine WE.pp 28 (.pointer (some ⟨(w.heap.size), 0, none⟩)) ?_
    refine WE.qq 29 (.slice (some ad) n1 c1) rfl (fun w' hk => by have ce0 := ((BX0.out.up EY.out).up hk).k 0; go_simp) ?_
    refine WE.pp 30 (.int .i64 (k : Int)) ?_
    refine WE.pp 31 (.pointer (some (ad.add (k * 3)))) ?_
    refine WE.pp 32 (.pointer (some (ad.add (k * 3)))) ?_
    refine WE.qq 33 (.int .i64 xv) rfl (fun w' hk => by have ce0 : w'.cell? (ad.add (k * 3)) = some (.int .i64 xv) := (KA.out.up (E.out.trans EY.out)).up hk; go_simp) ?_
    simp only [Act.put, pA, pB, pC]
    refine WE.pp 34 (.pointer (some ⟨(w.heap.size + 1), 0, none⟩)) ?_
    refine WE.qq 35 (.slice (some ap) n1 c2) rfl (fun w' hk => by have ce0 := ((BX1.out.up EY.out).up hk).k 0; go_simp) ?_
    refine WE.pp 36 (.int .i64 (k : Int)) ?_
    refine WE.pp 37 (.pointer (some (ap.add (k * 3)))) ?_
    refine WE.pp 38 (.pointer (some (ap.add (k * 3)))) ?_
    refine WE.qq 39 (.int .i64 yv) rfl (fun w' hk => by have ce0 : w'.cell? (ap.add (k * 3)) = some (.int .i64 yv) := (JA.out.up (E.out.trans EY.out)).up hk; go_simp) ?_
    simp only [Act.put, pA, pB, pC]
    refine WE.pp 40 (.bool true) ?_
    refine WE.pp 41 (.bool true) ?_
    refine WE.ss 42 ?_
    refine WE.ss 43 ?_
    refine WE.ss 44 ?_
    refine WE.ss 45 ?_
    simp only [Act.put, pA, pB, pC]
    refine WE.ss 46 ?_
    refine WE.ss 47 ?_
    refine WE.ss 48 ?_
    refine WE.ss 49 ?_
    refine WE.ss 50 ?_
    refine WE.ss 51 ?_
    simp only [Act.put, pA, pB, pC]
    refine WE.ss 52 ?_
    refine WE.ss 53 ?_
    refine WE.tt 54 ?_
    refine WE.ss 55 ?_
    refine WE.pp 56 (.bool true) ?_
    simp only [Act.put, pA, pB, pC]
    refine WE.done ?_
    go_upto_region 7 with (fail)
    refine wp_region_S [(0, 0)] fun wd hb => ?_
    replace EY := hid (EY.out.trans hb)
    clear hb
    refine WE.pp 4 (.bool false) ?_
    simp only [Act.put, pA, pB, pC]
    refine WE.done ?_
    repeat go_step
    go_ret
    exact ⟨by rw [HNE.out (fun e => hv (by injection e))]; rfl, (E.out.trans EY.out)⟩
  ·obtain rfl : k = n1 := by omega
   have hlt' : decide ((k : Int) < (k : Int)) = false := by simp
   go_upto_region 4 with (fail)
   refine wp_region_S [(0, 0), (1, 0), (2, 0), (3, 0), (4, 0)] fun wd hb => ?_
   replace EY := hid (EY.out.trans hb)
   clear hb
   refine WE.pp 21 (.int .i64 (k : Int)) ?_
   refine WE.pp 22 (.pointer (some ⟨(w.heap.size), 0, none⟩)) ?_
   refine WE.qq 23 (.slice A1 k c1) rfl (fun w' hk => by have ce0 := ((BX0.out.up EY.out).up hk).k 0; go_simp) ?_
   refine WE.pp 24 (.int .i64 (k : Int)) ?_
   refine WE.pp 25 (.bool false) ?_
   simp only [Act.put, pA, pB, pC]
   refine WE.done ?_
   go_upto_region 8 with (fail)
   refine wp_region_S [(0, 0)] fun wd hb => ?_
   replace EY := hid (EY.out.trans hb)
   clear hb
   refine WE.pp 4 (.bool true) ?_
   simp only [Act.put, pA, pB, pC]
   refine WE.done ?_
   repeat go_step
   go_ret
   exact ⟨by rw [← HB.out, decide_eq_true (show t = s ∧ κ = μ from ⟨by have := HTK.out; rw [show t.take k = t by rw [HC1.out.1]; exact List.take_length, show s.take k = s by rw [HC2.out.1]; exact List.take_length] at this; exact this, HCD.out.2⟩)]; rfl, (E.out.trans EY.out)⟩

theorem rEqualL_l {w : World} {u v : Value} {t s : M.Tm} {κ μ : Int} {W U : Nat} (h1 : IsL w u t κ W) (h2 : IsL w v s μ U) {b : Bool} (hb : decide (t = s ∧ κ = μ) = b) : Calls Tryz.prog 12 #[u, v] w (GivesB w b) := by
 by_cases c1 : t.length = s.length
 ·by_cases c2 : κ = μ
  ·exact rEqualL_loop h1 h2 hb ⟨c1, c2⟩
  ·exact rEqualL_k h1 h2 hb ⟨c1, c2⟩
 ·exact rEqualL_len h1 h2 hb c1

end Go.Proofs.YtklmnmkmpkobhaaGreat
