/-
  What each law of layer 6 asks first: few terms, few points, what is known.
-/
import Derived.Test.YtfjehdcdbejlnaaGreatLOpen
import Derived.Test.YtfjehdcdbejlnaaGreatLFaceD
import Derived.Test.YtfjehdcdbejlnaaGreatLFaceV
import Derived.Test.YtfjehdcdbejlnaaGreatLFaceP
import Derived.Test.YtfjehdcdbejlnaaGreatLRefE
namespace Go.Proofs.YtfjehdcdbejlnaaGreat
open Go.RowKit
set_option linter.unusedSimpArgs false
set_option linter.unusedVariables false

theorem Num.cnt {w : World} {C : Nat} {A : Option Addr} {n c : Nat} {l : List Nat} (hm : Num w C (.slice A n c) l) : n = l.length ∧ n ≤ 9223372036854775807 := by
  obtain ⟨_, _, _, e, h, h1, h2, _⟩ := hm
  injection e with _ e2 e3
  unfold maxLen at h2
  exact ⟨by omega, by omega⟩
theorem IsL.to {w : World} {v : Value} {t s : M.Tm} {κ μ : Int} {W : Nat} (h : IsL w v t κ W) (ht : t = s) (hk : κ = μ) : IsL w v s μ W := ht ▸ hk ▸ h

set_option maxHeartbeats 4000000 in
theorem fewL_any {w : World} {g1 : Bool} {A1 B1 : Option Addr} {n1 c1 m1 d1 : Nat} {ls : List (Int × Bool × List Nat)} {l1 : List Nat} (h1 : LList w (.slice A1 n1 c1) ls) (h2 : Num w w.heap.size (.slice B1 m1 d1) l1) {b : Bool} (hb : M.fewL ls l1 = b) :
    Calls Tryz.prog 8 #[.agg #[.slice A1 n1 c1, .bool g1, .slice B1 m1 d1]] w (GivesB w b) := by
  have HL := hid h1
  have HC := hid h1.count
  have HB := hid hb
  have hb9 : n1 ≤ 9223372036854775807 := h1.count.2.2
  have HK := hid h2.cnt
  have hm9 : m1 ≤ 9223372036854775807 := h2.cnt.2
  clear h1 h2 hb
  go_enter Tryz.func8, Tryz.ntmps8
  go_upto_region 1 with (fail)
  have E := hid ((Ext.refl w).alloc' (.cells #[.slice A1 n1 c1, .bool g1, .slice B1 m1 d1] 27))
  have BX0 : Hid (Box (w.alloc (.cells #[.slice A1 n1 c1, .bool g1, .slice B1 m1 d1] 27)) (w.heap.size) #[.slice A1 n1 c1, .bool g1, .slice B1 m1 d1] 27) := hid (Box.at_ (w := w) #[.slice A1 n1 c1, .bool g1, .slice B1 m1 d1] 27 (by simp))
  refine wp_region_T [(0, 0)] (by kernel_rfl) fun wd hb => ?_
  replace E := hid (E.out.trans hb)
  replace BX0 := hid (BX0.out.up hb)
  clear hb
  have EY := hid (Ext.refl wd)
  refine WE.pure (d := some 3) rfl rfl (by rfl) (v := (.int .i64 (0))) (fun w' hk => by go_simp) ?_
  simp only [Act.put, pA, pB, pC]
  refine WE.done ?_
  go_wp2
  go_loopw [3] (fun x3 wr => ∃ (k : Nat), x3 = .int .i64 (k : Int) ∧ k ≤ n1 ∧ (∀ x ∈ ls.take k, (decide (x.2.2.length ≤ 4) && decide (x.1 ≤ 100)) = true) ∧ Ext w wr ∧ Box wr w.heap.size #[.slice A1 n1 c1, .bool g1, .slice B1 m1 d1] 27) (fun x3 _ => n1 - (intOf x3).toNat)
  case atStart => exact ⟨0, rfl, Nat.zero_le _, fun x hx => by simp at hx, (E.out.trans EY.out), (BX0.out.up EY.out)⟩
  case round =>
    clear E EY BX0
    obtain ⟨k, rfl, hr0, hr1, hr2, hr3⟩ := hrel
    have HOK := hid hr1
    have E := hid hr2
    have BX0 := hid hr3
    clear hr1 hr2 hr3
    have EY := hid (Ext.refl wr)
    have hk := hr0
    by_cases hlt : k < n1
    · have hlt' : decide ((k : Int) < (n1 : Int)) = true := decide_eq_true (by omega)
      obtain ⟨x, hx⟩ : ∃ x, ls[k]? = some x := ⟨_, List.getElem?_eq_getElem (by rw [← HC.out.1]; exact hlt)⟩
      obtain ⟨ad, Ae, ne, ce, rfl, ka, kb, kc, kn⟩ := HL.out.get hx
      obtain ⟨xv, ge, le⟩ := x
      have HX := hid hx
      have KA := hid ka
      have KC := hid kc
      have HNE := hid (show ne = le.length ∧ ne ≤ 9223372036854775807 from kn.cnt)
      clear hx ka kb kc kn
      go_upto_region 2 with (fail)
      refine wp_region_T [(0, 0), (1, 0), (2, 0), (3, 0), (4, 0)] (by kernel_rfl) fun wd hb => ?_
      replace EY := hid (EY.out.trans hb)
      clear hb
      refine WE.pure (d := some 4) rfl rfl (by rfl) (v := (.int .i64 (k : Int))) (fun w' hk => by go_simp) ?_
      simp only [Act.put, pA, pB, pC]
      refine WE.pure (d := some 5) rfl rfl (by rfl) (v := (.pointer (some ⟨(w.heap.size), 0, none⟩))) (fun w' hk => by go_simp) ?_
      simp only [Act.put, pA, pB, pC]
      refine WE.pure (d := some 6) rfl rfl (by rfl) (v := (.slice (some ad) n1 c1)) (fun w' hk => ?_) ?_
      · have ce0 := hk.cell ((BX0.out.up EY.out).cell (o := 0) (v := .slice (some ad) n1 c1) rfl); go_simp
      simp only [Act.put, pA, pB, pC]
      refine WE.pure (d := some 7) rfl rfl (by rfl) (v := (.int .i64 (n1 : Int))) (fun w' hk => by go_simp) ?_
      simp only [Act.put, pA, pB, pC]
      refine WE.pure (d := some 8) rfl rfl (by rfl) (v := (.bool true)) (fun w' hk => by go_simp) ?_
      simp only [Act.put, pA, pB, pC]
      refine WE.done ?_
      by_cases hg : 4 < ne
      · have hgd : decide ((4 : Int) < (ne : Int)) = true := decide_eq_true (by omega)
        go_upto_region 4 with (fail)
        refine wp_region_T [(0, 0), (1, 0), (2, 0), (3, 0), (4, 0), (5, 0), (6, 0), (7, 0), (8, 0), (9, 0), (10, 0), (11, 0), (12, 0), (13, 0), (14, 0), (15, 0), (16, 0), (17, 0)] (by kernel_rfl) fun wd hb => ?_
        replace EY := hid (EY.out.trans hb)
        clear hb
        refine WE.pure (d := some 11) rfl rfl (by rfl) (v := (.pointer (some ⟨(w.heap.size), 0, none⟩))) (fun w' hk => by go_simp) ?_
        simp only [Act.put, pA, pB, pC]
        refine WE.pure (d := some 12) rfl rfl (by rfl) (v := (.slice (some ad) n1 c1)) (fun w' hk => ?_) ?_
        · have ce0 := hk.cell ((BX0.out.up EY.out).cell (o := 0) (v := .slice (some ad) n1 c1) rfl); go_simp
        simp only [Act.put, pA, pB, pC]
        refine WE.pure (d := some 13) rfl rfl (by rfl) (v := (.int .i64 (k : Int))) (fun w' hk => by go_simp) ?_
        simp only [Act.put, pA, pB, pC]
        refine WE.pure (d := some 14) rfl rfl (by rfl) (v := (.pointer (some (ad.add (k * 3))))) (fun w' hk => ?_) ?_
        · go_simp
        simp only [Act.put, pA, pB, pC]
        refine WE.pure (d := some 15) rfl rfl (by rfl) (v := (.pointer (some ⟨(ad.add (k * 3)).block, (ad.add (k * 3)).off + 1, none⟩))) (fun w' hk => ?_) ?_
        · go_simp
        simp only [Act.put, pA, pB, pC]
        refine WE.pure (d := some 16) rfl rfl (by rfl) (v := (.pointer (some ⟨(ad.add (k * 3)).block, (ad.add (k * 3)).off + 2, none⟩))) (fun w' hk => ?_) ?_
        · go_simp
        simp only [Act.put, pA, pB, pC]
        refine WE.pure (d := some 17) rfl rfl (by rfl) (v := (.slice Ae ne ce)) (fun w' hk => ?_) ?_
        · have ce2 : w'.cell? ⟨(ad.add (k * 3)).block, (ad.add (k * 3)).off + 2, none⟩ = some (.slice Ae ne ce) := (KC.out.up (E.out.trans EY.out)).up hk; go_simp
        simp only [Act.put, pA, pB, pC]
        refine WE.pure (d := some 18) rfl rfl (by rfl) (v := (.int .i64 (ne : Int))) (fun w' hk => by go_simp) ?_
        simp only [Act.put, pA, pB, pC]
        refine WE.pure (d := some 19) rfl rfl (by rfl) (v := (.bool true)) (fun w' hk => by go_simp) ?_
        simp only [Act.put, pA, pB, pC]
        refine WE.pure (d := some 20) rfl rfl (by rfl) (v := (.bool true)) (fun w' hk => by go_simp) ?_
        simp only [Act.put, pA, pB, pC]
        refine WE.skip (d := some 21) rfl rfl (by rfl) ?_
        simp only [Act.put, pA, pB, pC]
        refine WE.skip (d := some 22) rfl rfl (by rfl) ?_
        simp only [Act.put, pA, pB, pC]
        refine WE.skip (d := some 23) rfl rfl (by rfl) ?_
        simp only [Act.put, pA, pB, pC]
        refine WE.skip (d := some 24) rfl rfl (by rfl) ?_
        simp only [Act.put, pA, pB, pC]
        refine WE.skip (d := some 25) rfl rfl (by rfl) ?_
        simp only [Act.put, pA, pB, pC]
        refine WE.skip (d := some 26) rfl rfl (by rfl) ?_
        simp only [Act.put, pA, pB, pC]
        refine WE.skip (d := some 27) rfl rfl (by rfl) ?_
        simp only [Act.put, pA, pB, pC]
        refine WE.pure (d := some 28) rfl rfl (by rfl) (v := (.bool true)) (fun w' hk => by go_simp) ?_
        simp only [Act.put, pA, pB, pC]
        refine WE.done ?_
        go_upto_region 5 with (fail)
        refine wp_region_T [(0, 0)] (by kernel_rfl) fun wd hb => ?_
        replace EY := hid (EY.out.trans hb)
        clear hb
        refine WE.pure (d := some 2) rfl rfl (by rfl) (v := (.bool false)) (fun w' hk => by go_simp) ?_
        simp only [Act.put, pA, pB, pC]
        refine WE.done ?_
        repeat go_step
        go_ret
        exact ⟨by rw [← HB.out, M.fewL_no (List.mem_of_getElem? HX.out) (by rw [decide_eq_false (show ¬ le.length ≤ 4 by have := HNE.out.1; omega)]; rfl)]; rfl, (E.out.trans EY.out)⟩
      have hgd : decide ((4 : Int) < (ne : Int)) = false := decide_eq_false (by omega)
      by_cases hv : 100 < xv
      · have hvd : decide ((100 : Int) < xv) = true := decide_eq_true hv
        go_upto_region 4 with (fail)
        refine wp_region_T [(0, 0), (1, 0), (2, 0), (3, 0), (4, 0), (5, 0), (6, 0), (7, 0), (8, 0), (9, 0), (10, 0), (11, 0), (12, 0), (13, 0), (14, 0), (15, 0), (16, 0), (17, 0)] (by kernel_rfl) fun wd hb => ?_
        replace EY := hid (EY.out.trans hb)
        clear hb
        refine WE.pure (d := some 11) rfl rfl (by rfl) (v := (.pointer (some ⟨(w.heap.size), 0, none⟩))) (fun w' hk => by go_simp) ?_
        simp only [Act.put, pA, pB, pC]
        refine WE.pure (d := some 12) rfl rfl (by rfl) (v := (.slice (some ad) n1 c1)) (fun w' hk => ?_) ?_
        · have ce0 := hk.cell ((BX0.out.up EY.out).cell (o := 0) (v := .slice (some ad) n1 c1) rfl); go_simp
        simp only [Act.put, pA, pB, pC]
        refine WE.pure (d := some 13) rfl rfl (by rfl) (v := (.int .i64 (k : Int))) (fun w' hk => by go_simp) ?_
        simp only [Act.put, pA, pB, pC]
        refine WE.pure (d := some 14) rfl rfl (by rfl) (v := (.pointer (some (ad.add (k * 3))))) (fun w' hk => ?_) ?_
        · go_simp
        simp only [Act.put, pA, pB, pC]
        refine WE.pure (d := some 15) rfl rfl (by rfl) (v := (.pointer (some ⟨(ad.add (k * 3)).block, (ad.add (k * 3)).off + 1, none⟩))) (fun w' hk => ?_) ?_
        · go_simp
        simp only [Act.put, pA, pB, pC]
        refine WE.pure (d := some 16) rfl rfl (by rfl) (v := (.pointer (some ⟨(ad.add (k * 3)).block, (ad.add (k * 3)).off + 2, none⟩))) (fun w' hk => ?_) ?_
        · go_simp
        simp only [Act.put, pA, pB, pC]
        refine WE.pure (d := some 17) rfl rfl (by rfl) (v := (.slice Ae ne ce)) (fun w' hk => ?_) ?_
        · have ce2 : w'.cell? ⟨(ad.add (k * 3)).block, (ad.add (k * 3)).off + 2, none⟩ = some (.slice Ae ne ce) := (KC.out.up (E.out.trans EY.out)).up hk; go_simp
        simp only [Act.put, pA, pB, pC]
        refine WE.pure (d := some 18) rfl rfl (by rfl) (v := (.int .i64 (ne : Int))) (fun w' hk => by go_simp) ?_
        simp only [Act.put, pA, pB, pC]
        refine WE.pure (d := some 19) rfl rfl (by rfl) (v := (.bool false)) (fun w' hk => by go_simp) ?_
        simp only [Act.put, pA, pB, pC]
        refine WE.pure (d := some 20) rfl rfl (by rfl) (v := (.bool false)) (fun w' hk => by go_simp) ?_
        simp only [Act.put, pA, pB, pC]
        refine WE.pure (d := some 21) rfl rfl (by rfl) (v := (.pointer (some ⟨(w.heap.size), 0, none⟩))) (fun w' hk => by go_simp) ?_
        simp only [Act.put, pA, pB, pC]
        refine WE.pure (d := some 22) rfl rfl (by rfl) (v := (.slice (some ad) n1 c1)) (fun w' hk => ?_) ?_
        · have ce0 := hk.cell ((BX0.out.up EY.out).cell (o := 0) (v := .slice (some ad) n1 c1) rfl); go_simp
        simp only [Act.put, pA, pB, pC]
        refine WE.pure (d := some 23) rfl rfl (by rfl) (v := (.int .i64 (k : Int))) (fun w' hk => by go_simp) ?_
        simp only [Act.put, pA, pB, pC]
        refine WE.pure (d := some 24) rfl rfl (by rfl) (v := (.pointer (some (ad.add (k * 3))))) (fun w' hk => ?_) ?_
        · go_simp
        simp only [Act.put, pA, pB, pC]
        refine WE.pure (d := some 25) rfl rfl (by rfl) (v := (.pointer (some (ad.add (k * 3))))) (fun w' hk => ?_) ?_
        · go_simp
        simp only [Act.put, pA, pB, pC]
        refine WE.pure (d := some 26) rfl rfl (by rfl) (v := (.int .i64 xv)) (fun w' hk => ?_) ?_
        · have ce0 : w'.cell? (ad.add (k * 3)) = some (.int .i64 xv) := (KA.out.up (E.out.trans EY.out)).up hk; go_simp
        simp only [Act.put, pA, pB, pC]
        refine WE.pure (d := some 27) rfl rfl (by rfl) (v := (.bool true)) (fun w' hk => by go_simp) ?_
        simp only [Act.put, pA, pB, pC]
        refine WE.pure (d := some 28) rfl rfl (by rfl) (v := (.bool true)) (fun w' hk => by go_simp) ?_
        simp only [Act.put, pA, pB, pC]
        refine WE.done ?_
        go_upto_region 5 with (fail)
        refine wp_region_T [(0, 0)] (by kernel_rfl) fun wd hb => ?_
        replace EY := hid (EY.out.trans hb)
        clear hb
        refine WE.pure (d := some 2) rfl rfl (by rfl) (v := (.bool false)) (fun w' hk => by go_simp) ?_
        simp only [Act.put, pA, pB, pC]
        refine WE.done ?_
        repeat go_step
        go_ret
        exact ⟨by rw [← HB.out, M.fewL_no (List.mem_of_getElem? HX.out) (by rw [Bool.and_eq_false_iff]; exact .inr (decide_eq_false (show ¬ xv ≤ 100 by omega)))]; rfl, (E.out.trans EY.out)⟩
      have hvd : decide ((100 : Int) < xv) = false := decide_eq_false hv
      go_upto_region 4 with (fail)
      refine wp_region_T [(0, 0), (1, 0), (2, 0), (3, 0), (4, 0), (5, 0), (6, 0), (7, 0), (8, 0), (9, 0), (10, 0), (11, 0), (12, 0), (13, 0), (14, 0), (15, 0), (16, 0), (17, 0)] (by kernel_rfl) fun wd hb => ?_
      replace EY := hid (EY.out.trans hb)
      clear hb
      refine WE.pure (d := some 11) rfl rfl (by rfl) (v := (.pointer (some ⟨(w.heap.size), 0, none⟩))) (fun w' hk => by go_simp) ?_
      simp only [Act.put, pA, pB, pC]
      refine WE.pure (d := some 12) rfl rfl (by rfl) (v := (.slice (some ad) n1 c1)) (fun w' hk => ?_) ?_
      · have ce0 := hk.cell ((BX0.out.up EY.out).cell (o := 0) (v := .slice (some ad) n1 c1) rfl); go_simp
      simp only [Act.put, pA, pB, pC]
      refine WE.pure (d := some 13) rfl rfl (by rfl) (v := (.int .i64 (k : Int))) (fun w' hk => by go_simp) ?_
      simp only [Act.put, pA, pB, pC]
      refine WE.pure (d := some 14) rfl rfl (by rfl) (v := (.pointer (some (ad.add (k * 3))))) (fun w' hk => ?_) ?_
      · go_simp
      simp only [Act.put, pA, pB, pC]
      refine WE.pure (d := some 15) rfl rfl (by rfl) (v := (.pointer (some ⟨(ad.add (k * 3)).block, (ad.add (k * 3)).off + 1, none⟩))) (fun w' hk => ?_) ?_
      · go_simp
      simp only [Act.put, pA, pB, pC]
      refine WE.pure (d := some 16) rfl rfl (by rfl) (v := (.pointer (some ⟨(ad.add (k * 3)).block, (ad.add (k * 3)).off + 2, none⟩))) (fun w' hk => ?_) ?_
      · go_simp
      simp only [Act.put, pA, pB, pC]
      refine WE.pure (d := some 17) rfl rfl (by rfl) (v := (.slice Ae ne ce)) (fun w' hk => ?_) ?_
      · have ce2 : w'.cell? ⟨(ad.add (k * 3)).block, (ad.add (k * 3)).off + 2, none⟩ = some (.slice Ae ne ce) := (KC.out.up (E.out.trans EY.out)).up hk; go_simp
      simp only [Act.put, pA, pB, pC]
      refine WE.pure (d := some 18) rfl rfl (by rfl) (v := (.int .i64 (ne : Int))) (fun w' hk => by go_simp) ?_
      simp only [Act.put, pA, pB, pC]
      refine WE.pure (d := some 19) rfl rfl (by rfl) (v := (.bool false)) (fun w' hk => by go_simp) ?_
      simp only [Act.put, pA, pB, pC]
      refine WE.pure (d := some 20) rfl rfl (by rfl) (v := (.bool false)) (fun w' hk => by go_simp) ?_
      simp only [Act.put, pA, pB, pC]
      refine WE.pure (d := some 21) rfl rfl (by rfl) (v := (.pointer (some ⟨(w.heap.size), 0, none⟩))) (fun w' hk => by go_simp) ?_
      simp only [Act.put, pA, pB, pC]
      refine WE.pure (d := some 22) rfl rfl (by rfl) (v := (.slice (some ad) n1 c1)) (fun w' hk => ?_) ?_
      · have ce0 := hk.cell ((BX0.out.up EY.out).cell (o := 0) (v := .slice (some ad) n1 c1) rfl); go_simp
      simp only [Act.put, pA, pB, pC]
      refine WE.pure (d := some 23) rfl rfl (by rfl) (v := (.int .i64 (k : Int))) (fun w' hk => by go_simp) ?_
      simp only [Act.put, pA, pB, pC]
      refine WE.pure (d := some 24) rfl rfl (by rfl) (v := (.pointer (some (ad.add (k * 3))))) (fun w' hk => ?_) ?_
      · go_simp
      simp only [Act.put, pA, pB, pC]
      refine WE.pure (d := some 25) rfl rfl (by rfl) (v := (.pointer (some (ad.add (k * 3))))) (fun w' hk => ?_) ?_
      · go_simp
      simp only [Act.put, pA, pB, pC]
      refine WE.pure (d := some 26) rfl rfl (by rfl) (v := (.int .i64 xv)) (fun w' hk => ?_) ?_
      · have ce0 : w'.cell? (ad.add (k * 3)) = some (.int .i64 xv) := (KA.out.up (E.out.trans EY.out)).up hk; go_simp
      simp only [Act.put, pA, pB, pC]
      refine WE.pure (d := some 27) rfl rfl (by rfl) (v := (.bool false)) (fun w' hk => by go_simp) ?_
      simp only [Act.put, pA, pB, pC]
      refine WE.pure (d := some 28) rfl rfl (by rfl) (v := (.bool false)) (fun w' hk => by go_simp) ?_
      simp only [Act.put, pA, pB, pC]
      refine WE.done ?_
      go_wp2
      go_roundw
      case rel => exact ⟨k + 1, by go_num, by omega, fun y hy => by rw [List.take_add_one, HX.out, Option.toList_some] at hy; rcases List.mem_append.1 hy with hy | hy; exact HOK.out y hy; simp only [List.mem_singleton] at hy; subst hy; show (decide (le.length ≤ 4) && decide (xv ≤ 100)) = true; rw [decide_eq_true (show le.length ≤ 4 by have := HNE.out.1; omega), decide_eq_true (show xv ≤ 100 by omega)]; rfl, (E.out.trans EY.out), (BX0.out.up EY.out)⟩
      case measure => simp [intOf]; all_goals omega
    · obtain rfl : k = n1 := by omega
      have hlt' : decide ((k : Int) < (k : Int)) = false := by simp
      go_upto_region 2 with (fail)
      refine wp_region_T [(0, 0), (1, 0), (2, 0), (3, 0), (4, 0)] (by kernel_rfl) fun wd hb => ?_
      replace EY := hid (EY.out.trans hb)
      clear hb
      refine WE.pure (d := some 4) rfl rfl (by rfl) (v := (.int .i64 (k : Int))) (fun w' hk => by go_simp) ?_
      simp only [Act.put, pA, pB, pC]
      refine WE.pure (d := some 5) rfl rfl (by rfl) (v := (.pointer (some ⟨(w.heap.size), 0, none⟩))) (fun w' hk => by go_simp) ?_
      simp only [Act.put, pA, pB, pC]
      refine WE.pure (d := some 6) rfl rfl (by rfl) (v := (.slice A1 k c1)) (fun w' hk => ?_) ?_
      · have ce0 := hk.cell ((BX0.out.up EY.out).cell (o := 0) (v := .slice A1 k c1) rfl); go_simp
      simp only [Act.put, pA, pB, pC]
      refine WE.pure (d := some 7) rfl rfl (by rfl) (v := (.int .i64 (k : Int))) (fun w' hk => by go_simp) ?_
      simp only [Act.put, pA, pB, pC]
      refine WE.pure (d := some 8) rfl rfl (by rfl) (v := (.bool false)) (fun w' hk => by go_simp) ?_
      simp only [Act.put, pA, pB, pC]
      refine WE.done ?_
      have HALL := hid (show ∀ x ∈ ls, (decide (x.2.2.length ≤ 4) && decide (x.1 ≤ 100)) = true from fun x hx => HOK.out x (by rw [HC.out.1, List.take_length]; exact hx))
      have HFEW := hid (show (decide (ls.length ≤ 8) && decide (l1.length ≤ 4)) = b by rw [← HB.out]; unfold M.fewL; rw [List.all_eq_true.2 HALL.out, Bool.true_and])
      by_cases h8 : k ≤ 8
      · have h8d : decide ((k : Int) ≤ 8) = true := decide_eq_true (by omega)
        obtain ⟨b4, hb4⟩ : ∃ b : Bool, decide ((m1 : Int) ≤ 4) = b := ⟨_, rfl⟩
        go_upto_region 6 with (fail)
        refine wp_region_T [(0, 0), (1, 0), (2, 0), (3, 0), (4, 0), (5, 0), (6, 0), (7, 0), (8, 0), (9, 0), (10, 0), (11, 0)] (by kernel_rfl) fun wd hb => ?_
        replace EY := hid (EY.out.trans hb)
        clear hb
        refine WE.pure (d := some 29) rfl rfl (by rfl) (v := (.pointer (some ⟨(w.heap.size), 0, none⟩))) (fun w' hk => by go_simp) ?_
        simp only [Act.put, pA, pB, pC]
        refine WE.pure (d := some 30) rfl rfl (by rfl) (v := (.slice A1 k c1)) (fun w' hk => ?_) ?_
        · have ce0 := hk.cell ((BX0.out.up EY.out).cell (o := 0) (v := .slice A1 k c1) rfl); go_simp
        simp only [Act.put, pA, pB, pC]
        refine WE.pure (d := some 31) rfl rfl (by rfl) (v := (.int .i64 (k : Int))) (fun w' hk => by go_simp) ?_
        simp only [Act.put, pA, pB, pC]
        refine WE.pure (d := some 32) rfl rfl (by rfl) (v := (.bool true)) (fun w' hk => by go_simp) ?_
        simp only [Act.put, pA, pB, pC]
        refine WE.pure (d := some 33) rfl rfl (by rfl) (v := (.bool true)) (fun w' hk => by go_simp) ?_
        simp only [Act.put, pA, pB, pC]
        refine WE.pure (d := some 34) rfl rfl (by rfl) (v := (.pointer (some ⟨(w.heap.size), 1, none⟩))) (fun w' hk => by go_simp) ?_
        simp only [Act.put, pA, pB, pC]
        refine WE.pure (d := some 35) rfl rfl (by rfl) (v := (.pointer (some ⟨(w.heap.size), 2, none⟩))) (fun w' hk => by go_simp) ?_
        simp only [Act.put, pA, pB, pC]
        refine WE.pure (d := some 36) rfl rfl (by rfl) (v := (.slice B1 m1 d1)) (fun w' hk => ?_) ?_
        · have ce2 := hk.cell ((BX0.out.up EY.out).cell (o := 2) (v := .slice B1 m1 d1) rfl); go_simp
        simp only [Act.put, pA, pB, pC]
        refine WE.pure (d := some 37) rfl rfl (by rfl) (v := (.int .i64 (m1 : Int))) (fun w' hk => by go_simp) ?_
        simp only [Act.put, pA, pB, pC]
        refine WE.pure (d := some 38) rfl rfl (by rfl) (v := (.bool b4)) (fun w' hk => by go_simp) ?_
        simp only [Act.put, pA, pB, pC]
        refine WE.pure (d := some 39) rfl rfl (by rfl) (v := (.bool b4)) (fun w' hk => by go_simp) ?_
        simp only [Act.put, pA, pB, pC]
        refine WE.pure (d := some 2) rfl rfl (by rfl) (v := (.bool b4)) (fun w' hk => by go_simp) ?_
        simp only [Act.put, pA, pB, pC]
        refine WE.done ?_
        repeat go_step
        go_ret
        have hbb : b = b4 := by rw [← HFEW.out, decide_eq_true (by have := HC.out.1; omega), Bool.true_and, ← hb4, Bool.eq_iff_iff, decide_eq_true_iff, decide_eq_true_iff]; have := HK.out.1; omega
        exact ⟨by rw [hbb]; rfl, (E.out.trans EY.out)⟩
      · have h8d : decide ((k : Int) ≤ 8) = false := decide_eq_false (by omega)
        go_upto_region 6 with (fail)
        refine wp_region_T [(0, 0), (1, 0), (2, 0), (3, 0), (4, 0), (5, 0), (6, 0), (7, 0), (8, 0), (9, 0), (10, 0), (11, 0)] (by kernel_rfl) fun wd hb => ?_
        replace EY := hid (EY.out.trans hb)
        clear hb
        refine WE.pure (d := some 29) rfl rfl (by rfl) (v := (.pointer (some ⟨(w.heap.size), 0, none⟩))) (fun w' hk => by go_simp) ?_
        simp only [Act.put, pA, pB, pC]
        refine WE.pure (d := some 30) rfl rfl (by rfl) (v := (.slice A1 k c1)) (fun w' hk => ?_) ?_
        · have ce0 := hk.cell ((BX0.out.up EY.out).cell (o := 0) (v := .slice A1 k c1) rfl); go_simp
        simp only [Act.put, pA, pB, pC]
        refine WE.pure (d := some 31) rfl rfl (by rfl) (v := (.int .i64 (k : Int))) (fun w' hk => by go_simp) ?_
        simp only [Act.put, pA, pB, pC]
        refine WE.pure (d := some 32) rfl rfl (by rfl) (v := (.bool false)) (fun w' hk => by go_simp) ?_
        simp only [Act.put, pA, pB, pC]
        refine WE.pure (d := some 33) rfl rfl (by rfl) (v := (.bool false)) (fun w' hk => by go_simp) ?_
        simp only [Act.put, pA, pB, pC]
        refine WE.skip (d := some 34) rfl rfl (by rfl) ?_
        simp only [Act.put, pA, pB, pC]
        refine WE.skip (d := some 35) rfl rfl (by rfl) ?_
        simp only [Act.put, pA, pB, pC]
        refine WE.skip (d := some 36) rfl rfl (by rfl) ?_
        simp only [Act.put, pA, pB, pC]
        refine WE.skip (d := some 37) rfl rfl (by rfl) ?_
        simp only [Act.put, pA, pB, pC]
        refine WE.skip (d := some 38) rfl rfl (by rfl) ?_
        simp only [Act.put, pA, pB, pC]
        refine WE.pure (d := some 39) rfl rfl (by rfl) (v := (.bool false)) (fun w' hk => by go_simp) ?_
        simp only [Act.put, pA, pB, pC]
        refine WE.pure (d := some 2) rfl rfl (by rfl) (v := (.bool false)) (fun w' hk => by go_simp) ?_
        simp only [Act.put, pA, pB, pC]
        refine WE.done ?_
        repeat go_step
        go_ret
        exact ⟨by rw [← HFEW.out, decide_eq_false (by have := HC.out.1; omega)]; rfl, (E.out.trans EY.out)⟩

set_option maxHeartbeats 4000000 in
theorem fewP_any {w : World} {A1 : Option Addr} {n1 c1 : Nat} {xs : List (Bool × List Nat)} (h1 : ZList w (.slice A1 n1 c1) xs) {b : Bool} (hb : M.fewP xs = b) :
    Calls Tryz.prog 9 #[.slice A1 n1 c1] w (GivesB w b) := by
  have HL := hid h1
  have HC := hid h1.count
  have HB := hid hb
  have hb9 : n1 ≤ 9223372036854775807 := h1.count.2.2
  clear h1 hb
  go_enter Tryz.func9, Tryz.ntmps9
  go_upto_region 1 with (fail)
  have E := hid (Ext.refl w)
  refine wp_region_T [(0, 0)] (by kernel_rfl) fun wd hb => ?_
  replace E := hid (E.out.trans hb)
  clear hb
  have EY := hid (Ext.refl wd)
  refine WE.pure (d := some 3) rfl rfl (by rfl) (v := (.int .i64 (0))) (fun w' hk => by go_simp) ?_
  simp only [Act.put, pA, pB, pC]
  refine WE.done ?_
  go_wp2
  go_loopw [3] (fun x3 wr => ∃ (k : Nat), x3 = .int .i64 (k : Int) ∧ k ≤ n1 ∧ (∀ x ∈ xs.take k, decide (x.2.length ≤ 4) = true) ∧ Ext w wr) (fun x3 _ => n1 - (intOf x3).toNat)
  case atStart => exact ⟨0, rfl, Nat.zero_le _, fun x hx => by simp at hx, (E.out.trans EY.out)⟩
  case round =>
    clear E EY
    obtain ⟨k, rfl, hr0, hr1, hr2⟩ := hrel
    have HOK := hid hr1
    have E := hid hr2
    clear hr1 hr2
    have EY := hid (Ext.refl wr)
    have hk := hr0
    by_cases hlt : k < n1
    · have hlt' : decide ((k : Int) < (n1 : Int)) = true := decide_eq_true (by omega)
      obtain ⟨x, hx⟩ : ∃ x, xs[k]? = some x := ⟨_, List.getElem?_eq_getElem (by rw [← HC.out.1]; exact hlt)⟩
      obtain ⟨ad, Ae, ne, ce, rfl, kb, kc, kn⟩ := HL.out.get hx
      obtain ⟨ge, le⟩ := x
      have HX := hid hx
      have KC := hid kc
      have HNE := hid (show ne = le.length ∧ ne ≤ 9223372036854775807 from kn.cnt)
      clear hx kb kc kn
      go_upto_region 2 with (fail)
      refine wp_region_T [(0, 0), (1, 0), (2, 0), (3, 0)] (by kernel_rfl) fun wd hb => ?_
      replace EY := hid (EY.out.trans hb)
      clear hb
      refine WE.pure (d := some 4) rfl rfl (by rfl) (v := (.int .i64 (k : Int))) (fun w' hk => by go_simp) ?_
      simp only [Act.put, pA, pB, pC]
      refine WE.pure (d := some 5) rfl rfl (by rfl) (v := (.slice (some ad) n1 c1)) (fun w' hk => by go_simp) ?_
      simp only [Act.put, pA, pB, pC]
      refine WE.pure (d := some 6) rfl rfl (by rfl) (v := (.int .i64 (n1 : Int))) (fun w' hk => by go_simp) ?_
      simp only [Act.put, pA, pB, pC]
      refine WE.pure (d := some 7) rfl rfl (by rfl) (v := (.bool true)) (fun w' hk => by go_simp) ?_
      simp only [Act.put, pA, pB, pC]
      refine WE.done ?_
      by_cases hg : 4 < ne
      · have hgd : decide ((4 : Int) < (ne : Int)) = true := decide_eq_true (by omega)
        go_upto_region 4 with (fail)
        refine wp_region_T [(0, 0), (1, 0), (2, 0), (3, 0), (4, 0), (5, 0), (6, 0)] (by kernel_rfl) fun wd hb => ?_
        replace EY := hid (EY.out.trans hb)
        clear hb
        refine WE.pure (d := some 10) rfl rfl (by rfl) (v := (.slice (some ad) n1 c1)) (fun w' hk => by go_simp) ?_
        simp only [Act.put, pA, pB, pC]
        refine WE.pure (d := some 11) rfl rfl (by rfl) (v := (.int .i64 (k : Int))) (fun w' hk => by go_simp) ?_
        simp only [Act.put, pA, pB, pC]
        refine WE.pure (d := some 12) rfl rfl (by rfl) (v := (.pointer (some (ad.add (k * 2))))) (fun w' hk => ?_) ?_
        · go_simp
        simp only [Act.put, pA, pB, pC]
        refine WE.pure (d := some 13) rfl rfl (by rfl) (v := (.pointer (some ⟨(ad.add (k * 2)).block, (ad.add (k * 2)).off + 1, none⟩))) (fun w' hk => ?_) ?_
        · go_simp
        simp only [Act.put, pA, pB, pC]
        refine WE.pure (d := some 14) rfl rfl (by rfl) (v := (.slice Ae ne ce)) (fun w' hk => ?_) ?_
        · have ce1 : w'.cell? ⟨(ad.add (k * 2)).block, (ad.add (k * 2)).off + 1, none⟩ = some (.slice Ae ne ce) := (KC.out.up (E.out.trans EY.out)).up hk; go_simp
        simp only [Act.put, pA, pB, pC]
        refine WE.pure (d := some 15) rfl rfl (by rfl) (v := (.int .i64 (ne : Int))) (fun w' hk => by go_simp) ?_
        simp only [Act.put, pA, pB, pC]
        refine WE.pure (d := some 16) rfl rfl (by rfl) (v := (.bool true)) (fun w' hk => by go_simp) ?_
        simp only [Act.put, pA, pB, pC]
        refine WE.done ?_
        go_upto_region 5 with (fail)
        refine wp_region_T [(0, 0)] (by kernel_rfl) fun wd hb => ?_
        replace EY := hid (EY.out.trans hb)
        clear hb
        refine WE.pure (d := some 2) rfl rfl (by rfl) (v := (.bool false)) (fun w' hk => by go_simp) ?_
        simp only [Act.put, pA, pB, pC]
        refine WE.done ?_
        repeat go_step
        go_ret
        exact ⟨by rw [← HB.out, M.fewP_no (List.mem_of_getElem? HX.out) (decide_eq_false (show ¬ le.length ≤ 4 by have := HNE.out.1; omega))]; rfl, (E.out.trans EY.out)⟩
      have hgd : decide ((4 : Int) < (ne : Int)) = false := decide_eq_false (by omega)
      go_upto_region 4 with (fail)
      refine wp_region_T [(0, 0), (1, 0), (2, 0), (3, 0), (4, 0), (5, 0), (6, 0)] (by kernel_rfl) fun wd hb => ?_
      replace EY := hid (EY.out.trans hb)
      clear hb
      refine WE.pure (d := some 10) rfl rfl (by rfl) (v := (.slice (some ad) n1 c1)) (fun w' hk => by go_simp) ?_
      simp only [Act.put, pA, pB, pC]
      refine WE.pure (d := some 11) rfl rfl (by rfl) (v := (.int .i64 (k : Int))) (fun w' hk => by go_simp) ?_
      simp only [Act.put, pA, pB, pC]
      refine WE.pure (d := some 12) rfl rfl (by rfl) (v := (.pointer (some (ad.add (k * 2))))) (fun w' hk => ?_) ?_
      · go_simp
      simp only [Act.put, pA, pB, pC]
      refine WE.pure (d := some 13) rfl rfl (by rfl) (v := (.pointer (some ⟨(ad.add (k * 2)).block, (ad.add (k * 2)).off + 1, none⟩))) (fun w' hk => ?_) ?_
      · go_simp
      simp only [Act.put, pA, pB, pC]
      refine WE.pure (d := some 14) rfl rfl (by rfl) (v := (.slice Ae ne ce)) (fun w' hk => ?_) ?_
      · have ce1 : w'.cell? ⟨(ad.add (k * 2)).block, (ad.add (k * 2)).off + 1, none⟩ = some (.slice Ae ne ce) := (KC.out.up (E.out.trans EY.out)).up hk; go_simp
      simp only [Act.put, pA, pB, pC]
      refine WE.pure (d := some 15) rfl rfl (by rfl) (v := (.int .i64 (ne : Int))) (fun w' hk => by go_simp) ?_
      simp only [Act.put, pA, pB, pC]
      refine WE.pure (d := some 16) rfl rfl (by rfl) (v := (.bool false)) (fun w' hk => by go_simp) ?_
      simp only [Act.put, pA, pB, pC]
      refine WE.done ?_
      go_wp2
      go_roundw
      case rel => exact ⟨k + 1, by go_num, by omega, fun y hy => by rw [List.take_add_one, HX.out, Option.toList_some] at hy; rcases List.mem_append.1 hy with hy | hy; exact HOK.out y hy; simp only [List.mem_singleton] at hy; subst hy; exact decide_eq_true (show le.length ≤ 4 by have := HNE.out.1; omega), (E.out.trans EY.out)⟩
      case measure => simp [intOf]; all_goals omega
    · obtain rfl : k = n1 := by omega
      have hlt' : decide ((k : Int) < (k : Int)) = false := by simp
      go_upto_region 2 with (fail)
      refine wp_region_T [(0, 0), (1, 0), (2, 0), (3, 0)] (by kernel_rfl) fun wd hb => ?_
      replace EY := hid (EY.out.trans hb)
      clear hb
      refine WE.pure (d := some 4) rfl rfl (by rfl) (v := (.int .i64 (k : Int))) (fun w' hk => by go_simp) ?_
      simp only [Act.put, pA, pB, pC]
      refine WE.pure (d := some 5) rfl rfl (by rfl) (v := (.slice A1 k c1)) (fun w' hk => by go_simp) ?_
      simp only [Act.put, pA, pB, pC]
      refine WE.pure (d := some 6) rfl rfl (by rfl) (v := (.int .i64 (k : Int))) (fun w' hk => by go_simp) ?_
      simp only [Act.put, pA, pB, pC]
      refine WE.pure (d := some 7) rfl rfl (by rfl) (v := (.bool false)) (fun w' hk => by go_simp) ?_
      simp only [Act.put, pA, pB, pC]
      refine WE.done ?_
      have HALL := hid (show ∀ x ∈ xs, decide (x.2.length ≤ 4) = true from fun x hx => HOK.out x (by rw [HC.out.1, List.take_length]; exact hx))
      obtain ⟨b4, hb4⟩ : ∃ b : Bool, decide ((k : Int) ≤ 12) = b := ⟨_, rfl⟩
      go_upto_region 6 with (fail)
      refine wp_region_T [(0, 0), (1, 0), (2, 0), (3, 0)] (by kernel_rfl) fun wd hb => ?_
      replace EY := hid (EY.out.trans hb)
      clear hb
      refine WE.pure (d := some 17) rfl rfl (by rfl) (v := (.slice A1 k c1)) (fun w' hk => by go_simp) ?_
      simp only [Act.put, pA, pB, pC]
      refine WE.pure (d := some 18) rfl rfl (by rfl) (v := (.int .i64 (k : Int))) (fun w' hk => by go_simp) ?_
      simp only [Act.put, pA, pB, pC]
      refine WE.pure (d := some 19) rfl rfl (by rfl) (v := (.bool b4)) (fun w' hk => by go_simp) ?_
      simp only [Act.put, pA, pB, pC]
      refine WE.pure (d := some 2) rfl rfl (by rfl) (v := (.bool b4)) (fun w' hk => by go_simp) ?_
      simp only [Act.put, pA, pB, pC]
      refine WE.done ?_
      repeat go_step
      go_ret
      have hbb : b = b4 := by rw [← HB.out, ← hb4]; unfold M.fewP; rw [List.all_eq_true.2 HALL.out, Bool.true_and, Bool.eq_iff_iff, decide_eq_true_iff, decide_eq_true_iff]; have := HC.out.1; omega
      exact ⟨by rw [hbb]; rfl, (E.out.trans EY.out)⟩

theorem zlist3 {w : World} {g : Nat} {T : TypeId} {g0 g1 g2 : Bool} {A0 A1 A2 : Option Addr} {n0 c0 n1 c1 n2 c2 : Nat} {l0 l1 l2 : List Nat} (hb : Box w g #[.bool g0, .slice A0 n0 c0, .bool g1, .slice A1 n1 c1, .bool g2, .slice A2 n2 c2] T) (h0 : Num w w.heap.size (.slice A0 n0 c0) l0) (h1 : Num w w.heap.size (.slice A1 n1 c1) l1) (h2 : Num w w.heap.size (.slice A2 n2 c2) l2) :
    ZList w (.slice (some ⟨g, 0, none⟩) 3 3) [(g0, l0), (g1, l1), (g2, l2)] := by
  refine ⟨_, _, _, rfl, rfl, Nat.le_refl _, by unfold maxLen; omega, fun k x hk => ⟨_, rfl, hb.lt, ?_⟩⟩
  rcases k with _ | _ | _ | k
  · simp at hk; subst hk
    exact ⟨_, _, _, by rw [Addr.add_lit]; exact hb.cell rfl, by rw [Addr.add_lit, Addr.add_lit]; exact hb.cell rfl, h0⟩
  · simp at hk; subst hk
    exact ⟨_, _, _, by rw [Addr.add_lit]; exact hb.cell rfl, by rw [Addr.add_lit, Addr.add_lit]; exact hb.cell rfl, h1⟩
  · simp at hk; subst hk
    exact ⟨_, _, _, by rw [Addr.add_lit]; exact hb.cell rfl, by rw [Addr.add_lit, Addr.add_lit]; exact hb.cell rfl, h2⟩
  · simp at hk

set_option maxHeartbeats 8000000 in
theorem known6 (w : World) :
    Calls Tryz.prog 7 #[] w (GivesB w true) := by
  go_enter Tryz.func7, Tryz.ntmps7
  go_upto_region 1 with (fail)
  have E := hid (Ext.refl w)
  refine wp_region_T [(0, 1), (1, 1), (2, 4)] (by kernel_rfl) fun wd hb => ?_
  replace E := hid (E.out.trans hb)
  clear hb
  have EY := hid (Ext.refl wd)
  refine WE.call (d := some 4) rfl rfl (by rfl) (by go_simp) ((varL_l (v := 2)).mono ?_)
  rintro e wn ⟨v1, rfl, x1, hb⟩
  obtain ⟨A11, n11, c11, g11, B11, m11, d11, rfl⟩ := x1.shape
  replace x1 := IsL.to (s := [(2, 1)]) (μ := 0) x1 (by decide) rfl
  refine ⟨_, rfl, hb, ?_⟩
  replace EY := hid (EY.out.trans hb)
  have S11 := hid x1
  clear hb x1
  simp only [Act.put, pA, pB, pC]
  refine WE.new (d := some 1) (cs := #[.slice none 0 0, .bool false, .slice none 0 0]) (t := 27) (v := fun g => (.pointer (some ⟨g, 0, none⟩))) rfl rfl (by rfl) (fun w => by go_simp) fun gV1 wv hx0 hbox hge => ?_
  have HGV1 := hid (show w.heap.size ≤ gV1 by have := (E.out.trans EY.out).size; omega)
  replace EY := hid (EY.out.trans hx0)
  replace S11 := hid (S11.out.up hx0)
  have V1 : Hid (Box wv gV1 #[.slice none 0 0, .bool false, .slice none 0 0] 27) := hid hbox
  clear hx0 hbox hge
  simp only [Act.put, pA, pB, pC]
  refine WE.store3 (g := gV1) (x := .slice A11 n11 c11) (y := .bool g11) (z := .slice B11 m11 d11) (t := 27) rfl rfl (by rfl) (fun w hb => ?_) V1.out (by rfl) fun ws hk hs => ?_
  · obtain ⟨ce0, ce1, ce2⟩ := hb.c3; obtain ⟨f0, f1, f2⟩ := hb.f3; go_simp
  intro hbx
  replace S11 := hid (S11.out.kb V1.out (by rfl) hk hs)
  replace E := hid ((E.out.trans EY.out).keptG hk HGV1.out)
  replace V1 := hid hbx
  clear hk hs hbx
  replace EY := hid (Ext.refl ws)
  refine WE.done ?_
  go_upto_region 2 with (fail)
  refine wp_region_E [(0, 0), (1, 2), (2, 2), (3, 2), (4, 2), (5, 2), (6, 3), (7, 4)] (fun _ => (27, #[.slice none 0 0, .bool false, .slice none 0 0])) rfl (by kernel_rfl) (by intro j hj; simp [pend] at hj; obtain rfl := hj; exact ⟨_, rfl, rfl, rfl, fun w => by go_simp⟩) (fun _ _ d _ _ => by cases d <;> exact Iff.rfl) fun wd hb => ?_
  replace EY := hid (EY.out.trans hb)
  clear hb
  have HL1V1 := hid (V1.out.up EY.out).lt
  have HW1 := hid (show w.heap.size ≤ wd.heap.size from (E.out.trans EY.out).size)
  refine WE.pure (d := some 5) rfl rfl (by rfl) (v := (.agg #[.slice A11 n11 c11, .bool g11, .slice B11 m11 d11])) (fun w' hk => ?_) ?_
  · obtain ⟨ce0, ce1, ce2⟩ := ((V1.out.up EY.out).up hk).c3; go_simp
  simp only [Act.put, pA, pB, pC]
  refine WE.callR (d := some 6) rfl rfl (by rfl) (f := 38) (args := #[(.int .i64 (3))]) (fun w => by go_simp) (fun wx hx0 => ?_)
  replace EY := hid (EY.out.trans hx0)
  clear hx0
  refine (rOf_z (n := (3)) (by decide) (by decide) _).mono ?_
  rintro e wn ⟨v1, rfl, x1, hb⟩
  obtain ⟨g12, A12, n12, c12, rfl⟩ := x1.shape
  refine ⟨_, rfl, hb, ?_⟩
  replace EY := hid (EY.out.trans hb)
  have Q12 := hid x1
  clear hb x1
  simp only [Act.put, pA, pB, pC]
  refine WE.callR (d := some 7) rfl rfl (by rfl) (f := 23) (args := #[(.agg #[.slice A11 n11 c11, .bool g11, .slice B11 m11 d11]), (.agg #[.bool g12, .slice A12 n12 c12])]) (fun w => by go_simp) (fun wx hx0 => ?_)
  replace EY := hid (EY.out.trans hx0)
  replace Q12 := hid (Q12.out.up hx0)
  clear hx0
  refine (scaleL_l (WorthL.wide (S11.out.up EY.out).worth (U := 3) (by omega)) (Worth.wide Q12.out.worth (k := 3) (by omega)) (by omega) (by decide)).mono ?_
  rintro e wn ⟨v1, rfl, x1, hb⟩
  obtain ⟨A13, n13, c13, g13, B13, m13, d13, rfl⟩ := x1.shape
  replace x1 := IsL.to (s := [(2, 3)]) (μ := 0) x1 (by decide) (by decide)
  refine ⟨_, rfl, hb, ?_⟩
  replace EY := hid (EY.out.trans hb)
  have S13 := hid x1
  clear hb x1
  simp only [Act.put, pA, pB, pC]
  refine WE.callR (d := some 8) rfl rfl (by rfl) (f := 38) (args := #[(.int .i64 (5))]) (fun w => by go_simp) (fun wx hx0 => ?_)
  replace EY := hid (EY.out.trans hx0)
  replace S13 := hid (S13.out.up hx0)
  clear hx0
  refine (rOf_z (n := (5)) (by decide) (by decide) _).mono ?_
  rintro e wn ⟨v1, rfl, x1, hb⟩
  obtain ⟨g14, A14, n14, c14, rfl⟩ := x1.shape
  refine ⟨_, rfl, hb, ?_⟩
  replace EY := hid (EY.out.trans hb)
  replace S13 := hid (S13.out.up hb)
  have Q14 := hid x1
  clear hb x1
  simp only [Act.put, pA, pB, pC]
  refine WE.callR (d := some 9) rfl rfl (by rfl) (f := 15) (args := #[(.agg #[.bool g14, .slice A14 n14 c14])]) (fun w => by go_simp) (fun wx hx0 => ?_)
  replace EY := hid (EY.out.trans hx0)
  replace S13 := hid (S13.out.up hx0)
  replace Q14 := hid (Q14.out.up hx0)
  clear hx0
  refine (constL_l (Worth.wide Q14.out.worth (k := 3) (by omega)) (by decide)).mono ?_
  rintro e wn ⟨v1, rfl, x1, hb⟩
  obtain ⟨A15, n15, c15, g15, B15, m15, d15, rfl⟩ := x1.shape
  refine ⟨_, rfl, hb, ?_⟩
  replace EY := hid (EY.out.trans hb)
  replace S13 := hid (S13.out.up hb)
  have S15 := hid x1
  clear hb x1
  simp only [Act.put, pA, pB, pC]
  refine WE.callR (d := some 10) rfl rfl (by rfl) (f := 19) (args := #[(.agg #[.slice A13 n13 c13, .bool g13, .slice B13 m13 d13]), (.agg #[.slice A15 n15 c15, .bool g15, .slice B15 m15 d15])]) (fun w => by go_simp) (fun wx hx0 => ?_)
  replace EY := hid (EY.out.trans hx0)
  replace S13 := hid (S13.out.up hx0)
  replace S15 := hid (S15.out.up hx0)
  clear hx0
  refine (addL_l (WorthL.wide S13.out.worth (U := 6) (by omega)) (WorthL.wide S15.out.worth (U := 6) (by omega)) (by omega) (by decide) (by decide)).mono ?_
  rintro e wn ⟨v1, rfl, x1, hb⟩
  obtain ⟨A16, n16, c16, g16, B16, m16, d16, rfl⟩ := x1.shape
  replace x1 := IsL.to (s := [(2, 3)]) (μ := 5) x1 (M.addT_nil _) (by decide)
  refine ⟨_, rfl, hb, ?_⟩
  replace EY := hid (EY.out.trans hb)
  have S16 := hid x1
  clear hb x1
  simp only [Act.put, pA, pB, pC]
  refine WE.var (d := some 2) rfl fun gV2 wv hx0 hbox hge hng => ?_
  have HNV2V1 := hid (show gV2 ≠ gV1 by have := HL1V1.out; omega)
  have HGV2 := hid (show w.heap.size ≤ gV2 by have := HW1.out; omega)
  replace EY := hid (EY.out.trans hx0)
  replace S16 := hid (S16.out.up hx0)
  have V2 : Hid (Box wv gV2 #[.slice none 0 0, .bool false, .slice none 0 0] 27) := hid hbox
  clear hx0 hbox hge hng
  simp only [Act.put, pA, pB, pC]
  refine WE.store3 (g := gV2) (x := .slice A16 n16 c16) (y := .bool g16) (z := .slice B16 m16 d16) (t := 27) rfl rfl (by rfl) (fun w hb => ?_) V2.out (by rfl) fun ws hk hs => ?_
  · obtain ⟨ce0, ce1, ce2⟩ := hb.c3; obtain ⟨f0, f1, f2⟩ := hb.f3; go_simp
  intro hbx
  replace S11 := hid ((S11.out.up EY.out).kb V2.out (by rfl) hk hs)
  replace S16 := hid (S16.out.kb V2.out (by rfl) hk hs)
  replace E := hid ((E.out.trans EY.out).keptG hk HGV2.out)
  replace V1 := hid ((V1.out.up EY.out).kept hk (by simpa using HNV2V1.out.symm))
  replace V2 := hid hbx
  clear hk hs hbx
  replace EY := hid (Ext.refl ws)
  refine WE.done ?_
  go_upto_region 3 with (fail)
  refine wp_region_E [(0, 0), (1, 2), (2, 2), (3, 3), (4, 4)] (fun _ => (27, #[.slice none 0 0, .bool false, .slice none 0 0])) rfl (by kernel_rfl) (by intro j hj; simp [pend] at hj; obtain rfl := hj; exact ⟨_, rfl, rfl, rfl, fun w => by go_simp⟩) (fun _ _ d _ _ => by cases d <;> exact Iff.rfl) fun wd hb => ?_
  replace EY := hid (EY.out.trans hb)
  clear hb
  have HL2V1 := hid (V1.out.up EY.out).lt
  have HL2V2 := hid (V2.out.up EY.out).lt
  have HW2 := hid (show w.heap.size ≤ wd.heap.size from (E.out.trans EY.out).size)
  refine WE.pure (d := some 11) rfl rfl (by rfl) (v := (.agg #[.slice A16 n16 c16, .bool g16, .slice B16 m16 d16])) (fun w' hk => ?_) ?_
  · obtain ⟨ce0, ce1, ce2⟩ := ((V2.out.up EY.out).up hk).c3; go_simp
  simp only [Act.put, pA, pB, pC]
  refine WE.callR (d := some 12) rfl rfl (by rfl) (f := 17) (args := #[(.int .i64 (0))]) (fun w => by go_simp) (fun wx hx0 => ?_)
  replace EY := hid (EY.out.trans hx0)
  clear hx0
  refine (varL_l (v := 0)).mono ?_
  rintro e wn ⟨v1, rfl, x1, hb⟩
  obtain ⟨A17, n17, c17, g17, B17, m17, d17, rfl⟩ := x1.shape
  replace x1 := IsL.to (s := [(0, 1)]) (μ := 0) x1 (by decide) rfl
  refine ⟨_, rfl, hb, ?_⟩
  replace EY := hid (EY.out.trans hb)
  have S17 := hid x1
  clear hb x1
  simp only [Act.put, pA, pB, pC]
  refine WE.callR (d := some 13) rfl rfl (by rfl) (f := 28) (args := #[(.agg #[.slice A16 n16 c16, .bool g16, .slice B16 m16 d16]), (.int .i64 (2)), (.agg #[.slice A17 n17 c17, .bool g17, .slice B17 m17 d17])]) (fun w => by go_simp) (fun wx hx0 => ?_)
  replace EY := hid (EY.out.trans hx0)
  replace S17 := hid (S17.out.up hx0)
  clear hx0
  refine (putL_l (WorthL.wide (S16.out.up EY.out).worth (U := 7) (by omega)) (WorthL.wide S17.out.worth (U := 7) (by omega)) (by omega) (by decide) (by decide) (v := 2)).mono ?_
  rintro e wn ⟨v1, rfl, x1, hb⟩
  obtain ⟨A18, n18, c18, g18, B18, m18, d18, rfl⟩ := x1.shape
  replace x1 := IsL.to (s := [(0, 3)]) (μ := 5) x1 (by unfold M.putT; rw [show M.dropT [(2, 3)] 2 = [] by decide, M.nil_addT]; decide) (by decide)
  refine ⟨_, rfl, hb, ?_⟩
  replace EY := hid (EY.out.trans hb)
  have S18 := hid x1
  clear hb x1
  simp only [Act.put, pA, pB, pC]
  refine WE.var (d := some 3) rfl fun gV3 wv hx0 hbox hge hng => ?_
  have HNV3V1 := hid (show gV3 ≠ gV1 by have := HL2V1.out; omega)
  have HNV3V2 := hid (show gV3 ≠ gV2 by have := HL2V2.out; omega)
  have HGV3 := hid (show w.heap.size ≤ gV3 by have := HW2.out; omega)
  replace EY := hid (EY.out.trans hx0)
  replace S18 := hid (S18.out.up hx0)
  have V3 : Hid (Box wv gV3 #[.slice none 0 0, .bool false, .slice none 0 0] 27) := hid hbox
  clear hx0 hbox hge hng
  simp only [Act.put, pA, pB, pC]
  refine WE.store3 (g := gV3) (x := .slice A18 n18 c18) (y := .bool g18) (z := .slice B18 m18 d18) (t := 27) rfl rfl (by rfl) (fun w hb => ?_) V3.out (by rfl) fun ws hk hs => ?_
  · obtain ⟨ce0, ce1, ce2⟩ := hb.c3; obtain ⟨f0, f1, f2⟩ := hb.f3; go_simp
  intro hbx
  replace S11 := hid ((S11.out.up EY.out).kb V3.out (by rfl) hk hs)
  replace S16 := hid ((S16.out.up EY.out).kb V3.out (by rfl) hk hs)
  replace S18 := hid (S18.out.kb V3.out (by rfl) hk hs)
  replace E := hid ((E.out.trans EY.out).keptG hk HGV3.out)
  replace V1 := hid ((V1.out.up EY.out).kept hk (by simpa using HNV3V1.out.symm))
  replace V2 := hid ((V2.out.up EY.out).kept hk (by simpa using HNV3V2.out.symm))
  replace V3 := hid hbx
  clear hk hs hbx
  replace EY := hid (Ext.refl ws)
  refine WE.done ?_
  go_upto_region 4 with (fail)
  refine wp_region_X [] [(0, 0), (1, 1), (2, 0), (3, 0), (4, 1), (5, 0), (6, 6), (7, 2), (8, 0), (9, 1), (10, 0), (11, 0), (12, 0), (13, 1), (14, 1), (15, 1), (16, 0), (17, 0), (18, 0), (19, 0), (20, 0), (21, 1), (22, 1), (23, 1), (24, 1), (25, 1), (26, 0), (27, 0), (28, 0), (29, 0), (31, 0), (30, 1), (32, 1), (33, 0), (34, 0), (35, 0), (36, 1), (37, 1), (38, 1), (39, 0), (40, 0)] (fun _ => (0, #[])) rfl (by kernel_rfl) (by intro j hj; cases hj) (fun _ _ d _ _ => by cases d <;> exact Iff.rfl) fun wd hb => ?_
  replace EY := hid (EY.out.trans hb)
  clear hb
  have HL3V1 := hid (V1.out.up EY.out).lt
  have HL3V2 := hid (V2.out.up EY.out).lt
  have HL3V3 := hid (V3.out.up EY.out).lt
  refine WX.pure (d := some 14) rfl rfl (by rfl) (v := (.agg #[.slice A11 n11 c11, .bool g11, .slice B11 m11 d11])) (fun w' hk => ?_) ?_
  · obtain ⟨ce0, ce1, ce2⟩ := ((V1.out.up EY.out).up hk).c3; go_simp
  simp only [Act.put, pA, pB, pC]
  refine WX.call (d := some 15) rfl rfl (by rfl) (by go_simp) (((S11.out.up EY.out).is_yes).mono ?_)
  rintro e wn ⟨rfl, hb⟩
  refine ⟨_, rfl, hb, ?_⟩
  replace EY := hid (EY.out.trans hb)
  clear hb
  simp only [Act.put, pA, pB, pC]
  refine WX.pure (d := some 16) rfl rfl (by rfl) (v := (.bool true)) (fun w' hk => by go_simp) ?_
  simp only [Act.put, pA, pB, pC]
  refine WX.pure (d := some 17) rfl rfl (by rfl) (v := (.agg #[.slice A16 n16 c16, .bool g16, .slice B16 m16 d16])) (fun w' hk => ?_) ?_
  · obtain ⟨ce0, ce1, ce2⟩ := ((V2.out.up EY.out).up hk).c3; go_simp
  simp only [Act.put, pA, pB, pC]
  refine WX.call (d := some 18) rfl rfl (by rfl) (by go_simp) ((rOf_z (n := (3)) (by decide) (by decide) _).mono ?_)
  rintro e wn ⟨v1, rfl, x1, hb⟩
  obtain ⟨g19, A19, n19, c19, rfl⟩ := x1.shape
  refine ⟨_, rfl, hb, ?_⟩
  replace EY := hid (EY.out.trans hb)
  have Q19 := hid x1
  clear hb x1
  simp only [Act.put, pA, pB, pC]
  refine WX.pure (d := some 19) rfl rfl (by rfl) (v := (.agg #[.int .i64 (2), .bool g19, .slice A19 n19 c19])) (fun w' hk => by go_simp) ?_
  simp only [Act.put, pA, pB, pC]
  refine WX.fork ?_ ?_
  · refine WX.newR (d := some 20) (cs := #[.int .i64 (2), .bool g19, .slice A19 n19 c19]) (t := 54) (v := fun g => (.slice (some ⟨g, 0, none⟩) 1 1)) rfl rfl (by rfl) (fun w => by go_simp) fun gLM wv hx0 hbox hge => ?_
    replace EY := hid (EY.out.trans hx0)
    replace Q19 := hid (Q19.out.up hx0)
    have LM : Hid (Box wv gLM #[.int .i64 (2), .bool g19, .slice A19 n19 c19] 54) := hid hbox
    clear hx0 hbox hge
    simp only [Act.put, pA, pB, pC]
    refine WX.callR (d := some 21) rfl rfl (by rfl) (f := 38) (args := #[(.int .i64 (5))]) (fun w => by go_simp) (fun wx hx0 => ?_)
    replace EY := hid (EY.out.trans hx0)
    replace LM := hid (LM.out.up hx0)
    replace Q19 := hid (Q19.out.up hx0)
    clear hx0
    refine (rOf_z (n := (5)) (by decide) (by decide) _).mono ?_
    rintro e wn ⟨v1, rfl, x1, hb⟩
    obtain ⟨g20, A20, n20, c20, rfl⟩ := x1.shape
    refine ⟨_, rfl, hb, ?_⟩
    replace EY := hid (EY.out.trans hb)
    replace LM := hid (LM.out.up hb)
    replace Q19 := hid (Q19.out.up hb)
    have Q20 := hid x1
    clear hb x1
    simp only [Act.put, pA, pB, pC]
    refine WX.pure (d := some 22) rfl rfl (by rfl) (v := (.agg #[.slice (some ⟨gLM, 0, none⟩) 1 1, .bool g20, .slice A20 n20 c20])) (fun w' hk => by go_simp) ?_
    simp only [Act.put, pA, pB, pC]
    refine WX.call (d := some 23) rfl rfl (by rfl) (by go_simp) ((rEqualL_l (S16.out.up EY.out) (show IsL _ _ [(2, 3)] 5 3 from ⟨_, _, _, _, _, _, _, rfl, LTm.lit LM.out Q19.out, Q20.out, ⟨by decide, by decide, trivial⟩⟩) (b := true) (by decide)).mono ?_)
    rintro e wn ⟨rfl, hb⟩
    refine ⟨_, rfl, hb, ?_⟩
    replace EY := hid (EY.out.trans hb)
    replace LM := hid (LM.out.up hb)
    replace Q19 := hid (Q19.out.up hb)
    replace Q20 := hid (Q20.out.up hb)
    clear hb
    simp only [Act.put, pA, pB, pC]
    refine WX.pure (d := some 24) rfl rfl (by rfl) (v := (.bool true)) (fun w' hk => by go_simp) ?_
    simp only [Act.put, pA, pB, pC]
    refine WX.pure (d := some 25) rfl rfl (by rfl) (v := (.bool true)) (fun w' hk => by go_simp) ?_
    simp only [Act.put, pA, pB, pC]
    refine WX.pure (d := some 26) rfl rfl (by rfl) (v := (.agg #[.slice A18 n18 c18, .bool g18, .slice B18 m18 d18])) (fun w' hk => ?_) ?_
    · obtain ⟨ce0, ce1, ce2⟩ := ((V3.out.up EY.out).up hk).c3; go_simp
    simp only [Act.put, pA, pB, pC]
    refine WX.call (d := some 27) rfl rfl (by rfl) (by go_simp) ((coefL_l (WorthL.wide (S18.out.up EY.out).worth (U := 15) (by omega)) (by decide) (by omega) (v := 0)).mono ?_)
    rintro e wn ⟨v1, rfl, x1, hb⟩
    obtain ⟨g21, A21, n21, c21, rfl⟩ := x1.shape
    replace x1 := IsZ.to (Y := 3) x1 (by decide)
    refine ⟨_, rfl, hb, ?_⟩
    replace EY := hid (EY.out.trans hb)
    replace LM := hid (LM.out.up hb)
    replace Q19 := hid (Q19.out.up hb)
    replace Q20 := hid (Q20.out.up hb)
    have Q21 := hid x1
    clear hb x1
    simp only [Act.put, pA, pB, pC]
    refine WX.call (d := some 28) rfl rfl (by rfl) (by go_simp) ((rOf_z (n := (3)) (by decide) (by decide) _).mono ?_)
    rintro e wn ⟨v1, rfl, x1, hb⟩
    obtain ⟨g22, A22, n22, c22, rfl⟩ := x1.shape
    refine ⟨_, rfl, hb, ?_⟩
    replace EY := hid (EY.out.trans hb)
    replace LM := hid (LM.out.up hb)
    replace Q19 := hid (Q19.out.up hb)
    replace Q20 := hid (Q20.out.up hb)
    replace Q21 := hid (Q21.out.up hb)
    have Q22 := hid x1
    clear hb x1
    simp only [Act.put, pA, pB, pC]
    refine WX.call (d := some 29) rfl rfl (by rfl) (by go_simp) ((rEqual_any Q21.out Q22.out (b := true) (by decide)).mono ?_)
    rintro e wn ⟨rfl, hb⟩
    refine ⟨_, rfl, hb, ?_⟩
    replace EY := hid (EY.out.trans hb)
    replace LM := hid (LM.out.up hb)
    replace Q19 := hid (Q19.out.up hb)
    replace Q20 := hid (Q20.out.up hb)
    replace Q21 := hid (Q21.out.up hb)
    replace Q22 := hid (Q22.out.up hb)
    clear hb
    simp only [Act.put, pA, pB, pC]
    refine WX.pure (d := some 30) rfl rfl (by rfl) (v := (.bool true)) (fun w' hk => by go_simp) ?_
    simp only [Act.put, pA, pB, pC]
    refine WX.pure (d := some 31) rfl rfl (by rfl) (v := (.bool true)) (fun w' hk => by go_simp) ?_
    simp only [Act.put, pA, pB, pC]
    refine WX.pure (d := some 32) rfl rfl (by rfl) (v := (.agg #[.slice A16 n16 c16, .bool g16, .slice B16 m16 d16])) (fun w' hk => ?_) ?_
    · obtain ⟨ce0, ce1, ce2⟩ := ((V2.out.up EY.out).up hk).c3; go_simp
    simp only [Act.put, pA, pB, pC]
    refine WX.pure (d := some 33) rfl rfl (by rfl) (v := (.agg #[.bool false, .slice none 0 0])) (fun w' hk => by go_simp) ?_
    simp only [Act.put, pA, pB, pC]
    refine WX.pure (d := some 34) rfl rfl (by rfl) (v := (.agg #[.bool false, .slice none 0 0])) (fun w' hk => by go_simp) ?_
    simp only [Act.put, pA, pB, pC]
    refine WX.call (d := some 35) rfl rfl (by rfl) (by go_simp) ((rOf_z (n := (2)) (by decide) (by decide) _).mono ?_)
    rintro e wn ⟨v1, rfl, x1, hb⟩
    obtain ⟨g23, A23, n23, c23, rfl⟩ := x1.shape
    refine ⟨_, rfl, hb, ?_⟩
    replace EY := hid (EY.out.trans hb)
    replace LM := hid (LM.out.up hb)
    replace Q19 := hid (Q19.out.up hb)
    replace Q20 := hid (Q20.out.up hb)
    replace Q21 := hid (Q21.out.up hb)
    replace Q22 := hid (Q22.out.up hb)
    have Q23 := hid x1
    clear hb x1
    simp only [Act.put, pA, pB, pC]
    refine WX.new (d := some 36) (cs := #[.bool false, .slice none 0 0, .bool false, .slice none 0 0, .bool g23, .slice A23 n23 c23]) (t := 25) (v := fun g => (.slice (some ⟨g, 0, none⟩) 3 3)) rfl rfl (by rfl) (fun w => by go_simp) fun gLP wv hx0 hbox hge => ?_
    replace EY := hid (EY.out.trans hx0)
    replace LM := hid (LM.out.up hx0)
    replace Q19 := hid (Q19.out.up hx0)
    replace Q20 := hid (Q20.out.up hx0)
    replace Q21 := hid (Q21.out.up hx0)
    replace Q22 := hid (Q22.out.up hx0)
    replace Q23 := hid (Q23.out.up hx0)
    have LP : Hid (Box wv gLP #[.bool false, .slice none 0 0, .bool false, .slice none 0 0, .bool g23, .slice A23 n23 c23] 25) := hid hbox
    clear hx0 hbox hge
    simp only [Act.put, pA, pB, pC]
    refine WX.call (d := some 37) rfl rfl (by rfl) (by go_simp) ((atL_l (WorthL.wide (S16.out.up EY.out).worth (U := 7) (by omega)) (hp := zlist3 LP.out (Num.nil _ _) (Num.nil _ _) Q23.out.fields.2.1) (fun x hx => by have h3 := Q23.out.fields.2.2; simp at hx; rcases hx with rfl | rfl; simp; exact Nat.le_trans h3 (by decide)) (by omega) (by decide)).mono ?_)
    rintro e wn ⟨v1, rfl, x1, hb⟩
    obtain ⟨g24, A24, n24, c24, rfl⟩ := x1.shape
    replace x1 := (IsZ.to (Y := 11) x1 (by rw [M.atT_cons, M.atT_nil]; have h0 := Q23.out.fields.1; subst h0; have hz : M.zv false (M.limbs 2) = 2 := M.zv_of 2; unfold M.valAt; simp [hz])).wide (k := 16) (by decide)
    refine ⟨_, rfl, hb, ?_⟩
    replace EY := hid (EY.out.trans hb)
    replace LM := hid (LM.out.up hb)
    replace LP := hid (LP.out.up hb)
    replace Q19 := hid (Q19.out.up hb)
    replace Q20 := hid (Q20.out.up hb)
    replace Q21 := hid (Q21.out.up hb)
    replace Q22 := hid (Q22.out.up hb)
    replace Q23 := hid (Q23.out.up hb)
    have Q24 := hid x1
    clear hb x1
    simp only [Act.put, pA, pB, pC]
    refine WX.call (d := some 38) rfl rfl (by rfl) (by go_simp) ((rOf_z (n := (11)) (by decide) (by decide) _).mono ?_)
    rintro e wn ⟨v1, rfl, x1, hb⟩
    obtain ⟨g25, A25, n25, c25, rfl⟩ := x1.shape
    refine ⟨_, rfl, hb, ?_⟩
    replace EY := hid (EY.out.trans hb)
    replace LM := hid (LM.out.up hb)
    replace LP := hid (LP.out.up hb)
    replace Q19 := hid (Q19.out.up hb)
    replace Q20 := hid (Q20.out.up hb)
    replace Q21 := hid (Q21.out.up hb)
    replace Q22 := hid (Q22.out.up hb)
    replace Q23 := hid (Q23.out.up hb)
    replace Q24 := hid (Q24.out.up hb)
    have Q25 := hid x1
    clear hb x1
    simp only [Act.put, pA, pB, pC]
    refine WX.call (d := some 39) rfl rfl (by rfl) (by go_simp) ((rEqual_any Q24.out Q25.out (b := true) (by decide)).mono ?_)
    rintro e wn ⟨rfl, hb⟩
    refine ⟨_, rfl, hb, ?_⟩
    replace EY := hid (EY.out.trans hb)
    replace LM := hid (LM.out.up hb)
    replace LP := hid (LP.out.up hb)
    replace Q19 := hid (Q19.out.up hb)
    replace Q20 := hid (Q20.out.up hb)
    replace Q21 := hid (Q21.out.up hb)
    replace Q22 := hid (Q22.out.up hb)
    replace Q23 := hid (Q23.out.up hb)
    replace Q24 := hid (Q24.out.up hb)
    replace Q25 := hid (Q25.out.up hb)
    clear hb
    simp only [Act.put, pA, pB, pC]
    refine WX.pure (d := some 40) rfl rfl (by rfl) (v := (.bool true)) (fun w' hk => by go_simp) ?_
    simp only [Act.put, pA, pB, pC]
    refine WX.pure (d := some 41) rfl rfl (by rfl) (v := (.bool true)) (fun w' hk => by go_simp) ?_
    simp only [Act.put, pA, pB, pC]
    refine WX.pure (d := some 42) rfl rfl (by rfl) (v := (.agg #[.slice A16 n16 c16, .bool g16, .slice B16 m16 d16])) (fun w' hk => ?_) ?_
    · obtain ⟨ce0, ce1, ce2⟩ := ((V2.out.up EY.out).up hk).c3; go_simp
    simp only [Act.put, pA, pB, pC]
    refine WX.pure (d := some 43) rfl rfl (by rfl) (v := (.agg #[.slice A16 n16 c16, .bool g16, .slice B16 m16 d16])) (fun w' hk => ?_) ?_
    · obtain ⟨ce0, ce1, ce2⟩ := ((V2.out.up EY.out).up hk).c3; go_simp
    simp only [Act.put, pA, pB, pC]
    refine WX.pure (d := some 45) rfl rfl (by rfl) (v := (.agg #[.slice none 0 0, .bool false, .slice none 0 0])) (fun w' hk => by go_simp) ?_
    simp only [Act.put, pA, pB, pC]
    refine WX.call (d := some 44) rfl rfl (by rfl) (by go_simp) ((subL_l (WorthL.wide (S16.out.up EY.out).worth (U := 7) (by omega)) (WorthL.wide (S16.out.up EY.out).worth (U := 7) (by omega)) (by omega) (by decide) (by decide)).mono ?_)
    rintro e wn ⟨v1, rfl, x1, hb⟩
    obtain ⟨A26, n26, c26, g26, B26, m26, d26, rfl⟩ := x1.shape
    replace x1 := IsL.to (s := []) (μ := 0) x1 (by rw [show M.scaleT [(2, 3)] (-1) = [(2, -3)] by decide, M.addT_cons, if_neg (by decide), if_neg (by decide), if_pos (by decide), M.nil_addT]) (by decide)
    refine ⟨_, rfl, hb, ?_⟩
    replace EY := hid (EY.out.trans hb)
    replace LM := hid (LM.out.up hb)
    replace LP := hid (LP.out.up hb)
    replace Q19 := hid (Q19.out.up hb)
    replace Q20 := hid (Q20.out.up hb)
    replace Q21 := hid (Q21.out.up hb)
    replace Q22 := hid (Q22.out.up hb)
    replace Q23 := hid (Q23.out.up hb)
    replace Q24 := hid (Q24.out.up hb)
    replace Q25 := hid (Q25.out.up hb)
    have S26 := hid x1
    clear hb x1
    simp only [Act.put, pA, pB, pC]
    refine WX.call (d := some 46) rfl rfl (by rfl) (by go_simp) ((sameL_l (WorthL.wide S26.out.worth (U := 8) (by omega)) (WorthL.wide (show IsL _ _ _ _ _ from ⟨none, 0, 0, false, none, 0, 0, rfl, LTm.nil _ _, IsZ.nought, trivial⟩).worth (U := 8) (by omega)) (b := true) (by decide)).mono ?_)
    rintro e wn ⟨rfl, hb⟩
    refine ⟨_, rfl, hb, ?_⟩
    replace EY := hid (EY.out.trans hb)
    replace LM := hid (LM.out.up hb)
    replace LP := hid (LP.out.up hb)
    replace Q19 := hid (Q19.out.up hb)
    replace Q20 := hid (Q20.out.up hb)
    replace Q21 := hid (Q21.out.up hb)
    replace Q22 := hid (Q22.out.up hb)
    replace Q23 := hid (Q23.out.up hb)
    replace Q24 := hid (Q24.out.up hb)
    replace Q25 := hid (Q25.out.up hb)
    replace S26 := hid (S26.out.up hb)
    clear hb
    simp only [Act.put, pA, pB, pC]
    refine WX.pure (d := some 47) rfl rfl (by rfl) (v := (.bool true)) (fun w' hk => by go_simp) ?_
    simp only [Act.put, pA, pB, pC]
    refine WX.pure (d := some 48) rfl rfl (by rfl) (v := (.bool true)) (fun w' hk => by go_simp) ?_
    simp only [Act.put, pA, pB, pC]
    refine WX.pure (d := some 49) rfl rfl (by rfl) (v := (.agg #[.slice A16 n16 c16, .bool g16, .slice B16 m16 d16])) (fun w' hk => ?_) ?_
    · obtain ⟨ce0, ce1, ce2⟩ := ((V2.out.up EY.out).up hk).c3; go_simp
    simp only [Act.put, pA, pB, pC]
    refine WX.call (d := some 50) rfl rfl (by rfl) (by go_simp) ((gcdL_l (WorthL.wide (S16.out.up EY.out).worth (U := 7) (by omega)) (by omega) (by decide)).mono ?_)
    rintro e wn ⟨v1, rfl, x1, hb⟩
    obtain ⟨g27, A27, n27, c27, rfl⟩ := x1.shape
    replace x1 := IsZ.to (Y := 3) x1 (by decide)
    refine ⟨_, rfl, hb, ?_⟩
    replace EY := hid (EY.out.trans hb)
    replace LM := hid (LM.out.up hb)
    replace LP := hid (LP.out.up hb)
    replace Q19 := hid (Q19.out.up hb)
    replace Q20 := hid (Q20.out.up hb)
    replace Q21 := hid (Q21.out.up hb)
    replace Q22 := hid (Q22.out.up hb)
    replace Q23 := hid (Q23.out.up hb)
    replace Q24 := hid (Q24.out.up hb)
    replace Q25 := hid (Q25.out.up hb)
    replace S26 := hid (S26.out.up hb)
    have Q27 := hid x1
    clear hb x1
    simp only [Act.put, pA, pB, pC]
    refine WX.call (d := some 51) rfl rfl (by rfl) (by go_simp) ((rOf_z (n := (3)) (by decide) (by decide) _).mono ?_)
    rintro e wn ⟨v1, rfl, x1, hb⟩
    obtain ⟨g28, A28, n28, c28, rfl⟩ := x1.shape
    refine ⟨_, rfl, hb, ?_⟩
    replace EY := hid (EY.out.trans hb)
    replace LM := hid (LM.out.up hb)
    replace LP := hid (LP.out.up hb)
    replace Q19 := hid (Q19.out.up hb)
    replace Q20 := hid (Q20.out.up hb)
    replace Q21 := hid (Q21.out.up hb)
    replace Q22 := hid (Q22.out.up hb)
    replace Q23 := hid (Q23.out.up hb)
    replace Q24 := hid (Q24.out.up hb)
    replace Q25 := hid (Q25.out.up hb)
    replace S26 := hid (S26.out.up hb)
    replace Q27 := hid (Q27.out.up hb)
    have Q28 := hid x1
    clear hb x1
    simp only [Act.put, pA, pB, pC]
    refine WX.call (d := some 52) rfl rfl (by rfl) (by go_simp) ((rEqual_any Q27.out Q28.out (b := true) (by decide)).mono ?_)
    rintro e wn ⟨rfl, hb⟩
    refine ⟨_, rfl, hb, ?_⟩
    replace EY := hid (EY.out.trans hb)
    replace LM := hid (LM.out.up hb)
    replace LP := hid (LP.out.up hb)
    replace Q19 := hid (Q19.out.up hb)
    replace Q20 := hid (Q20.out.up hb)
    replace Q21 := hid (Q21.out.up hb)
    replace Q22 := hid (Q22.out.up hb)
    replace Q23 := hid (Q23.out.up hb)
    replace Q24 := hid (Q24.out.up hb)
    replace Q25 := hid (Q25.out.up hb)
    replace S26 := hid (S26.out.up hb)
    replace Q27 := hid (Q27.out.up hb)
    replace Q28 := hid (Q28.out.up hb)
    clear hb
    simp only [Act.put, pA, pB, pC]
    refine WX.pure (d := some 53) rfl rfl (by rfl) (v := (.bool true)) (fun w' hk => by go_simp) ?_
    simp only [Act.put, pA, pB, pC]
    refine WX.pure (d := some 0) rfl rfl (by rfl) (v := (.bool true)) (fun w' hk => by go_simp) ?_
    simp only [Act.put, pA, pB, pC]
    refine WX.done ?_
    repeat go_step
    go_ret
    exact ⟨rfl, (E.out.trans EY.out)⟩
  · refine WX.callR (d := some 21) rfl rfl (by rfl) (f := 38) (args := #[(.int .i64 (5))]) (fun w => by go_simp) (fun wx hx0 => ?_)
    replace EY := hid (EY.out.trans hx0)
    replace Q19 := hid (Q19.out.up hx0)
    clear hx0
    refine (rOf_z (n := (5)) (by decide) (by decide) _).mono ?_
    rintro e wn ⟨v1, rfl, x1, hb⟩
    obtain ⟨g20, A20, n20, c20, rfl⟩ := x1.shape
    refine ⟨_, rfl, hb, ?_⟩
    replace EY := hid (EY.out.trans hb)
    replace Q19 := hid (Q19.out.up hb)
    have Q20 := hid x1
    clear hb x1
    simp only [Act.put, pA, pB, pC]
    refine WX.newR (d := some 20) (cs := #[.int .i64 (2), .bool g19, .slice A19 n19 c19]) (t := 54) (v := fun g => (.slice (some ⟨g, 0, none⟩) 1 1)) rfl rfl (by rfl) (fun w => by go_simp) fun gLM wv hx0 hbox hge => ?_
    replace EY := hid (EY.out.trans hx0)
    replace Q19 := hid (Q19.out.up hx0)
    replace Q20 := hid (Q20.out.up hx0)
    have LM : Hid (Box wv gLM #[.int .i64 (2), .bool g19, .slice A19 n19 c19] 54) := hid hbox
    clear hx0 hbox hge
    simp only [Act.put, pA, pB, pC]
    refine WX.pure (d := some 22) rfl rfl (by rfl) (v := (.agg #[.slice (some ⟨gLM, 0, none⟩) 1 1, .bool g20, .slice A20 n20 c20])) (fun w' hk => by go_simp) ?_
    simp only [Act.put, pA, pB, pC]
    refine WX.call (d := some 23) rfl rfl (by rfl) (by go_simp) ((rEqualL_l (S16.out.up EY.out) (show IsL _ _ [(2, 3)] 5 3 from ⟨_, _, _, _, _, _, _, rfl, LTm.lit LM.out Q19.out, Q20.out, ⟨by decide, by decide, trivial⟩⟩) (b := true) (by decide)).mono ?_)
    rintro e wn ⟨rfl, hb⟩
    refine ⟨_, rfl, hb, ?_⟩
    replace EY := hid (EY.out.trans hb)
    clear hb
    simp only [Act.put, pA, pB, pC]
    refine WX.pure (d := some 24) rfl rfl (by rfl) (v := (.bool true)) (fun w' hk => by go_simp) ?_
    simp only [Act.put, pA, pB, pC]
    refine WX.pure (d := some 25) rfl rfl (by rfl) (v := (.bool true)) (fun w' hk => by go_simp) ?_
    simp only [Act.put, pA, pB, pC]
    refine WX.pure (d := some 26) rfl rfl (by rfl) (v := (.agg #[.slice A18 n18 c18, .bool g18, .slice B18 m18 d18])) (fun w' hk => ?_) ?_
    · obtain ⟨ce0, ce1, ce2⟩ := ((V3.out.up EY.out).up hk).c3; go_simp
    simp only [Act.put, pA, pB, pC]
    refine WX.call (d := some 27) rfl rfl (by rfl) (by go_simp) ((coefL_l (WorthL.wide (S18.out.up EY.out).worth (U := 15) (by omega)) (by decide) (by omega) (v := 0)).mono ?_)
    rintro e wn ⟨v1, rfl, x1, hb⟩
    obtain ⟨g21, A21, n21, c21, rfl⟩ := x1.shape
    replace x1 := IsZ.to (Y := 3) x1 (by decide)
    refine ⟨_, rfl, hb, ?_⟩
    replace EY := hid (EY.out.trans hb)
    have Q21 := hid x1
    clear hb x1
    simp only [Act.put, pA, pB, pC]
    refine WX.call (d := some 28) rfl rfl (by rfl) (by go_simp) ((rOf_z (n := (3)) (by decide) (by decide) _).mono ?_)
    rintro e wn ⟨v1, rfl, x1, hb⟩
    obtain ⟨g22, A22, n22, c22, rfl⟩ := x1.shape
    refine ⟨_, rfl, hb, ?_⟩
    replace EY := hid (EY.out.trans hb)
    replace Q21 := hid (Q21.out.up hb)
    have Q22 := hid x1
    clear hb x1
    simp only [Act.put, pA, pB, pC]
    refine WX.call (d := some 29) rfl rfl (by rfl) (by go_simp) ((rEqual_any Q21.out Q22.out (b := true) (by decide)).mono ?_)
    rintro e wn ⟨rfl, hb⟩
    refine ⟨_, rfl, hb, ?_⟩
    replace EY := hid (EY.out.trans hb)
    clear hb
    simp only [Act.put, pA, pB, pC]
    refine WX.pure (d := some 30) rfl rfl (by rfl) (v := (.bool true)) (fun w' hk => by go_simp) ?_
    simp only [Act.put, pA, pB, pC]
    refine WX.pure (d := some 31) rfl rfl (by rfl) (v := (.bool true)) (fun w' hk => by go_simp) ?_
    simp only [Act.put, pA, pB, pC]
    refine WX.pure (d := some 32) rfl rfl (by rfl) (v := (.agg #[.slice A16 n16 c16, .bool g16, .slice B16 m16 d16])) (fun w' hk => ?_) ?_
    · obtain ⟨ce0, ce1, ce2⟩ := ((V2.out.up EY.out).up hk).c3; go_simp
    simp only [Act.put, pA, pB, pC]
    refine WX.pure (d := some 33) rfl rfl (by rfl) (v := (.agg #[.bool false, .slice none 0 0])) (fun w' hk => by go_simp) ?_
    simp only [Act.put, pA, pB, pC]
    refine WX.pure (d := some 34) rfl rfl (by rfl) (v := (.agg #[.bool false, .slice none 0 0])) (fun w' hk => by go_simp) ?_
    simp only [Act.put, pA, pB, pC]
    refine WX.call (d := some 35) rfl rfl (by rfl) (by go_simp) ((rOf_z (n := (2)) (by decide) (by decide) _).mono ?_)
    rintro e wn ⟨v1, rfl, x1, hb⟩
    obtain ⟨g23, A23, n23, c23, rfl⟩ := x1.shape
    refine ⟨_, rfl, hb, ?_⟩
    replace EY := hid (EY.out.trans hb)
    have Q23 := hid x1
    clear hb x1
    simp only [Act.put, pA, pB, pC]
    refine WX.new (d := some 36) (cs := #[.bool false, .slice none 0 0, .bool false, .slice none 0 0, .bool g23, .slice A23 n23 c23]) (t := 25) (v := fun g => (.slice (some ⟨g, 0, none⟩) 3 3)) rfl rfl (by rfl) (fun w => by go_simp) fun gLP wv hx0 hbox hge => ?_
    replace EY := hid (EY.out.trans hx0)
    replace Q23 := hid (Q23.out.up hx0)
    have LP : Hid (Box wv gLP #[.bool false, .slice none 0 0, .bool false, .slice none 0 0, .bool g23, .slice A23 n23 c23] 25) := hid hbox
    clear hx0 hbox hge
    simp only [Act.put, pA, pB, pC]
    refine WX.call (d := some 37) rfl rfl (by rfl) (by go_simp) ((atL_l (WorthL.wide (S16.out.up EY.out).worth (U := 7) (by omega)) (hp := zlist3 LP.out (Num.nil _ _) (Num.nil _ _) Q23.out.fields.2.1) (fun x hx => by have h3 := Q23.out.fields.2.2; simp at hx; rcases hx with rfl | rfl; simp; exact Nat.le_trans h3 (by decide)) (by omega) (by decide)).mono ?_)
    rintro e wn ⟨v1, rfl, x1, hb⟩
    obtain ⟨g24, A24, n24, c24, rfl⟩ := x1.shape
    replace x1 := (IsZ.to (Y := 11) x1 (by rw [M.atT_cons, M.atT_nil]; have h0 := Q23.out.fields.1; subst h0; have hz : M.zv false (M.limbs 2) = 2 := M.zv_of 2; unfold M.valAt; simp [hz])).wide (k := 16) (by decide)
    refine ⟨_, rfl, hb, ?_⟩
    replace EY := hid (EY.out.trans hb)
    have Q24 := hid x1
    clear hb x1
    simp only [Act.put, pA, pB, pC]
    refine WX.call (d := some 38) rfl rfl (by rfl) (by go_simp) ((rOf_z (n := (11)) (by decide) (by decide) _).mono ?_)
    rintro e wn ⟨v1, rfl, x1, hb⟩
    obtain ⟨g25, A25, n25, c25, rfl⟩ := x1.shape
    refine ⟨_, rfl, hb, ?_⟩
    replace EY := hid (EY.out.trans hb)
    replace Q24 := hid (Q24.out.up hb)
    have Q25 := hid x1
    clear hb x1
    simp only [Act.put, pA, pB, pC]
    refine WX.call (d := some 39) rfl rfl (by rfl) (by go_simp) ((rEqual_any Q24.out Q25.out (b := true) (by decide)).mono ?_)
    rintro e wn ⟨rfl, hb⟩
    refine ⟨_, rfl, hb, ?_⟩
    replace EY := hid (EY.out.trans hb)
    clear hb
    simp only [Act.put, pA, pB, pC]
    refine WX.pure (d := some 40) rfl rfl (by rfl) (v := (.bool true)) (fun w' hk => by go_simp) ?_
    simp only [Act.put, pA, pB, pC]
    refine WX.pure (d := some 41) rfl rfl (by rfl) (v := (.bool true)) (fun w' hk => by go_simp) ?_
    simp only [Act.put, pA, pB, pC]
    refine WX.pure (d := some 42) rfl rfl (by rfl) (v := (.agg #[.slice A16 n16 c16, .bool g16, .slice B16 m16 d16])) (fun w' hk => ?_) ?_
    · obtain ⟨ce0, ce1, ce2⟩ := ((V2.out.up EY.out).up hk).c3; go_simp
    simp only [Act.put, pA, pB, pC]
    refine WX.pure (d := some 43) rfl rfl (by rfl) (v := (.agg #[.slice A16 n16 c16, .bool g16, .slice B16 m16 d16])) (fun w' hk => ?_) ?_
    · obtain ⟨ce0, ce1, ce2⟩ := ((V2.out.up EY.out).up hk).c3; go_simp
    simp only [Act.put, pA, pB, pC]
    refine WX.pure (d := some 45) rfl rfl (by rfl) (v := (.agg #[.slice none 0 0, .bool false, .slice none 0 0])) (fun w' hk => by go_simp) ?_
    simp only [Act.put, pA, pB, pC]
    refine WX.call (d := some 44) rfl rfl (by rfl) (by go_simp) ((subL_l (WorthL.wide (S16.out.up EY.out).worth (U := 7) (by omega)) (WorthL.wide (S16.out.up EY.out).worth (U := 7) (by omega)) (by omega) (by decide) (by decide)).mono ?_)
    rintro e wn ⟨v1, rfl, x1, hb⟩
    obtain ⟨A26, n26, c26, g26, B26, m26, d26, rfl⟩ := x1.shape
    replace x1 := IsL.to (s := []) (μ := 0) x1 (by rw [show M.scaleT [(2, 3)] (-1) = [(2, -3)] by decide, M.addT_cons, if_neg (by decide), if_neg (by decide), if_pos (by decide), M.nil_addT]) (by decide)
    refine ⟨_, rfl, hb, ?_⟩
    replace EY := hid (EY.out.trans hb)
    have S26 := hid x1
    clear hb x1
    simp only [Act.put, pA, pB, pC]
    refine WX.call (d := some 46) rfl rfl (by rfl) (by go_simp) ((sameL_l (WorthL.wide S26.out.worth (U := 8) (by omega)) (WorthL.wide (show IsL _ _ _ _ _ from ⟨none, 0, 0, false, none, 0, 0, rfl, LTm.nil _ _, IsZ.nought, trivial⟩).worth (U := 8) (by omega)) (b := true) (by decide)).mono ?_)
    rintro e wn ⟨rfl, hb⟩
    refine ⟨_, rfl, hb, ?_⟩
    replace EY := hid (EY.out.trans hb)
    clear hb
    simp only [Act.put, pA, pB, pC]
    refine WX.pure (d := some 47) rfl rfl (by rfl) (v := (.bool true)) (fun w' hk => by go_simp) ?_
    simp only [Act.put, pA, pB, pC]
    refine WX.pure (d := some 48) rfl rfl (by rfl) (v := (.bool true)) (fun w' hk => by go_simp) ?_
    simp only [Act.put, pA, pB, pC]
    refine WX.pure (d := some 49) rfl rfl (by rfl) (v := (.agg #[.slice A16 n16 c16, .bool g16, .slice B16 m16 d16])) (fun w' hk => ?_) ?_
    · obtain ⟨ce0, ce1, ce2⟩ := ((V2.out.up EY.out).up hk).c3; go_simp
    simp only [Act.put, pA, pB, pC]
    refine WX.call (d := some 50) rfl rfl (by rfl) (by go_simp) ((gcdL_l (WorthL.wide (S16.out.up EY.out).worth (U := 7) (by omega)) (by omega) (by decide)).mono ?_)
    rintro e wn ⟨v1, rfl, x1, hb⟩
    obtain ⟨g27, A27, n27, c27, rfl⟩ := x1.shape
    replace x1 := IsZ.to (Y := 3) x1 (by decide)
    refine ⟨_, rfl, hb, ?_⟩
    replace EY := hid (EY.out.trans hb)
    have Q27 := hid x1
    clear hb x1
    simp only [Act.put, pA, pB, pC]
    refine WX.call (d := some 51) rfl rfl (by rfl) (by go_simp) ((rOf_z (n := (3)) (by decide) (by decide) _).mono ?_)
    rintro e wn ⟨v1, rfl, x1, hb⟩
    obtain ⟨g28, A28, n28, c28, rfl⟩ := x1.shape
    refine ⟨_, rfl, hb, ?_⟩
    replace EY := hid (EY.out.trans hb)
    replace Q27 := hid (Q27.out.up hb)
    have Q28 := hid x1
    clear hb x1
    simp only [Act.put, pA, pB, pC]
    refine WX.call (d := some 52) rfl rfl (by rfl) (by go_simp) ((rEqual_any Q27.out Q28.out (b := true) (by decide)).mono ?_)
    rintro e wn ⟨rfl, hb⟩
    refine ⟨_, rfl, hb, ?_⟩
    replace EY := hid (EY.out.trans hb)
    clear hb
    simp only [Act.put, pA, pB, pC]
    refine WX.pure (d := some 53) rfl rfl (by rfl) (v := (.bool true)) (fun w' hk => by go_simp) ?_
    simp only [Act.put, pA, pB, pC]
    refine WX.pure (d := some 0) rfl rfl (by rfl) (v := (.bool true)) (fun w' hk => by go_simp) ?_
    simp only [Act.put, pA, pB, pC]
    refine WX.done ?_
    repeat go_step
    go_ret
    exact ⟨rfl, (E.out.trans EY.out)⟩

end Go.Proofs.YtfjehdcdbejlnaaGreat
