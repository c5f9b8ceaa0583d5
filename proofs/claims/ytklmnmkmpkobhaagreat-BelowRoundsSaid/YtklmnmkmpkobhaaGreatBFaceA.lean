/-
  Contracts of package below: what counts, the form's own methods.
-/
import Derived.Test.YtklmnmkmpkobhaaGreatBMath
import Derived.Test.YtklmnmkmpkobhaaGreatLFaceV
import Derived.Test.YtklmnmkmpkobhaaGreatLFaceA
namespace Go.Proofs.YtklmnmkmpkobhaaGreat
open Go.RowKit
set_option linter.unusedSimpArgs false
set_option linter.unusedVariables false

set_option maxHeartbeats 2000000 in
theorem readB_false {w : World} {g1 : Bool} {A1 B1 : Option Addr} {n1 c1 m1 d1 W : Nat} {ls : List (Int × Bool × List Nat)} {l1 : List Nat} (h1 : LList w (.slice A1 n1 c1) ls) (h2 : Num w w.heap.size (.slice B1 m1 d1) l1) (hw : ∀ x ∈ ls, x.2.2.length ≤ W) (hk : l1.length ≤ W) (hb : M.isL ls g1 l1 = false) :
 Calls Tryz.prog 75 #[.agg #[.slice A1 n1 c1, .bool g1, .slice B1 m1 d1]] w (GivesL w (M.ft ls g1 l1) (M.fk ls g1 l1) W) := by
 have HL := hid h1
 have N1 := hid h2
 have HB := hid hb
 clear h1 h2 hb hw hk
 go_enter Tryz.func75, Tryz.ntmps75
 go_upto_region 1 with (fail)
 obtain ⟨E, BX0, BX1⟩ := open2 w #[.slice A1 n1 c1, .bool g1, .slice B1 m1 d1] 27 #[.slice none 0 0, .bool false, .slice none 0 0] 72
 replace N1 := hid (N1.out.up E.out)
 refine wp_region_S [(0, 0), (1, 1), (2, 0)] fun wd hb => ?_
 replace E := hid (E.out.trans hb)
 replace BX0 := hid (BX0.out.up hb)
 replace BX1 := hid (BX1.out.up hb)
 replace N1 := hid (N1.out.up hb)
 clear hb
 have EY := hid (Ext.refl wd)
 refine WE.qq 3 (.agg #[.slice A1 n1 c1, .bool g1, .slice B1 m1 d1]) rfl (fun w' hk => by obtain ⟨ce0, ce1, ce2⟩ := ((BX0.out.up EY.out).up hk).c3; go_simp) ?_
 refine WE.cc 4 ((isL_any (HL.out.up (E.out.trans EY.out)) (N1.out.up EY.out) HB.out).mono ?_)
 rintro e wn ⟨rfl, hb⟩
 refine ⟨_, rfl, hb, ?_⟩
 replace EY := hid (EY.out.trans hb)
 clear hb
 refine WE.pp 5 (.bool true) ?_
 simp only [Act.put, pA, pB, pC]
 refine WE.done ?_
 go_upto_region 2 with (fail)
 refine wp_region_S [(0, 0), (1, 4)] fun wd hb => ?_
 replace EY := hid (EY.out.trans hb)
 clear hb
 refine WE.pp 6 (.agg #[.slice none 0 0, .bool false, .slice none 0 0]) ?_
 simp only [Act.put, pA, pB, pC]
 refine WE.store3 (g := (w.heap.size + 1)) (x := .slice none 0 0) (y := .bool false) (z := .slice none 0 0) (t := 72) rfl rfl (by rfl) (fun w hb => ?_) (BX1.out.up EY.out) (by rfl) fun ws hk hs => ?_
 ·obtain ⟨ce0, ce1, ce2⟩ := hb.c3; obtain ⟨f0, f1, f2⟩ := hb.f3; go_simp
 intro hbx
 replace E := hid ((E.out.trans EY.out).keptG hk (by simp))
 replace BX1 := hid hbx
 clear hk hs hbx
 replace EY := hid (Ext.refl ws)
 refine WE.done ?_
 have r0 := (BX1.out.up EY.out).cell (o := 0) (v := .slice none 0 0) rfl
 have r1 := (BX1.out.up EY.out).cell (o := 1) (v := .bool false) rfl
 have r2 := (BX1.out.up EY.out).cell (o := 2) (v := .slice none 0 0) rfl
 repeat go_step
 exact bodyPost_ret (v := .agg #[.slice none 0 0, .bool false, .slice none 0 0]) (by simp [results, Tryz.results75, go_sem, r0, r1, r2]) rfl ⟨_, rfl, by unfold M.ft M.fk; rw [if_neg (by simp [HB.out]), if_neg (by simp [HB.out])]; exact ⟨none, 0, 0, false, none, 0, 0, rfl, LTm.nil _ _, IsZ.nought.wide (Nat.zero_le _), trivial⟩, (E.out.trans EY.out)⟩

set_option maxHeartbeats 2000000 in
theorem readB_true {w : World} {g1 : Bool} {A1 B1 : Option Addr} {n1 c1 m1 d1 W : Nat} {ls : List (Int × Bool × List Nat)} {l1 : List Nat} (h1 : LList w (.slice A1 n1 c1) ls) (h2 : Num w w.heap.size (.slice B1 m1 d1) l1) (hw : ∀ x ∈ ls, x.2.2.length ≤ W) (hk : l1.length ≤ W) (hb : M.isL ls g1 l1 = true) :
 Calls Tryz.prog 75 #[.agg #[.slice A1 n1 c1, .bool g1, .slice B1 m1 d1]] w (GivesL w (M.ft ls g1 l1) (M.fk ls g1 l1) W) := by
 have HL := hid h1
 have N1 := hid h2
 have HB := hid hb
 have HW := hid hw
 have HK := hid hk
 clear h1 h2 hb hw hk
 go_enter Tryz.func75, Tryz.ntmps75
 go_upto_region 1 with (fail)
 obtain ⟨E, BX0, BX1⟩ := open2 w #[.slice A1 n1 c1, .bool g1, .slice B1 m1 d1] 27 #[.slice none 0 0, .bool false, .slice none 0 0] 72
 replace N1 := hid (N1.out.up E.out)
 refine wp_region_S [(0, 0), (1, 1), (2, 0)] fun wd hb => ?_
 replace E := hid (E.out.trans hb)
 replace BX0 := hid (BX0.out.up hb)
 replace BX1 := hid (BX1.out.up hb)
 replace N1 := hid (N1.out.up hb)
 clear hb
 have EY := hid (Ext.refl wd)
 refine WE.qq 3 (.agg #[.slice A1 n1 c1, .bool g1, .slice B1 m1 d1]) rfl (fun w' hk => by obtain ⟨ce0, ce1, ce2⟩ := ((BX0.out.up EY.out).up hk).c3; go_simp) ?_
 refine WE.cc 4 ((isL_any (HL.out.up (E.out.trans EY.out)) (N1.out.up EY.out) HB.out).mono ?_)
 rintro e wn ⟨rfl, hb⟩
 refine ⟨_, rfl, hb, ?_⟩
 replace EY := hid (EY.out.trans hb)
 clear hb
 refine WE.pp 5 (.bool false) ?_
 simp only [Act.put, pA, pB, pC]
 refine WE.done ?_
 go_upto_region 3 with (fail)
 refine wp_region_S [(0, 0), (1, 0), (2, 4)] fun wd hb => ?_
 replace EY := hid (EY.out.trans hb)
 clear hb
 refine WE.qq 7 (.agg #[.slice A1 n1 c1, .bool g1, .slice B1 m1 d1]) rfl (fun w' hk => by obtain ⟨ce0, ce1, ce2⟩ := ((BX0.out.up EY.out).up hk).c3; go_simp) ?_
 refine WE.pp 8 (.agg #[.slice A1 n1 c1, .bool g1, .slice B1 m1 d1]) ?_
 simp only [Act.put, pA, pB, pC]
 refine WE.store3 (g := (w.heap.size + 1)) (x := .slice A1 n1 c1) (y := .bool g1) (z := .slice B1 m1 d1) (t := 72) rfl rfl (by rfl) (fun w hb => ?_) (BX1.out.up EY.out) (by rfl) fun ws hk hs => ?_
 ·obtain ⟨ce0, ce1, ce2⟩ := hb.c3; obtain ⟨f0, f1, f2⟩ := hb.f3; go_simp
 intro hbx
 replace E := hid ((E.out.trans EY.out).keptG hk (by simp))
 replace BX1 := hid hbx
 replace N1 := hid ((N1.out.up EY.out).kz hs)
 clear hk hs hbx
 replace EY := hid (Ext.refl ws)
 refine WE.done ?_
 have r0 := (BX1.out.up EY.out).cell (o := 0) (v := .slice A1 n1 c1) rfl
 have r1 := (BX1.out.up EY.out).cell (o := 1) (v := .bool g1) rfl
 have r2 := (BX1.out.up EY.out).cell (o := 2) (v := .slice B1 m1 d1) rfl
 repeat go_step
 exact bodyPost_ret (v := .agg #[.slice A1 n1 c1, .bool g1, .slice B1 m1 d1]) (by simp [results, Tryz.results75, go_sem, r0, r1, r2]) rfl ⟨_, rfl, isL_of (HL.out.up (E.out.trans EY.out)) (N1.out.up EY.out) HW.out HK.out HB.out, (E.out.trans EY.out)⟩

theorem readB_l {w : World} {u : Value} {t : M.Tm} {κ : Int} {W : Nat} (h1 : WorthL w u t κ W) : Calls Tryz.prog 75 #[u] w (GivesL w t κ W) := by
 obtain ⟨A, n, c, ls, g, B, m, d, l, rfl, h2, h3, h4, h5, rfl, rfl⟩ := h1
 cases hb : M.isL ls g l with
 | false => exact readB_false h2 h3 h4 h5 hb
 | true => exact readB_true h2 h3 h4 h5 hb

set_option maxHeartbeats 1000000 in
theorem told_b {w : World} {u : Value} {t : M.Tm} {κ : Int} {W : Nat} (h1 : IsL w u t κ W) :
 Calls Tryz.prog 78 #[u] w (GivesL w t κ W) := by
 obtain ⟨A1, n1, c1, g1, B1, m1, d1, rfl⟩ := h1.shape
 have S1 := hid h1
 clear h1
 go_enter Tryz.func78, Tryz.ntmps78
 go_upto_region 1 with (fail)
 obtain ⟨E, BX0, BX1⟩ := open2 w #[.slice A1 n1 c1, .bool g1, .slice B1 m1 d1] 70 #[.slice none 0 0, .bool false, .slice none 0 0] 27
 replace S1 := hid (S1.out.up E.out)
 refine wp_region_S [(0, 0), (1, 4)] fun wd hb => ?_
 replace E := hid (E.out.trans hb)
 replace BX0 := hid (BX0.out.up hb)
 replace BX1 := hid (BX1.out.up hb)
 replace S1 := hid (S1.out.up hb)
 clear hb
 have EY := hid (Ext.refl wd)
 refine WE.qq 3 (.agg #[.slice A1 n1 c1, .bool g1, .slice B1 m1 d1]) rfl (fun w' hk => by obtain ⟨ce0, ce1, ce2⟩ := ((BX0.out.up EY.out).up hk).c3; go_simp) ?_
 simp only [Act.put, pA, pB, pC]
 refine WE.store3 (g := (w.heap.size + 1)) (x := .slice A1 n1 c1) (y := .bool g1) (z := .slice B1 m1 d1) (t := 27) rfl rfl (by rfl) (fun w hb => ?_) (BX1.out.up EY.out) (by rfl) fun ws hk hs => ?_
 ·obtain ⟨ce0, ce1, ce2⟩ := hb.c3; obtain ⟨f0, f1, f2⟩ := hb.f3; go_simp
 intro hbx
 replace S1 := hid ((S1.out.up EY.out).kb (BX1.out.up EY.out) (by rfl) hk hs)
 replace E := hid ((E.out.trans EY.out).keptG hk (by simp))
 replace BX1 := hid hbx
 clear hk hs hbx
 replace EY := hid (Ext.refl ws)
 refine WE.done ?_
 have r0 := (BX1.out.up EY.out).cell (o := 0) (v := .slice A1 n1 c1) rfl
 have r1 := (BX1.out.up EY.out).cell (o := 1) (v := .bool g1) rfl
 have r2 := (BX1.out.up EY.out).cell (o := 2) (v := .slice B1 m1 d1) rfl
 repeat go_step
 exact bodyPost_ret (v := .agg #[.slice A1 n1 c1, .bool g1, .slice B1 m1 d1]) (by simp [results, Tryz.results78, go_sem, r0, r1, r2]) rfl ⟨_, rfl, (S1.out.up EY.out), (E.out.trans EY.out)⟩

set_option maxHeartbeats 1000000 in
theorem varies_b {w : World} {u : Value} {t : M.Tm} {κ : Int} {W : Nat} (h1 : IsL w u t κ W) {b : Bool} (hb : decide (0 < t.length) = b) :
 Calls Tryz.prog 106 #[u] w (GivesB w b) := by
 obtain ⟨A1, n1, c1, g1, B1, m1, d1, rfl⟩ := h1.shape
 have hcn := h1.counts
 have hb9 : n1 ≤ 9223372036854775807 := hcn.2
 have hvd : decide (0 < n1) = b := by rw [hcn.1]; exact hb
 have hvi : decide ((0 : Int) < (n1 : Int)) = b := by rw [← hvd, Bool.eq_iff_iff, decide_eq_true_iff, decide_eq_true_iff]; omega
 clear hcn hb
 clear h1
 go_enter Tryz.func106, Tryz.ntmps106
 go_upto_region 1 with (fail)
 obtain ⟨E, BX0⟩ := open1 w #[.slice A1 n1 c1, .bool g1, .slice B1 m1 d1] 70
 refine wp_region_S [(0, 0), (1, 0), (2, 0), (3, 0), (4, 0)] fun wd hb => ?_
 replace E := hid (E.out.trans hb)
 replace BX0 := hid (BX0.out.up hb)
 clear hb
 have EY := hid (Ext.refl wd)
 refine WE.pp 3 (.pointer (some ⟨(w.heap.size), 0, none⟩)) ?_
 refine WE.qq 4 (.slice A1 n1 c1) rfl (fun w' hk => by have ce0 := ((BX0.out.up EY.out).up hk).k 0; go_simp) ?_
 refine WE.pp 5 (.int .i64 (n1 : Int)) ?_
 refine WE.pp 6 (.bool b) ?_
 refine WE.pp 2 (.bool b) ?_
 simp only [Act.put, pA, pB, pC]
 refine WE.done ?_
 repeat go_step
 go_ret
 exact ⟨rfl, (E.out.trans EY.out)⟩

set_option maxHeartbeats 2000000 in
theorem at_b {w : World} {u : Value} {t : M.Tm} {κ : Int} {W : Nat} (h1 : IsL w u t κ W) {Ap : Option Addr} {np cp : Nat} {xs : List (Bool × List Nat)} (hp : ZList w (.slice Ap np cp) xs) (hps : ∀ x ∈ xs, x.2.length ≤ W) (hw : W ≤ 50) (hn : t.length ≤ 1000) :
 Calls Tryz.prog 107 #[u, .slice Ap np cp] w (GivesZ w (κ + M.atT (M.valAt xs) t) (W + W + t.length + 1)) := by
 obtain ⟨A1, n1, c1, g1, B1, m1, d1, rfl⟩ := h1.shape
 have S1 := hid h1
 have HP := hid hp
 have HPS := hid hps
 have HW := hid hw
 have HN := hid hn
 clear hp hps hw hn
 clear h1
 go_enter Tryz.func107, Tryz.ntmps107
 go_upto_region 1 with (fail)
 obtain ⟨E, BX0, BX1⟩ := open2 w #[.slice A1 n1 c1, .bool g1, .slice B1 m1 d1] 70 #[.bool false, .slice none 0 0] 25
 replace S1 := hid (S1.out.up E.out)
 refine wp_region_S [(0, 0), (1, 1), (2, 0), (3, 1), (4, 4)] fun wd hb => ?_
 replace E := hid (E.out.trans hb)
 replace BX0 := hid (BX0.out.up hb)
 replace BX1 := hid (BX1.out.up hb)
 replace S1 := hid (S1.out.up hb)
 clear hb
 have EY := hid (Ext.refl wd)
 refine WE.qq 5 (.agg #[.slice A1 n1 c1, .bool g1, .slice B1 m1 d1]) rfl (fun w' hk => by obtain ⟨ce0, ce1, ce2⟩ := ((BX0.out.up EY.out).up hk).c3; go_simp) ?_
 refine WE.cc 6 ((told_b (S1.out.up EY.out)).mono ?_)
 rintro e wn ⟨v1, rfl, x1, hb⟩
 obtain ⟨A11, n11, c11, g11, B11, m11, d11, rfl⟩ := x1.shape
 refine ⟨_, rfl, hb, ?_⟩
 replace EY := hid (EY.out.trans hb)
 have S11 := hid x1
 clear hb x1
 refine WE.pp 7 (.slice Ap np cp) ?_
 refine WE.cc 8 ((atL_l S11.out.worth (HP.out.up (E.out.trans EY.out)) HPS.out HW.out HN.out).mono ?_)
 rintro e wn ⟨v1, rfl, x1, hb⟩
 obtain ⟨g12, A12, n12, c12, rfl⟩ := x1.shape
 refine ⟨_, rfl, hb, ?_⟩
 replace EY := hid (EY.out.trans hb)
 have Q12 := hid x1
 clear hb x1
 simp only [Act.put, pA, pB, pC]
 refine WE.store2 (g := (w.heap.size + 1)) (x := .bool g12) (y := .slice A12 n12 c12) (t := 25) rfl rfl (by rfl) (fun w hb => ?_) (BX1.out.up EY.out) (by rfl) fun ws hk hs => ?_
 ·obtain ⟨ce0, ce1⟩ := hb.c2; obtain ⟨f0, f1⟩ := hb.f2; go_simp
 intro hbx
 replace E := hid ((E.out.trans EY.out).keptG hk (by simp))
 replace BX1 := hid hbx
 replace Q12 := hid (Q12.out.kz hs)
 clear hk hs hbx
 replace EY := hid (Ext.refl ws)
 refine WE.done ?_
 have r0 := (BX1.out.up EY.out).cell (o := 0) (v := .bool g12) rfl
 have r1 := (BX1.out.up EY.out).cell (o := 1) (v := .slice A12 n12 c12) rfl
 repeat go_step
 exact bodyPost_ret (v := .agg #[.bool g12, .slice A12 n12 c12]) (by simp [results, Tryz.results107, go_sem, r0, r1]) rfl ⟨_, rfl, (Q12.out.up EY.out), (E.out.trans EY.out)⟩

set_option maxHeartbeats 2000000 in
theorem holds_b {w : World} {u : Value} {t : M.Tm} {κ : Int} {W : Nat} (h1 : IsL w u t κ W) {Ap : Option Addr} {np cp : Nat} {xs : List (Bool × List Nat)} (hp : ZList w (.slice Ap np cp) xs) (hps : ∀ x ∈ xs, x.2.length ≤ W) (hw : W ≤ 50) (hn : t.length ≤ 1000) {b : Bool} (hb : decide (κ + M.atT (M.valAt xs) t ≤ 0) = b) :
 Calls Tryz.prog 82 #[u, .slice Ap np cp] w (GivesB w b) := by
 obtain ⟨A1, n1, c1, g1, B1, m1, d1, rfl⟩ := h1.shape
 have S1 := hid h1
 have HP := hid hp
 have HPS := hid hps
 have HW := hid hw
 have HN := hid hn
 clear hp hps hw hn
 obtain ⟨sg, hsg⟩ : ∃ s : Int, (κ + M.atT (M.valAt xs) t).sign = s := ⟨_, rfl⟩
 have HSG := hid hsg
 have hsd : decide (sg ≤ 0) = b := by rw [← hsg, M.sign_le]; exact hb
 clear hsg hb
 clear h1
 go_enter Tryz.func82, Tryz.ntmps82
 go_upto_region 1 with (fail)
 obtain ⟨E, BX0⟩ := open1 w #[.slice A1 n1 c1, .bool g1, .slice B1 m1 d1] 72
 replace S1 := hid (S1.out.up E.out)
 refine wp_region_S [(0, 0), (1, 0), (2, 0), (3, 1), (4, 1), (5, 0), (6, 0)] fun wd hb => ?_
 replace E := hid (E.out.trans hb)
 replace BX0 := hid (BX0.out.up hb)
 replace S1 := hid (S1.out.up hb)
 clear hb
 have EY := hid (Ext.refl wd)
 refine WE.pp 5 (.pointer (some ⟨(w.heap.size), 0, none⟩)) ?_
 refine WE.qq 6 (.agg #[.slice A1 n1 c1, .bool g1, .slice B1 m1 d1]) rfl (fun w' hk => by obtain ⟨ce0, ce1, ce2⟩ := ((BX0.out.up EY.out).up hk).c3; go_simp) ?_
 refine WE.pp 7 (.slice Ap np cp) ?_
 refine WE.cc 8 ((at_b (S1.out.up EY.out) (HP.out.up (E.out.trans EY.out)) HPS.out HW.out HN.out).mono ?_)
 rintro e wn ⟨v1, rfl, x1, hb⟩
 obtain ⟨g11, A11, n11, c11, rfl⟩ := x1.shape
 refine ⟨_, rfl, hb, ?_⟩
 replace EY := hid (EY.out.trans hb)
 have Q11 := hid x1
 clear hb x1
 refine WE.cc 9 ((sign_e Q11.out.worth (s := sg) HSG.out).mono ?_)
 rintro e wn ⟨rfl, hb⟩
 refine ⟨_, rfl, hb, ?_⟩
 replace EY := hid (EY.out.trans hb)
 clear hb
 refine WE.pp 10 (.bool b) ?_
 simp only [Act.put, pA, pB, pC]
 refine WE.pp 4 (.bool b) ?_
 simp only [Act.put, pA, pB, pC]
 refine WE.done ?_
 repeat go_step
 go_ret
 exact ⟨rfl, (E.out.trans EY.out)⟩

set_option maxHeartbeats 2000000 in
theorem from_b {w : World} {u : Value} {t : M.Tm} {κ : Int} {W : Nat} (h1 : IsL w u t κ W) (hw : W ≤ 40) (hn : t.length ≤ 150) :
 Calls Tryz.prog 81 #[u, .int .i64 1] w (GivesL w (M.scaleT t (-1)) (1 + κ * -1) (W + 4)) := by
 obtain ⟨A1, n1, c1, g1, B1, m1, d1, rfl⟩ := h1.shape
 have S1 := hid h1
 have HW := hid hw
 have HN := hid hn
 clear hw hn
 clear h1
 go_enter Tryz.func81, Tryz.ntmps81
 go_upto_region 1 with (fail)
 obtain ⟨E, BX0, BX1⟩ := open2 w #[.slice A1 n1 c1, .bool g1, .slice B1 m1 d1] 70 #[.slice none 0 0, .bool false, .slice none 0 0] 70
 replace S1 := hid (S1.out.up E.out)
 refine wp_region_D [(0, 0), (3, 0), (1, 1), (2, 1), (4, 1), (5, 1), (6, 4)] fun wd hb => ?_
 replace E := hid (E.out.trans hb)
 replace BX0 := hid (BX0.out.up hb)
 replace BX1 := hid (BX1.out.up hb)
 replace S1 := hid (S1.out.up hb)
 clear hb
 have EY := hid (Ext.refl wd)
 refine WE.pp 5 (.int .i64 1) ?_
 refine WE.qq 8 (.agg #[.slice A1 n1 c1, .bool g1, .slice B1 m1 d1]) rfl (fun w' hk => by obtain ⟨ce0, ce1, ce2⟩ := ((BX0.out.up EY.out).up hk).c3; go_simp) ?_
 refine WE.cc 6 ((of_z (n := 1) (by decide) (by decide) _).mono ?_)
 rintro e wn ⟨v1, rfl, x1, hb⟩
 obtain ⟨g11, A11, n11, c11, rfl⟩ := x1.shape
 refine ⟨_, rfl, hb, ?_⟩
 replace EY := hid (EY.out.trans hb)
 have Q11 := hid x1
 clear hb x1
 refine WE.cc 7 ((constL_l Q11.out.worth (by decide)).mono ?_)
 rintro e wn ⟨v1, rfl, x1, hb⟩
 obtain ⟨A12, n12, c12, g12, B12, m12, d12, rfl⟩ := x1.shape
 refine ⟨_, rfl, hb, ?_⟩
 replace EY := hid (EY.out.trans hb)
 have S12 := hid x1
 clear hb x1
 refine WE.cc 9 ((told_b (S1.out.up EY.out)).mono ?_)
 rintro e wn ⟨v1, rfl, x1, hb⟩
 obtain ⟨A13, n13, c13, g13, B13, m13, d13, rfl⟩ := x1.shape
 refine ⟨_, rfl, hb, ?_⟩
 replace EY := hid (EY.out.trans hb)
 replace S12 := hid (S12.out.up hb)
 have S13 := hid x1
 clear hb x1
 refine WE.cc 10 ((subL_l (WorthL.wide S12.out.worth (U := W + 3) (by omega)) (WorthL.wide S13.out.worth (U := W + 3) (by omega)) (by have := HW.out; omega) (Nat.zero_le _) HN.out).mono ?_)
 rintro e wn ⟨v1, rfl, x1, hb⟩
 obtain ⟨A14, n14, c14, g14, B14, m14, d14, rfl⟩ := x1.shape
 refine ⟨_, rfl, hb, ?_⟩
 replace EY := hid (EY.out.trans hb)
 have S14 := hid x1
 clear hb x1
 simp only [Act.put, pA, pB, pC]
 refine WE.store3 (g := (w.heap.size + 1)) (x := .slice A14 n14 c14) (y := .bool g14) (z := .slice B14 m14 d14) (t := 70) rfl rfl (by rfl) (fun w hb => ?_) (BX1.out.up EY.out) (by rfl) fun ws hk hs => ?_
 ·obtain ⟨ce0, ce1, ce2⟩ := hb.c3; obtain ⟨f0, f1, f2⟩ := hb.f3; go_simp
 intro hbx
 replace S14 := hid (S14.out.kb (BX1.out.up EY.out) (by rfl) hk hs)
 replace E := hid ((E.out.trans EY.out).keptG hk (by simp))
 replace BX1 := hid hbx
 clear hk hs hbx
 replace EY := hid (Ext.refl ws)
 refine WE.done ?_
 have r0 := (BX1.out.up EY.out).cell (o := 0) (v := .slice A14 n14 c14) rfl
 have r1 := (BX1.out.up EY.out).cell (o := 1) (v := .bool g14) rfl
 have r2 := (BX1.out.up EY.out).cell (o := 2) (v := .slice B14 m14 d14) rfl
 repeat go_step
 exact bodyPost_ret (v := .agg #[.slice A14 n14 c14, .bool g14, .slice B14 m14 d14]) (by simp [results, Tryz.results81, go_sem, r0, r1, r2]) rfl ⟨_, rfl, by have h := (S14.out.up EY.out); rw [M.nil_addT] at h; exact h, (E.out.trans EY.out)⟩

set_option maxHeartbeats 2000000 in
theorem common_none {w : World} {u : Value} {t : M.Tm} {κ : Int} {W : Nat} (h1 : IsL w u t κ W) (hw : W ≤ 100000) (hn : t.length ≤ 1000) (he : t = []) :
 Calls Tryz.prog 77 #[u] w (GivesZ w (M.cm t : Int) (W + 3)) := by
 obtain ⟨A1, n1, c1, g1, B1, m1, d1, rfl⟩ := h1.shape
 have S1 := hid h1
 have HE := hid he
 have HVD := hid (show decide (0 < t.length) = false from by rw [he]; rfl)
 clear hw hn he
 clear h1
 go_enter Tryz.func77, Tryz.ntmps77
 go_upto_region 1 with (fail)
 obtain ⟨E, BX0, BX1⟩ := open2 w #[.slice A1 n1 c1, .bool g1, .slice B1 m1 d1] 70 #[.bool false, .slice none 0 0] 25
 replace S1 := hid (S1.out.up E.out)
 refine wp_region_S [(0, 0), (1, 1), (2, 0)] fun wd hb => ?_
 replace E := hid (E.out.trans hb)
 replace BX0 := hid (BX0.out.up hb)
 replace BX1 := hid (BX1.out.up hb)
 replace S1 := hid (S1.out.up hb)
 clear hb
 have EY := hid (Ext.refl wd)
 refine WE.qq 3 (.agg #[.slice A1 n1 c1, .bool g1, .slice B1 m1 d1]) rfl (fun w' hk => by obtain ⟨ce0, ce1, ce2⟩ := ((BX0.out.up EY.out).up hk).c3; go_simp) ?_
 refine WE.cc 4 ((varies_b (S1.out.up EY.out) HVD.out).mono ?_)
 rintro e wn ⟨rfl, hb⟩
 refine ⟨_, rfl, hb, ?_⟩
 replace EY := hid (EY.out.trans hb)
 clear hb
 refine WE.pp 5 (.bool true) ?_
 simp only [Act.put, pA, pB, pC]
 refine WE.done ?_
 go_upto_region 2 with (fail)
 refine wp_region_S [(0, 1), (1, 4)] fun wd hb => ?_
 replace EY := hid (EY.out.trans hb)
 clear hb
 refine WE.cc 6 ((of_z (n := 1) (by decide) (by decide) _).mono ?_)
 rintro e wn ⟨v1, rfl, x1, hb⟩
 obtain ⟨g11, A11, n11, c11, rfl⟩ := x1.shape
 refine ⟨_, rfl, hb, ?_⟩
 replace EY := hid (EY.out.trans hb)
 have Q11 := hid x1
 clear hb x1
 simp only [Act.put, pA, pB, pC]
 refine WE.store2 (g := (w.heap.size + 1)) (x := .bool g11) (y := .slice A11 n11 c11) (t := 25) rfl rfl (by rfl) (fun w hb => ?_) (BX1.out.up EY.out) (by rfl) fun ws hk hs => ?_
 ·obtain ⟨ce0, ce1⟩ := hb.c2; obtain ⟨f0, f1⟩ := hb.f2; go_simp
 intro hbx
 replace E := hid ((E.out.trans EY.out).keptG hk (by simp))
 replace BX1 := hid hbx
 replace Q11 := hid (Q11.out.kz hs)
 clear hk hs hbx
 replace EY := hid (Ext.refl ws)
 refine WE.done ?_
 have r0 := (BX1.out.up EY.out).cell (o := 0) (v := .bool g11) rfl
 have r1 := (BX1.out.up EY.out).cell (o := 1) (v := .slice A11 n11 c11) rfl
 repeat go_step
 exact bodyPost_ret (v := .agg #[.bool g11, .slice A11 n11 c11]) (by simp [results, Tryz.results77, go_sem, r0, r1]) rfl ⟨_, rfl, by unfold M.cm; rw [if_pos HE.out]; exact (Q11.out.up EY.out).wide (by omega), (E.out.trans EY.out)⟩

set_option maxHeartbeats 2000000 in
theorem common_some {w : World} {u : Value} {t : M.Tm} {κ : Int} {W : Nat} (h1 : IsL w u t κ W) (hw : W ≤ 100000) (hn : t.length ≤ 1000) (he : t ≠ []) :
 Calls Tryz.prog 77 #[u] w (GivesZ w (M.cm t : Int) (W + 3)) := by
 obtain ⟨A1, n1, c1, g1, B1, m1, d1, rfl⟩ := h1.shape
 have S1 := hid h1
 have HW := hid hw
 have HN := hid hn
 have HE := hid he
 have HVD := hid (show decide (0 < t.length) = true from decide_eq_true (List.length_pos_iff.2 he))
 clear hw hn he
 clear h1
 go_enter Tryz.func77, Tryz.ntmps77
 go_upto_region 1 with (fail)
 obtain ⟨E, BX0, BX1⟩ := open2 w #[.slice A1 n1 c1, .bool g1, .slice B1 m1 d1] 70 #[.bool false, .slice none 0 0] 25
 replace S1 := hid (S1.out.up E.out)
 refine wp_region_S [(0, 0), (1, 1), (2, 0)] fun wd hb => ?_
 replace E := hid (E.out.trans hb)
 replace BX0 := hid (BX0.out.up hb)
 replace BX1 := hid (BX1.out.up hb)
 replace S1 := hid (S1.out.up hb)
 clear hb
 have EY := hid (Ext.refl wd)
 refine WE.qq 3 (.agg #[.slice A1 n1 c1, .bool g1, .slice B1 m1 d1]) rfl (fun w' hk => by obtain ⟨ce0, ce1, ce2⟩ := ((BX0.out.up EY.out).up hk).c3; go_simp) ?_
 refine WE.cc 4 ((varies_b (S1.out.up EY.out) HVD.out).mono ?_)
 rintro e wn ⟨rfl, hb⟩
 refine ⟨_, rfl, hb, ?_⟩
 replace EY := hid (EY.out.trans hb)
 clear hb
 refine WE.pp 5 (.bool false) ?_
 simp only [Act.put, pA, pB, pC]
 refine WE.done ?_
 go_upto_region 3 with (fail)
 refine wp_region_S [(0, 0), (1, 1), (2, 1), (3, 4)] fun wd hb => ?_
 replace EY := hid (EY.out.trans hb)
 clear hb
 refine WE.qq 7 (.agg #[.slice A1 n1 c1, .bool g1, .slice B1 m1 d1]) rfl (fun w' hk => by obtain ⟨ce0, ce1, ce2⟩ := ((BX0.out.up EY.out).up hk).c3; go_simp) ?_
 refine WE.cc 8 ((told_b (S1.out.up EY.out)).mono ?_)
 rintro e wn ⟨v1, rfl, x1, hb⟩
 obtain ⟨A11, n11, c11, g11, B11, m11, d11, rfl⟩ := x1.shape
 refine ⟨_, rfl, hb, ?_⟩
 replace EY := hid (EY.out.trans hb)
 have S11 := hid x1
 clear hb x1
 refine WE.cc 9 ((gcdL_l S11.out.worth HW.out HN.out).mono ?_)
 rintro e wn ⟨v1, rfl, x1, hb⟩
 obtain ⟨g12, A12, n12, c12, rfl⟩ := x1.shape
 refine ⟨_, rfl, hb, ?_⟩
 replace EY := hid (EY.out.trans hb)
 have Q12 := hid x1
 clear hb x1
 simp only [Act.put, pA, pB, pC]
 refine WE.store2 (g := (w.heap.size + 1)) (x := .bool g12) (y := .slice A12 n12 c12) (t := 25) rfl rfl (by rfl) (fun w hb => ?_) (BX1.out.up EY.out) (by rfl) fun ws hk hs => ?_
 ·obtain ⟨ce0, ce1⟩ := hb.c2; obtain ⟨f0, f1⟩ := hb.f2; go_simp
 intro hbx
 replace E := hid ((E.out.trans EY.out).keptG hk (by simp))
 replace BX1 := hid hbx
 replace Q12 := hid (Q12.out.kz hs)
 clear hk hs hbx
 replace EY := hid (Ext.refl ws)
 refine WE.done ?_
 have r0 := (BX1.out.up EY.out).cell (o := 0) (v := .bool g12) rfl
 have r1 := (BX1.out.up EY.out).cell (o := 1) (v := .slice A12 n12 c12) rfl
 repeat go_step
 exact bodyPost_ret (v := .agg #[.bool g12, .slice A12 n12 c12]) (by simp [results, Tryz.results77, go_sem, r0, r1]) rfl ⟨_, rfl, by unfold M.cm; rw [if_neg HE.out]; exact (Q12.out.up EY.out).wide (by omega), (E.out.trans EY.out)⟩

theorem common_b {w : World} {u : Value} {t : M.Tm} {κ : Int} {W : Nat} (h1 : IsL w u t κ W) (hw : W ≤ 100000) (hn : t.length ≤ 1000) : Calls Tryz.prog 77 #[u] w (GivesZ w (M.cm t : Int) (W + 3)) := by
 by_cases he : t = []
 ·exact common_none h1 hw hn he
 ·exact common_some h1 hw hn he

set_option maxHeartbeats 2000000 in
theorem up_b {w : World} {u v : Value} {Z Y : Int} {j k : Nat} (h1 : Worth w u Z j) (h2 : Worth w v Y k) (hj : j ≤ 1000000) (hk : k ≤ 1000000) :
 Calls Tryz.prog 105 #[u, v] w (GivesZ w (-((-Z).fdiv Y)) (max j 3 + 1)) := by
 obtain ⟨g1, A1, n1, c1, rfl⟩ := h1.shape
 have R1 := hid h1
 obtain ⟨g2, A2, n2, c2, rfl⟩ := h2.shape
 have R2 := hid h2
 have HJ := hid hj
 have HK := hid hk
 clear hj hk
 clear h1 h2
 go_enter Tryz.func105, Tryz.ntmps105
 go_upto_region 1 with (fail)
 obtain ⟨E, BX0, BX1, BX2⟩ := open3 w #[.bool g1, .slice A1 n1 c1] 25 #[.bool g2, .slice A2 n2 c2] 25 #[.bool false, .slice none 0 0] 25
 replace R1 := hid (R1.out.up E.out)
 replace R2 := hid (R2.out.up E.out)
 refine wp_region_L [(0, 0), (2, 0), (1, 2), (3, 2), (4, 0), (5, 0), (6, 5), (7, 3), (8, 3), (9, 4), (10, 4)] 25 #[.bool false, .slice none 0 0] fun wd hb => ?_
 replace E := hid (E.out.trans hb)
 replace BX0 := hid (BX0.out.up hb)
 replace BX1 := hid (BX1.out.up hb)
 replace BX2 := hid (BX2.out.up hb)
 replace R1 := hid (R1.out.up hb)
 replace R2 := hid (R2.out.up hb)
 clear hb
 have HL1BX0 := hid BX0.out.lt
 have HL1BX1 := hid BX1.out.lt
 have HL1BX2 := hid BX2.out.lt
 have HW1 := hid (show w.heap.size ≤ wd.heap.size from E.out.size)
 have EY := hid (Ext.refl wd)
 refine WE.qq 8 (.agg #[.bool g1, .slice A1 n1 c1]) rfl (fun w' hk => by obtain ⟨ce0, ce1⟩ := ((BX0.out.up EY.out).up hk).c2; go_simp) ?_
 refine WE.qq 10 (.agg #[.bool g2, .slice A2 n2 c2]) rfl (fun w' hk => by obtain ⟨ce0, ce1⟩ := ((BX1.out.up EY.out).up hk).c2; go_simp) ?_
 simp only [Act.put, pA, pB, pC]
 refine WE.callR (d := some 9) rfl rfl (by rfl) (f := 123) (args := #[(.agg #[.bool g1, .slice A1 n1 c1])]) (fun w => by go_simp) (fun wx hx0 => ?_)
 replace EY := hid (EY.out.trans hx0)
 clear hx0
 refine (neg_w (R1.out.up EY.out) (by have := HJ.out; omega)).mono ?_
 rintro e wn ⟨v1, rfl, x1, hb⟩
 obtain ⟨g11, A11, n11, c11, rfl⟩ := x1.shape
 refine ⟨_, rfl, hb, ?_⟩
 replace EY := hid (EY.out.trans hb)
 have Q11 := hid x1
 clear hb x1
 simp only [Act.put, pA, pB, pC]
 refine WE.callR (d := some 11) rfl rfl (by rfl) (f := 122) (args := #[(.agg #[.bool g11, .slice A11 n11 c11]), (.agg #[.bool g2, .slice A2 n2 c2])]) (fun w => by go_simp) (fun wx hx0 => ?_)
 replace EY := hid (EY.out.trans hx0)
 replace Q11 := hid (Q11.out.up hx0)
 clear hx0
 refine (floor_w Q11.out.worth (R2.out.up EY.out) HJ.out HK.out).mono ?_
 rintro e wn ⟨u1, v1, rfl, x1, y1, hb⟩
 obtain ⟨g12, A12, n12, c12, rfl⟩ := x1.shape
 obtain ⟨g13, A13, n13, c13, rfl⟩ := y1.shape
 refine ⟨_, rfl, hb, ?_⟩
 replace EY := hid (EY.out.trans hb)
 have Q12 := hid x1
 clear hb x1 y1
 refine WE.pp 7 (.tuple #[(.agg #[.bool g12, .slice A12 n12 c12]), (.agg #[.bool g13, .slice A13 n13 c13])]) ?_
 refine WE.pp 12 (.agg #[.bool g12, .slice A12 n12 c12]) ?_
 refine WE.any (d := some 13) rfl rfl (by rfl) (v := (.agg #[.bool g13, .slice A13 n13 c13])) (fun w' => by go_simp) ?_
 simp only [Act.put, pA, pB, pC]
 refine WE.var (d := some 5) rfl fun gV5 wv hx0 hbox hge hng => ?_
 have HNV5BX2 := hid (show gV5 ≠ (w.heap.size + 2) by have := HL1BX2.out; omega)
 have HGV5 := hid (show w.heap.size ≤ gV5 by have := HW1.out; omega)
 replace EY := hid (EY.out.trans hx0)
 replace Q12 := hid (Q12.out.up hx0)
 have V5 : Hid (Box wv gV5 #[.bool false, .slice none 0 0] 25) := hid hbox
 clear hx0 hbox hge hng
 simp only [Act.put, pA, pB, pC]
 refine WE.var (d := some 6) rfl fun gV6 wv hx0 hbox hge hng => ?_
 have HNV6BX2 := hid (show gV6 ≠ (w.heap.size + 2) by have := HL1BX2.out; omega)
 have HNV6V5 := hid (show gV6 ≠ gV5 by intro e; exact hng (by simp [e]))
 have HGV6 := hid (show w.heap.size ≤ gV6 by have := HW1.out; omega)
 replace EY := hid (EY.out.trans hx0)
 replace V5 := hid (V5.out.up hx0)
 replace Q12 := hid (Q12.out.up hx0)
 have V6 : Hid (Box wv gV6 #[.bool false, .slice none 0 0] 25) := hid hbox
 clear hx0 hbox hge hng
 simp only [Act.put, pA, pB, pC]
 refine WE.store2 (g := gV5) (x := .bool g12) (y := .slice A12 n12 c12) (t := 25) rfl rfl (by rfl) (fun w hb => ?_) V5.out (by rfl) fun ws hk hs => ?_
 ·obtain ⟨ce0, ce1⟩ := hb.c2; obtain ⟨f0, f1⟩ := hb.f2; go_simp
 intro hbx
 replace E := hid ((E.out.trans EY.out).keptG hk HGV5.out)
 replace BX2 := hid ((BX2.out.up EY.out).kept hk (by simpa using HNV5BX2.out.symm))
 replace V5 := hid hbx
 replace V6 := hid (V6.out.kept hk (by simpa using HNV6V5.out))
 replace Q12 := hid (Q12.out.kz hs)
 clear hk hs hbx
 replace EY := hid (Ext.refl ws)
 refine WE.store2 (g := gV6) (x := .bool g13) (y := .slice A13 n13 c13) (t := 25) rfl rfl (by rfl) (fun w hb => ?_) (V6.out.up EY.out) (by rfl) fun ws hk hs => ?_
 ·obtain ⟨ce0, ce1⟩ := hb.c2; obtain ⟨f0, f1⟩ := hb.f2; go_simp
 intro hbx
 replace E := hid ((E.out.trans EY.out).keptG hk HGV6.out)
 replace BX2 := hid ((BX2.out.up EY.out).kept hk (by simpa using HNV6BX2.out.symm))
 replace V5 := hid ((V5.out.up EY.out).kept hk (by simpa using HNV6V5.out.symm))
 replace Q12 := hid ((Q12.out.up EY.out).kz hs)
 clear hk hs hbx
 replace EY := hid (Ext.refl ws)
 refine WE.done ?_
 go_upto_region 2 with (fail)
 refine wp_region_S [(0, 0), (1, 1), (2, 4)] fun wd hb => ?_
 replace EY := hid (EY.out.trans hb)
 clear hb
 refine WE.qq 14 (.agg #[.bool g12, .slice A12 n12 c12]) rfl (fun w' hk => by obtain ⟨ce0, ce1⟩ := ((V5.out.up EY.out).up hk).c2; go_simp) ?_
 refine WE.cc 15 ((neg_w (Q12.out.up EY.out).worth (by have := HJ.out; omega)).mono ?_)
 rintro e wn ⟨v1, rfl, x1, hb⟩
 obtain ⟨g14, A14, n14, c14, rfl⟩ := x1.shape
 refine ⟨_, rfl, hb, ?_⟩
 replace EY := hid (EY.out.trans hb)
 have Q14 := hid x1
 clear hb x1
 simp only [Act.put, pA, pB, pC]
 refine WE.store2 (g := (w.heap.size + 2)) (x := .bool g14) (y := .slice A14 n14 c14) (t := 25) rfl rfl (by rfl) (fun w hb => ?_) (BX2.out.up EY.out) (by rfl) fun ws hk hs => ?_
 ·obtain ⟨ce0, ce1⟩ := hb.c2; obtain ⟨f0, f1⟩ := hb.f2; go_simp
 intro hbx
 replace E := hid ((E.out.trans EY.out).keptG hk (by simp))
 replace BX2 := hid hbx
 replace Q14 := hid (Q14.out.kz hs)
 clear hk hs hbx
 replace EY := hid (Ext.refl ws)
 refine WE.done ?_
 have r0 := (BX2.out.up EY.out).cell (o := 0) (v := .bool g14) rfl
 have r1 := (BX2.out.up EY.out).cell (o := 1) (v := .slice A14 n14 c14) rfl
 repeat go_step
 exact bodyPost_ret (v := .agg #[.bool g14, .slice A14 n14 c14]) (by simp [results, Tryz.results105, go_sem, r0, r1]) rfl ⟨_, rfl, (Q14.out.up EY.out), (E.out.trans EY.out)⟩

set_option maxHeartbeats 2000000 in
theorem class_some {w : World} {u : Value} {t : M.Tm} {κ : Int} {W : Nat} (h1 : IsL w u t κ W) (hw : W ≤ 50) (he : t ≠ []) :
 Calls Tryz.prog 79 #[u] w (fun e w' => e = .returned (.int .i64 1) ∧ Ext w w') := by
 obtain ⟨A1, n1, c1, g1, B1, m1, d1, rfl⟩ := h1.shape
 have S1 := hid h1
 have HVD := hid (show decide (0 < t.length) = true from decide_eq_true (List.length_pos_iff.2 he))
 clear hw he
 clear h1
 go_enter Tryz.func79, Tryz.ntmps79
 go_upto_region 1 with (fail)
 obtain ⟨E, BX0⟩ := open1 w #[.slice A1 n1 c1, .bool g1, .slice B1 m1 d1] 72
 replace S1 := hid (S1.out.up E.out)
 refine wp_region_S [(0, 0), (1, 0), (2, 1), (3, 0)] fun wd hb => ?_
 replace E := hid (E.out.trans hb)
 replace BX0 := hid (BX0.out.up hb)
 replace S1 := hid (S1.out.up hb)
 clear hb
 have EY := hid (Ext.refl wd)
 refine WE.pp 4 (.pointer (some ⟨(w.heap.size), 0, none⟩)) ?_
 refine WE.qq 5 (.agg #[.slice A1 n1 c1, .bool g1, .slice B1 m1 d1]) rfl (fun w' hk => by obtain ⟨ce0, ce1, ce2⟩ := ((BX0.out.up EY.out).up hk).c3; go_simp) ?_
 refine WE.cc 6 ((varies_b (S1.out.up EY.out) HVD.out).mono ?_)
 rintro e wn ⟨rfl, hb⟩
 refine ⟨_, rfl, hb, ?_⟩
 replace EY := hid (EY.out.trans hb)
 clear hb
 refine WE.pp 3 (.bool true) ?_
 simp only [Act.put, pA, pB, pC]
 refine WE.done ?_
 go_upto_region 2 with (fail)
 refine wp_region_S [(0, 0)] fun wd hb => ?_
 replace EY := hid (EY.out.trans hb)
 clear hb
 refine WE.pp 2 (.int .i64 (1)) ?_
 simp only [Act.put, pA, pB, pC]
 refine WE.done ?_
 repeat go_step
 go_ret
 exact ⟨rfl, (E.out.trans EY.out)⟩

set_option maxHeartbeats 2000000 in
theorem class_yes {w : World} {u : Value} {t : M.Tm} {κ : Int} {W : Nat} (h1 : IsL w u t κ W) (hw : W ≤ 50) (he : t = []) (hc : κ ≤ 0) :
 Calls Tryz.prog 79 #[u] w (fun e w' => e = .returned (.int .i64 2) ∧ Ext w w') := by
 obtain ⟨A1, n1, c1, g1, B1, m1, d1, rfl⟩ := h1.shape
 have S1 := hid h1
 have HW := hid hw
 have HE := hid he
 have HC := hid hc
 have HVD := hid (show decide (0 < t.length) = false by rw [he]; rfl)
 clear hw he hc
 clear h1
 go_enter Tryz.func79, Tryz.ntmps79
 go_upto_region 1 with (fail)
 obtain ⟨E, BX0⟩ := open1 w #[.slice A1 n1 c1, .bool g1, .slice B1 m1 d1] 72
 replace S1 := hid (S1.out.up E.out)
 refine wp_region_S [(0, 0), (1, 0), (2, 1), (3, 0)] fun wd hb => ?_
 replace E := hid (E.out.trans hb)
 replace BX0 := hid (BX0.out.up hb)
 replace S1 := hid (S1.out.up hb)
 clear hb
 have EY := hid (Ext.refl wd)
 refine WE.pp 4 (.pointer (some ⟨(w.heap.size), 0, none⟩)) ?_
 refine WE.qq 5 (.agg #[.slice A1 n1 c1, .bool g1, .slice B1 m1 d1]) rfl (fun w' hk => by obtain ⟨ce0, ce1, ce2⟩ := ((BX0.out.up EY.out).up hk).c3; go_simp) ?_
 refine WE.cc 6 ((varies_b (S1.out.up EY.out) HVD.out).mono ?_)
 rintro e wn ⟨rfl, hb⟩
 refine ⟨_, rfl, hb, ?_⟩
 replace EY := hid (EY.out.trans hb)
 clear hb
 refine WE.pp 3 (.bool false) ?_
 simp only [Act.put, pA, pB, pC]
 refine WE.done ?_
 go_upto_region 3 with (fail)
 refine wp_region_S [(0, 0), (1, 1), (2, 0)] fun wd hb => ?_
 replace EY := hid (EY.out.trans hb)
 clear hb
 refine WE.qq 8 (.agg #[.slice A1 n1 c1, .bool g1, .slice B1 m1 d1]) rfl (fun w' hk => by obtain ⟨ce0, ce1, ce2⟩ := ((BX0.out.up EY.out).up hk).c3; go_simp) ?_
 refine WE.cc 9 ((holds_b (S1.out.up EY.out) (ZList.nil _ 0 (Nat.zero_le _) none) (fun x hx => by simp at hx) HW.out (by rw [HE.out]; decide) (b := true) (by rw [HE.out, M.atT_nil, Int.add_zero]; exact decide_eq_true HC.out)).mono ?_)
 rintro e wn ⟨rfl, hb⟩
 refine ⟨_, rfl, hb, ?_⟩
 replace EY := hid (EY.out.trans hb)
 clear hb
 refine WE.pp 7 (.bool true) ?_
 simp only [Act.put, pA, pB, pC]
 refine WE.done ?_
 go_upto_region 4 with (fail)
 refine wp_region_S [(0, 0)] fun wd hb => ?_
 replace EY := hid (EY.out.trans hb)
 clear hb
 refine WE.pp 2 (.int .i64 (2)) ?_
 simp only [Act.put, pA, pB, pC]
 refine WE.done ?_
 repeat go_step
 go_ret
 exact ⟨rfl, (E.out.trans EY.out)⟩

set_option maxHeartbeats 2000000 in
theorem class_no {w : World} {u : Value} {t : M.Tm} {κ : Int} {W : Nat} (h1 : IsL w u t κ W) (hw : W ≤ 50) (he : t = []) (hc : ¬ κ ≤ 0) :
 Calls Tryz.prog 79 #[u] w (fun e w' => e = .returned (.int .i64 3) ∧ Ext w w') := by
 obtain ⟨A1, n1, c1, g1, B1, m1, d1, rfl⟩ := h1.shape
 have S1 := hid h1
 have HW := hid hw
 have HE := hid he
 have HC := hid hc
 have HVD := hid (show decide (0 < t.length) = false by rw [he]; rfl)
 clear hw he hc
 clear h1
 go_enter Tryz.func79, Tryz.ntmps79
 go_upto_region 1 with (fail)
 obtain ⟨E, BX0⟩ := open1 w #[.slice A1 n1 c1, .bool g1, .slice B1 m1 d1] 72
 replace S1 := hid (S1.out.up E.out)
 refine wp_region_S [(0, 0), (1, 0), (2, 1), (3, 0)] fun wd hb => ?_
 replace E := hid (E.out.trans hb)
 replace BX0 := hid (BX0.out.up hb)
 replace S1 := hid (S1.out.up hb)
 clear hb
 have EY := hid (Ext.refl wd)
 refine WE.pp 4 (.pointer (some ⟨(w.heap.size), 0, none⟩)) ?_
 refine WE.qq 5 (.agg #[.slice A1 n1 c1, .bool g1, .slice B1 m1 d1]) rfl (fun w' hk => by obtain ⟨ce0, ce1, ce2⟩ := ((BX0.out.up EY.out).up hk).c3; go_simp) ?_
 refine WE.cc 6 ((varies_b (S1.out.up EY.out) HVD.out).mono ?_)
 rintro e wn ⟨rfl, hb⟩
 refine ⟨_, rfl, hb, ?_⟩
 replace EY := hid (EY.out.trans hb)
 clear hb
 refine WE.pp 3 (.bool false) ?_
 simp only [Act.put, pA, pB, pC]
 refine WE.done ?_
 go_upto_region 3 with (fail)
 refine wp_region_S [(0, 0), (1, 1), (2, 0)] fun wd hb => ?_
 replace EY := hid (EY.out.trans hb)
 clear hb
 refine WE.qq 8 (.agg #[.slice A1 n1 c1, .bool g1, .slice B1 m1 d1]) rfl (fun w' hk => by obtain ⟨ce0, ce1, ce2⟩ := ((BX0.out.up EY.out).up hk).c3; go_simp) ?_
 refine WE.cc 9 ((holds_b (S1.out.up EY.out) (ZList.nil _ 0 (Nat.zero_le _) none) (fun x hx => by simp at hx) HW.out (by rw [HE.out]; decide) (b := false) (by rw [HE.out, M.atT_nil, Int.add_zero]; exact decide_eq_false HC.out)).mono ?_)
 rintro e wn ⟨rfl, hb⟩
 refine ⟨_, rfl, hb, ?_⟩
 replace EY := hid (EY.out.trans hb)
 clear hb
 refine WE.pp 7 (.bool false) ?_
 simp only [Act.put, pA, pB, pC]
 refine WE.done ?_
 go_upto_region 5 with (fail)
 refine wp_region_S [(0, 0)] fun wd hb => ?_
 replace EY := hid (EY.out.trans hb)
 clear hb
 refine WE.pp 2 (.int .i64 (3)) ?_
 simp only [Act.put, pA, pB, pC]
 refine WE.done ?_
 repeat go_step
 go_ret
 exact ⟨rfl, (E.out.trans EY.out)⟩

theorem class_b {w : World} {u : Value} {t : M.Tm} {κ : Int} {W : Nat} (h1 : IsL w u t κ W) (hw : W ≤ 50) {c : Int} (hc : M.nC t κ = c) : Calls Tryz.prog 79 #[u] w (fun e w' => e = .returned (.int .i64 c) ∧ Ext w w') := by
 subst hc
 by_cases he : t = []
 ·by_cases hk : κ ≤ 0
  ·rw [show M.nC t κ = 2 by rw [he, M.nC_nil, if_pos hk]]; exact class_yes h1 hw he hk
  ·rw [show M.nC t κ = 3 by rw [he, M.nC_nil, if_neg hk]]; exact class_no h1 hw he hk
 ·rw [M.nC_some he]; exact class_some h1 hw he

end Go.Proofs.YtklmnmkmpkobhaaGreat
