/-
  WHAT: of every two trees whether they are any, how many nodes, how deep, their words, whether they are the same (TreeForms).
  CONDITION: what it reads is of bulk at most 1,048,576 (the statement's own bound).
-/
import Derived.Test.YtceplnfjlncekaaQVOpen
import Derived.Test.YtceplnfjlncekaaQVForm
import Derived.Test.YtceplnfjlncekaaQTFew
import Derived.Test.YtceplnfjlncekaaQTIs
import Derived.Test.YtceplnfjlncekaaQUKnown
import Derived.JoinedCond
namespace Go.Proofs.Ytceplnfjlncekaa
set_option linter.unusedSimpArgs false
set_option linter.unusedVariables false
open Go.ChangeShapes Go.WideShapes Go.ChangeAt Go.RowKit

set_option maxHeartbeats 16000000 in
set_option maxRecDepth 100000 in
theorem treeForms_walk (W : World) {v v' : Value} (t : M.T) (ht : IsT W t v) (u : M.T) (hu : IsT W u v') (hsz : M.cnt t ≤ 1048576) : Calls Try.prog 4 #[v, v'] W (GivesB W true) := by
  obtain ⟨A1, d1, rfl, hk1⟩ := ht
  obtain ⟨A2, d2, rfl, hk2⟩ := hu
  have HT1 : Hid (∀ w', Ext W w' → IsT w' t (tv t.list t.tok A1 t.kids.length d1)) := hid fun w' e => ⟨A1, d1, rfl, hk1.up e⟩
  have HT2 : Hid (∀ w', Ext W w' → IsT w' u (tv u.list u.tok A2 u.kids.length d2)) := hid fun w' e => ⟨A2, d2, rfl, hk2.up e⟩
  have HWL := hid (show (M.wds t).length ≤ 1000000000 by have := M.wds_cnt t; omega)
  obtain ⟨L1, hL1⟩ : ∃ L, t.list = L := ⟨_, rfl⟩
  obtain ⟨TK1, hTK1⟩ : ∃ x, t.tok = x := ⟨_, rfl⟩
  obtain ⟨K1, hK1⟩ : ∃ x, t.kids.length = x := ⟨_, rfl⟩
  obtain ⟨L2, hL2⟩ : ∃ L, u.list = L := ⟨_, rfl⟩
  obtain ⟨TK2, hTK2⟩ : ∃ x, u.tok = x := ⟨_, rfl⟩
  obtain ⟨K2, hK2⟩ : ∃ x, u.kids.length = x := ⟨_, rfl⟩
  rw [hL1, hTK1, hK1] at HT1 ⊢
  rw [hL2, hTK2, hK2] at HT2 ⊢
  clear hk1 hk2 hL1 hTK1 hK1 hL2 hTK2 hK2 hsz
  obtain ⟨WB, hWB⟩ : ∃ WB, WB = boxed2 W L1 TK1 A1 K1 d1 L2 TK2 A2 K2 d2 := ⟨_, rfl⟩
  have HB0 := hid (show Ext W (boxed2 W L1 TK1 A1 K1 d1 L2 TK2 A2 K2 d2) from alloc_two W (.cells #[.bool L1, .int .i64 TK1.1, str TK1.2, .slice A1 K1 d1] 35) (.cells #[.bool L2, .int .i64 TK2.1, str TK2.2, .slice A2 K2 d2] 35))
  obtain ⟨f1, hf1⟩ : ∃ f, M.fewN t 70 = f := ⟨_, rfl⟩
  have HF1 := hid (show ∀ w', Ext (boxed2 W L1 TK1 A1 K1 d1 L2 TK2 A2 K2 d2) w' → Calls Try.prog 14 #[tv L1 TK1 A1 K1 d1, .int .i64 70] w' (GivesB w' f1) from fun w' e => by have := fewTree_n t (HT1.out w' (HB0.out.trans e)) (m := 70) (by omega); rwa [hf1] at this)
  obtain ⟨f2, hf2⟩ : ∃ f, M.fewN u 70 = f := ⟨_, rfl⟩
  have HF2 := hid (show ∀ w', Ext (boxed2 W L1 TK1 A1 K1 d1 L2 TK2 A2 K2 d2) w' → Calls Try.prog 14 #[tv L2 TK2 A2 K2 d2, .int .i64 70] w' (GivesB w' f2) from fun w' e => by have := fewTree_n u (HT2.out w' (HB0.out.trans e)) (m := 70) (by omega); rwa [hf2] at this)
  have HFV1 := hid hf1
  clear hf1 hf2
  cases f1
  · skip
    go_enter Try.func4, Try.ntmps4
    go_wp2_with fail
    refine (known9_n _).mono ?_
    rintro e w1 ⟨rfl, hx⟩
    have E := hid hx
    obtain ⟨⟨b0, b1, b2, b3⟩, p0, p1, p2, p3⟩ := box44 hx
    clear hx
    go_wp2_with fail
    refine (HF1.out _ E.out).mono ?_
    rintro e w' ⟨rfl, hx⟩
    replace E := hid (E.out.trans hx)
    replace b0 := hx.cell b0
    replace b1 := hx.cell b1
    replace b2 := hx.cell b2
    replace b3 := hx.cell b3
    replace p0 := hx.cell p0
    replace p1 := hx.cell p1
    replace p2 := hx.cell p2
    replace p3 := hx.cell p3
    clear hx
    go_wp2_with fail
    go_ret
    exact ⟨rfl, (alloc_two W _ _).trans E.out⟩
  cases f2
  · skip
    go_enter Try.func4, Try.ntmps4
    go_wp2_with fail
    refine (known9_n _).mono ?_
    rintro e w1 ⟨rfl, hx⟩
    have E := hid hx
    obtain ⟨⟨b0, b1, b2, b3⟩, p0, p1, p2, p3⟩ := box44 hx
    clear hx
    go_wp2_with fail
    refine (HF1.out _ E.out).mono ?_
    rintro e w' ⟨rfl, hx⟩
    replace E := hid (E.out.trans hx)
    replace b0 := hx.cell b0
    replace b1 := hx.cell b1
    replace b2 := hx.cell b2
    replace b3 := hx.cell b3
    replace p0 := hx.cell p0
    replace p1 := hx.cell p1
    replace p2 := hx.cell p2
    replace p3 := hx.cell p3
    clear hx
    go_wp2_with fail
    refine (HF2.out _ E.out).mono ?_
    rintro e w' ⟨rfl, hx⟩
    replace E := hid (E.out.trans hx)
    replace b0 := hx.cell b0
    replace b1 := hx.cell b1
    replace b2 := hx.cell b2
    replace b3 := hx.cell b3
    replace p0 := hx.cell p0
    replace p1 := hx.cell p1
    replace p2 := hx.cell p2
    replace p3 := hx.cell p3
    clear hx
    go_wp2_with fail
    go_ret
    exact ⟨rfl, (alloc_two W _ _).trans E.out⟩
  obtain ⟨z, hz⟩ : ∃ z, M.isU t = z := ⟨_, rfl⟩
  have HI := hid (show ∀ w', Ext (boxed2 W L1 TK1 A1 K1 d1 L2 TK2 A2 K2 d2) w' → Calls Try.prog 15 #[tv L1 TK1 A1 K1 d1] w' (GivesB w' z) from fun w' e => by have := is_t t (HT1.out w' (HB0.out.trans e)) (M.txtN_few t HFV1.out); rwa [hz] at this)
  have RI := hid (show ∀ w', Ext (boxed2 W L1 TK1 A1 K1 d1 L2 TK2 A2 K2 d2) w' → Calls Try.prog 16 #[tv L1 TK1 A1 K1 d1] w' (GivesB w' z) from fun w' e => by have := rIs_n t (HT1.out w' (HB0.out.trans e)) (M.txtN_few t HFV1.out); rwa [M.isT_isU, hz] at this)
  obtain ⟨N1, hN1⟩ : ∃ z, min (M.cnt t) 401 = z := ⟨_, rfl⟩
  have HC := hid (show ∀ w', Ext (boxed2 W L1 TK1 A1 K1 d1 L2 TK2 A2 K2 d2) w' → Calls Try.prog 17 #[tv L1 TK1 A1 K1 d1] w' (GivesI w' (N1 : Int)) from fun w' e => by have := count_t t (HT1.out w' (HB0.out.trans e)); rwa [hN1] at this)
  have RC := hid (show ∀ w', Ext (boxed2 W L1 TK1 A1 K1 d1 L2 TK2 A2 K2 d2) w' → Calls Try.prog 18 #[tv L1 TK1 A1 K1 d1] w' (GivesI w' (N1 : Int)) from fun w' e => by have := rCount_n t (HT1.out w' (HB0.out.trans e)); rwa [hN1] at this)
  obtain ⟨N2, hN2⟩ : ∃ z, min (M.dep t) 61 = z := ⟨_, rfl⟩
  have HD := hid (show ∀ w', Ext (boxed2 W L1 TK1 A1 K1 d1 L2 TK2 A2 K2 d2) w' → Calls Try.prog 19 #[tv L1 TK1 A1 K1 d1] w' (GivesI w' (N2 : Int)) from fun w' e => by have := deep_t t (HT1.out w' (HB0.out.trans e)); rwa [hN2] at this)
  have RD := hid (show ∀ w', Ext (boxed2 W L1 TK1 A1 K1 d1 L2 TK2 A2 K2 d2) w' → Calls Try.prog 20 #[tv L1 TK1 A1 K1 d1] w' (GivesI w' (N2 : Int)) from fun w' e => by have := rDeep_n t (HT1.out w' (HB0.out.trans e)); rwa [hN2] at this)
  have HW := hid (show ∀ w', Ext (boxed2 W L1 TK1 A1 K1 d1 L2 TK2 A2 K2 d2) w' → Calls Try.prog 22 #[tv L1 TK1 A1 K1 d1] w' (GivesTs w' (M.wds t)) from fun w' e => words_t t (HT1.out w' (HB0.out.trans e)) HWL.out)
  have RW := hid (show ∀ w', Ext (boxed2 W L1 TK1 A1 K1 d1 L2 TK2 A2 K2 d2) w' → Calls Try.prog 23 #[tv L1 TK1 A1 K1 d1] w' (GivesTs w' (M.wds t)) from fun w' e => rOf_n t (HT1.out w' (HB0.out.trans e)) HWL.out)
  obtain ⟨NW, hNW⟩ : ∃ n, (M.wds t).length = n := ⟨_, rfl⟩
  have HNW := hid hNW
  have HSM := hid (show ∀ (w' : World) (A : Option Addr) (c : Nat) (A' : Option Addr) (c' : Nat), TList w' (.slice A NW c) (M.wds t) → TList w' (.slice A' NW c') (M.wds t) → Calls Try.prog 21 #[.slice A NW c, .slice A' NW c'] w' (GivesB w' true) from fun w' A c A' c' h1 h2 => by have := rSame_n h1 h2; rwa [decide_eq_true rfl] at this)
  obtain ⟨s, hs⟩ : ∃ z, M.sameT t u = z := ⟨_, rfl⟩
  have HS := hid (show ∀ w', Ext (boxed2 W L1 TK1 A1 K1 d1 L2 TK2 A2 K2 d2) w' → Calls Try.prog 24 #[tv L1 TK1 A1 K1 d1, tv L2 TK2 A2 K2 d2] w' (GivesB w' s) from fun w' e => by have := same_t t (HT1.out w' (HB0.out.trans e)) (HT2.out w' (HB0.out.trans e)); rwa [hs] at this)
  have RS := hid (show ∀ w', Ext (boxed2 W L1 TK1 A1 K1 d1 L2 TK2 A2 K2 d2) w' → Calls Try.prog 25 #[tv L1 TK1 A1 K1 d1, tv L2 TK2 A2 K2 d2] w' (GivesB w' s) from fun w' e => by have := rSameT_n t (HT1.out w' (HB0.out.trans e)) (HT2.out w' (HB0.out.trans e)); rwa [hs] at this)
  clear hz hN1 hN2 hNW hs hWB
  go_enter Try.func4, Try.ntmps4
  go_wp2_with fail
  refine (known9_n _).mono ?_
  rintro e w1 ⟨rfl, hx⟩
  have E := hid hx
  obtain ⟨⟨b0, b1, b2, b3⟩, p0, p1, p2, p3⟩ := box44 hx
  clear hx
  go_wp2_with fail
  refine (HF1.out _ E.out).mono ?_
  rintro e w' ⟨rfl, hx⟩
  replace E := hid (E.out.trans hx)
  replace b0 := hx.cell b0
  replace b1 := hx.cell b1
  replace b2 := hx.cell b2
  replace b3 := hx.cell b3
  replace p0 := hx.cell p0
  replace p1 := hx.cell p1
  replace p2 := hx.cell p2
  replace p3 := hx.cell p3
  clear hx
  go_wp2_with fail
  refine (HF2.out _ E.out).mono ?_
  rintro e w' ⟨rfl, hx⟩
  replace E := hid (E.out.trans hx)
  replace b0 := hx.cell b0
  replace b1 := hx.cell b1
  replace b2 := hx.cell b2
  replace b3 := hx.cell b3
  replace p0 := hx.cell p0
  replace p1 := hx.cell p1
  replace p2 := hx.cell p2
  replace p3 := hx.cell p3
  clear hx
  obtain ⟨g1, hg1⟩ : ∃ g1, W.heap.size = g1 := ⟨_, rfl⟩
  obtain ⟨g2, hg2⟩ : ∃ g2, W.heap.size + 1 = g2 := ⟨_, rfl⟩
  rw [hg1] at b0 b1 b2 b3
  rw [hg2] at p0 p1 p2 p3
  have HG1 := hid hg1
  have HG2 := hid hg2
  clear hg1 hg2
  go_wp2_with fail
  rw [HG2.out, HG1.out]
  refine wp_region_D [(0, 0), (2, 0), (1, 1), (3, 1), (4, 0), (5, 0), (6, 0), (8, 0), (7, 1), (9, 1), (10, 0), (11, 0), (12, 0), (13, 0), (15, 0), (14, 1), (16, 1), (17, 0), (18, 0), (19, 0), (20, 0), (22, 0), (21, 1), (23, 1), (24, 1), (25, 0), (26, 0), (27, 0), (28, 0), (30, 0), (31, 0), (29, 1), (32, 1), (33, 0), (34, 0), (35, 0)] fun wd hb => ?_
  replace b0 := hb.cell b0
  replace b1 := hb.cell b1
  replace b2 := hb.cell b2
  replace b3 := hb.cell b3
  replace p0 := hb.cell p0
  replace p1 := hb.cell p1
  replace p2 := hb.cell p2
  replace p3 := hb.cell p3
  have E0 := hid (E.out.trans hb)
  obtain ⟨WC, hWC⟩ : ∃ WC, WC = wd := ⟨_, rfl⟩
  have E6 := hid (Ext.refl wd)
  clear hb hWC
  refine WE.q 15 (tv L1 TK1 A1 K1 d1) rfl (fun w' hk => by have x0 := hk.cell (E6.out.cell b0); have x1 := hk.cell (E6.out.cell b1); have x2 := hk.cell (E6.out.cell b2); have x3 := hk.cell (E6.out.cell b3); go_simp) ?_
  simp only [Act.put, pA, pB, pC]
  refine WE.q 17 (tv L1 TK1 A1 K1 d1) rfl (fun w' hk => by have x0 := hk.cell (E6.out.cell b0); have x1 := hk.cell (E6.out.cell b1); have x2 := hk.cell (E6.out.cell b2); have x3 := hk.cell (E6.out.cell b3); go_simp) ?_
  simp only [Act.put, pA, pB, pC]
  refine WE.c 16 ((HI.out _ (E0.out.trans E6.out)).mono ?_)
  rintro e w6 ⟨rfl, hb6⟩
  refine ⟨_, rfl, hb6, ?_⟩
  replace E6 := hid (E6.out.trans hb6)
  clear hb6
  simp only [Act.put, pA, pB, pC]
  refine WE.c 18 ((RI.out _ (E0.out.trans E6.out)).mono ?_)
  rintro e w6 ⟨rfl, hb6⟩
  refine ⟨_, rfl, hb6, ?_⟩
  replace E6 := hid (E6.out.trans hb6)
  clear hb6
  simp only [Act.put, pA, pB, pC]
  refine WE.p 19 (.bool true) ?_
  simp only [Act.put, pA, pB, pC]
  refine WE.p 20 (.bool true) ?_
  simp only [Act.put, pA, pB, pC]
  refine WE.q 21 (tv L1 TK1 A1 K1 d1) rfl (fun w' hk => by have x0 := hk.cell (E6.out.cell b0); have x1 := hk.cell (E6.out.cell b1); have x2 := hk.cell (E6.out.cell b2); have x3 := hk.cell (E6.out.cell b3); go_simp) ?_
  simp only [Act.put, pA, pB, pC]
  refine WE.q 23 (tv L1 TK1 A1 K1 d1) rfl (fun w' hk => by have x0 := hk.cell (E6.out.cell b0); have x1 := hk.cell (E6.out.cell b1); have x2 := hk.cell (E6.out.cell b2); have x3 := hk.cell (E6.out.cell b3); go_simp) ?_
  simp only [Act.put, pA, pB, pC]
  refine WE.c 22 ((HC.out _ (E0.out.trans E6.out)).mono ?_)
  rintro e w6 ⟨rfl, hb6⟩
  refine ⟨_, rfl, hb6, ?_⟩
  replace E6 := hid (E6.out.trans hb6)
  clear hb6
  simp only [Act.put, pA, pB, pC]
  refine WE.c 24 ((RC.out _ (E0.out.trans E6.out)).mono ?_)
  rintro e w6 ⟨rfl, hb6⟩
  refine ⟨_, rfl, hb6, ?_⟩
  replace E6 := hid (E6.out.trans hb6)
  clear hb6
  simp only [Act.put, pA, pB, pC]
  refine WE.p 25 (.bool true) ?_
  simp only [Act.put, pA, pB, pC]
  refine WE.p 26 (.bool true) ?_
  simp only [Act.put, pA, pB, pC]
  refine WE.p 27 (.bool true) ?_
  simp only [Act.put, pA, pB, pC]
  refine WE.q 28 (tv L1 TK1 A1 K1 d1) rfl (fun w' hk => by have x0 := hk.cell (E6.out.cell b0); have x1 := hk.cell (E6.out.cell b1); have x2 := hk.cell (E6.out.cell b2); have x3 := hk.cell (E6.out.cell b3); go_simp) ?_
  simp only [Act.put, pA, pB, pC]
  refine WE.q 30 (tv L1 TK1 A1 K1 d1) rfl (fun w' hk => by have x0 := hk.cell (E6.out.cell b0); have x1 := hk.cell (E6.out.cell b1); have x2 := hk.cell (E6.out.cell b2); have x3 := hk.cell (E6.out.cell b3); go_simp) ?_
  simp only [Act.put, pA, pB, pC]
  refine WE.c 29 ((HD.out _ (E0.out.trans E6.out)).mono ?_)
  rintro e w6 ⟨rfl, hb6⟩
  refine ⟨_, rfl, hb6, ?_⟩
  replace E6 := hid (E6.out.trans hb6)
  clear hb6
  simp only [Act.put, pA, pB, pC]
  refine WE.c 31 ((RD.out _ (E0.out.trans E6.out)).mono ?_)
  rintro e w6 ⟨rfl, hb6⟩
  refine ⟨_, rfl, hb6, ?_⟩
  replace E6 := hid (E6.out.trans hb6)
  clear hb6
  simp only [Act.put, pA, pB, pC]
  refine WE.p 32 (.bool true) ?_
  simp only [Act.put, pA, pB, pC]
  refine WE.p 33 (.bool true) ?_
  simp only [Act.put, pA, pB, pC]
  refine WE.p 34 (.bool true) ?_
  simp only [Act.put, pA, pB, pC]
  refine WE.q 35 (tv L1 TK1 A1 K1 d1) rfl (fun w' hk => by have x0 := hk.cell (E6.out.cell b0); have x1 := hk.cell (E6.out.cell b1); have x2 := hk.cell (E6.out.cell b2); have x3 := hk.cell (E6.out.cell b3); go_simp) ?_
  simp only [Act.put, pA, pB, pC]
  refine WE.q 37 (tv L1 TK1 A1 K1 d1) rfl (fun w' hk => by have x0 := hk.cell (E6.out.cell b0); have x1 := hk.cell (E6.out.cell b1); have x2 := hk.cell (E6.out.cell b2); have x3 := hk.cell (E6.out.cell b3); go_simp) ?_
  simp only [Act.put, pA, pB, pC]
  refine WE.c 36 ((HW.out _ (E0.out.trans E6.out)).mono ?_)
  rintro e w6 ⟨v6, rfl, hv6, hb6⟩
  refine ⟨_, rfl, hb6, ?_⟩
  obtain ⟨B6, c6, rfl⟩ := hv6.shape
  rw [HNW.out] at hv6 ⊢
  have HV6 := hid hv6
  replace E6 := hid (E6.out.trans hb6)
  clear hb6 hv6
  simp only [Act.put, pA, pB, pC]
  refine WE.c 38 ((RW.out _ (E0.out.trans E6.out)).mono ?_)
  rintro e w6 ⟨v6, rfl, hv6, hb6⟩
  refine ⟨_, rfl, hb6, ?_⟩
  obtain ⟨B7, c7, rfl⟩ := hv6.shape
  rw [HNW.out] at hv6 ⊢
  have HV7 := hid hv6
  replace HV6 := hid (HV6.out.up hb6)
  replace E6 := hid (E6.out.trans hb6)
  clear hb6 hv6
  simp only [Act.put, pA, pB, pC]
  refine WE.c 39 ((HSM.out _ _ _ _ _ HV6.out HV7.out).mono ?_)
  rintro e w6 ⟨rfl, hb6⟩
  refine ⟨_, rfl, hb6, ?_⟩
  replace E6 := hid (E6.out.trans hb6)
  clear hb6
  simp only [Act.put, pA, pB, pC]
  refine WE.p 40 (.bool true) ?_
  simp only [Act.put, pA, pB, pC]
  refine WE.p 41 (.bool true) ?_
  simp only [Act.put, pA, pB, pC]
  refine WE.q 42 (tv L1 TK1 A1 K1 d1) rfl (fun w' hk => by have x0 := hk.cell (E6.out.cell b0); have x1 := hk.cell (E6.out.cell b1); have x2 := hk.cell (E6.out.cell b2); have x3 := hk.cell (E6.out.cell b3); go_simp) ?_
  simp only [Act.put, pA, pB, pC]
  refine WE.q 43 (tv L2 TK2 A2 K2 d2) rfl (fun w' hk => by have x0 := hk.cell (E6.out.cell p0); have x1 := hk.cell (E6.out.cell p1); have x2 := hk.cell (E6.out.cell p2); have x3 := hk.cell (E6.out.cell p3); go_simp) ?_
  simp only [Act.put, pA, pB, pC]
  refine WE.q 45 (tv L1 TK1 A1 K1 d1) rfl (fun w' hk => by have x0 := hk.cell (E6.out.cell b0); have x1 := hk.cell (E6.out.cell b1); have x2 := hk.cell (E6.out.cell b2); have x3 := hk.cell (E6.out.cell b3); go_simp) ?_
  simp only [Act.put, pA, pB, pC]
  refine WE.q 46 (tv L2 TK2 A2 K2 d2) rfl (fun w' hk => by have x0 := hk.cell (E6.out.cell p0); have x1 := hk.cell (E6.out.cell p1); have x2 := hk.cell (E6.out.cell p2); have x3 := hk.cell (E6.out.cell p3); go_simp) ?_
  simp only [Act.put, pA, pB, pC]
  refine WE.c 44 ((HS.out _ (E0.out.trans E6.out)).mono ?_)
  rintro e w6 ⟨rfl, hb6⟩
  refine ⟨_, rfl, hb6, ?_⟩
  replace E6 := hid (E6.out.trans hb6)
  clear hb6
  simp only [Act.put, pA, pB, pC]
  refine WE.c 47 ((RS.out _ (E0.out.trans E6.out)).mono ?_)
  rintro e w6 ⟨rfl, hb6⟩
  refine ⟨_, rfl, hb6, ?_⟩
  replace E6 := hid (E6.out.trans hb6)
  clear hb6
  simp only [Act.put, pA, pB, pC]
  refine WE.p 48 (.bool true) ?_
  simp only [Act.put, pA, pB, pC]
  refine WE.p 49 (.bool true) ?_
  simp only [Act.put, pA, pB, pC]
  refine WE.p 4 (.bool true) ?_
  simp only [Act.put, pA, pB, pC]
  refine WE.done ?_
  go_wp2_with fail
  go_ret
  exact ⟨rfl, (alloc_two W _ _).trans (E0.out.trans E6.out)⟩

theorem treeForms_bound {H : Type} {d0 d1 : DataW H} (hk : Rows.uptoSmall H [d0, d1] = true) : Rows.uptoBulk d0 ≤ 1048576 := by
  have h : Rows.uptoBulkAll [d0, d1] ≤ 1048576 := of_decide_eq_true hk
  simp only [Rows.uptoBulkAll] at h
  omega
set_option maxRecDepth 100000 in
theorem treeForms_lifted (os : Os) (started : os.Started) (H : Type) (enc : TypeId × Value → H) (F : Stop.Interp) :
    ReturnsInHanded {} Try.checked os 4 .any ((Rows.OpenSpec.upto Rows.treeFormsSpec).pre6 enc Try.prog Try.f4 Rows.treeFormsUptoRow.domain false) (((Rows.OpenSpec.upto Rows.treeFormsSpec).at F).post enc Try.prog Try.f4 false true false false) := by
  refine returnsInHanded_of_cond (C := Try.checked) (s := Rows.OpenSpec.upto Rows.treeFormsSpec) (k := Rows.uptoSmall) rfl own started (by kernel_rfl) Try.func4
    (OpenSpec.witness (enc := enc) (C := Try.checked) (s := Rows.OpenSpec.upto Rows.treeFormsSpec) (k := Rows.uptoSmall) rfl false ⟨#[], #[.agg #[.bool false, .int .i64 0, .string ⟨#[]⟩, .slice none 0 0], .agg #[.bool false, .int .i64 0, .string ⟨#[]⟩, .slice none 0 0]], []⟩ 8 (by kernel_rfl) (by kernel_rfl) (by kernel_rfl)
      (x := ([.agg [.lit (.bool false), .agg [.lit (.int .i64 0), .lit (.string [])], .nil], .agg [.lit (.bool false), .agg [.lit (.int .i64 0), .lit (.string [])], .nil]], [], [])) (by kernel_rfl) rfl (by kernel_rfl)) ?_
  intro W base args ds gs before hval0 hW _ hk _
  have hval : ∀ (j : Nat) t v, Try.f4.params[j]? = some t → args[j]? = some v → Value.okWide Try.prog W .any base t v := hval0
  have hW' := hW
  obtain ⟨p, q, hA0, hV, rfl, hfz, hnd⟩ := hW
  have hA : DataW.TrodAll enc Try.prog W 0 (fun _ => true) true Try.f4.params.toList args.toList ds p := hA0
  rw [Try.params4] at hA hval
  obtain ⟨v0, vs0, d0, ds0, p0, q0, hargs, rfl, rfl, h0, r0⟩ := trodAll_cons hA
  obtain ⟨v1, vs1, d1, ds1, p1, q1, rfl, rfl, rfl, h1, r1⟩ := trodAll_cons r0
  obtain ⟨rfl, rfl, rfl⟩ := trodAll_nil r1
  obtain rfl : args = #[v0, v1] := by cases args; simp_all
  obtain ⟨rfl, rfl⟩ := trodVars_none hV
  obtain ⟨t0, e0, c0⟩ := open_TreeB (hval 0 35 _ rfl rfl) h0
  obtain ⟨t1, e1, c1⟩ := open_TreeB (hval 1 35 _ rfl rfl) h1
  clear hA0 hval0
  have hb := treeForms_bound (d0 := d0) (d1 := d1) (by simpa using hk)
  refine (treeForms_walk W t0 e0 t1 e1 (by omega)).mono fun e W' ⟨he, hg⟩ => ?_
  subst he
  exact ⟨_, rfl, law_post (s := Rows.treeFormsSpec) hW' rfl rfl (by kernel_rfl) (by kernel_rfl) hg⟩

theorem treeForms_over : Rows.treeFormsUptoRow.holds Try.pinned (Rows.OpenSpec.upto Rows.treeFormsSpec) :=
  OpenClaim.holds_of_cond 4 Try.f4 rfl rfl rfl rfl rfl rfl rfl ⟨rfl, rfl, rfl, rfl, rfl⟩ rfl rfl rfl rfl rfl (by kernel_rfl) Try.func4 (by kernel_rfl)
    (of_decide_eq_true (by kernel_rfl)) (by unfold Func.isWrapper; first | (rw [if_pos (by decide +kernel)]; kernel_rfl) | (rw [if_neg (by decide +kernel)]; exact ⟨rfl, rfl⟩))
    (fun os started H enc _ F => treeForms_lifted os started H enc F)

theorem treeForms_proved : Rows.TreeFormsUptoSaid := treeForms_over

end Go.Proofs.Ytceplnfjlncekaa
