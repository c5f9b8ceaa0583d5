/-
  Layer 10, the laws: what package term's calls give; TermTells.
-/
import Derived.Test.YtaoboilkpgphaaaDoorKNamesB
import Derived.Test.YtaoboilkpgphaaaDoorJKC
namespace Go.Proofs.YtaoboilkpgphaaaDoor.Q
set_option linter.unusedSimpArgs false
set_option linter.unusedVariables false
open Go.RowKit

/-- What TermTells asks of the package's calls. -/
structure FaceT (T : World → Prop) : Prop where
 up_ : ∀ {w w' : World}, T w → Ext w w' → T w'
 known_ : ∀ {w : World}, T w → Calls Tryd.prog 8 #[] w (GivesB w true)
 is_ : ∀ {t : M.Tm} {v : Value} {w : World}, T w → IsTm w t v → M.kfewT t = true → Calls Tryd.prog 13 #[v] w (GivesB w (M.kIs t))
 count_ : ∀ {t : M.Tm} {v : Value} {w : World}, IsTm w t v → M.kfewT t = true → Calls Tryd.prog 14 #[v] w (GivesI w ((min (M.kcnt t) 401 : Nat) : Int))
 same_ : ∀ {t t' : M.Tm} {v v' : Value} {w : World}, IsTm w t v → IsTm w t' v' → M.kfewT t = true → M.kfewT t' = true → Calls Tryd.prog 16 #[v, v'] w (GivesB w (M.ksame t t'))
 sigs_ : ∀ {t : M.Tm} {v : Value} {w : World}, T w → IsTm w t v → M.kfewT t = true → Calls Tryd.prog 12 #[v] w (GivesSgs w (if M.kIs t = true then M.kSigs t else ([], true)))
set_option maxHeartbeats 16000000 in
set_option maxRecDepth 100000 in
theorem tells_n {T : World → Prop} (F : FaceT T) {t t' : M.Tm} {v v' : Value} {w : World} (h : IsTm w t v) (h' : IsTm w t' v') (hT0 : T w) : Calls Tryd.prog 3 #[v, v'] w (GivesB w true) := by
 obtain ⟨N1, nn1, nc1, A1, n1, c1, rfl, -, -, -, -, -, -⟩ := h.shape
 obtain ⟨op1, hop1⟩ : ∃ x, t.op = x := ⟨_, rfl⟩
 obtain ⟨g1, hg1⟩ : ∃ x, t.g = x := ⟨_, rfl⟩
 obtain ⟨nm1, hnm1⟩ : ∃ x, t.name = x := ⟨_, rfl⟩
 obtain ⟨so1, hso1⟩ : ∃ x, t.sort = x := ⟨_, rfl⟩
 rw [hop1, hg1, hnm1, hso1] at h ⊢
 clear hop1 hg1 hnm1 hso1
 obtain ⟨N2, nn2, nc2, A2, n2, c2, rfl, -, -, -, -, -, -⟩ := h'.shape
 obtain ⟨op2, hop2⟩ : ∃ x, t'.op = x := ⟨_, rfl⟩
 obtain ⟨g2, hg2⟩ : ∃ x, t'.g = x := ⟨_, rfl⟩
 obtain ⟨nm2, hnm2⟩ : ∃ x, t'.name = x := ⟨_, rfl⟩
 obtain ⟨so2, hso2⟩ : ∃ x, t'.sort = x := ⟨_, rfl⟩
 rw [hop2, hg2, hnm2, hso2] at h' ⊢
 clear hop2 hg2 hnm2 hso2
 obtain ⟨f1, hf1⟩ : ∃ b, M.kfewT t = b := ⟨_, rfl⟩
 obtain ⟨f2, hf2⟩ : ∃ b, M.kfewT t' = b := ⟨_, rfl⟩
 have HKN := hid (show ∀ w', Ext w w' → Calls Tryd.prog 8 #[] w' (GivesB w' true) from fun w' e => F.known_ (F.up_ hT0 e))
 have HF1 := hid (show ∀ w', Ext w w' → Calls Tryd.prog 9 #[kv op1 g1 N1 nn1 nc1 nm1 so1 A1 n1 c1] w' (GivesB w' f1) from fun w' e => hf1 ▸ fewTerm_n t (h.up e))
 have HF2 := hid (show ∀ w', Ext w w' → Calls Tryd.prog 9 #[kv op2 g2 N2 nn2 nc2 nm2 so2 A2 n2 c2] w' (GivesB w' f2) from fun w' e => hf2 ▸ fewTerm_n t' (h'.up e))
 have HB1 := hid (show Box ((w.alloc (.cells #[.int .i64 op1, .bool g1, .slice N1 nn1 nc1, str nm1, .int .i64 so1, .slice A1 n1 c1] 27)).alloc (.cells #[.int .i64 op2, .bool g2, .slice N2 nn2 nc2, str nm2, .int .i64 so2, .slice A2 n2 c2] 27)) w.heap.size #[.int .i64 op1, .bool g1, .slice N1 nn1 nc1, str nm1, .int .i64 so1, .slice A1 n1 c1] 27 from (Box.new w _ _).alloc _)
 have HB2 := hid (show Box ((w.alloc (.cells #[.int .i64 op1, .bool g1, .slice N1 nn1 nc1, str nm1, .int .i64 so1, .slice A1 n1 c1] 27)).alloc (.cells #[.int .i64 op2, .bool g2, .slice N2 nn2 nc2, str nm2, .int .i64 so2, .slice A2 n2 c2] 27)) (w.heap.size + 1) #[.int .i64 op2, .bool g2, .slice N2 nn2 nc2, str nm2, .int .i64 so2, .slice A2 n2 c2] 27 from Box.at_ (w := w.alloc (.cells #[.int .i64 op1, .bool g1, .slice N1 nn1 nc1, str nm1, .int .i64 so1, .slice A1 n1 c1] 27)) _ _ (by simp))
 have E := hid (Ext.refl ((w.alloc (.cells #[.int .i64 op1, .bool g1, .slice N1 nn1 nc1, str nm1, .int .i64 so1, .slice A1 n1 c1] 27)).alloc (.cells #[.int .i64 op2, .bool g2, .slice N2 nn2 nc2, str nm2, .int .i64 so2, .slice A2 n2 c2] 27)))
 cases f1
 ·clear h h' hf1 hf2
  go_enter Tryd.func3, Tryd.ntmps3
  go_wp2_with fail
  refine (HKN.out _ ((alloc_two w _ _).trans E.out)).mono ?_
  rintro e w1 ⟨rfl, hb⟩
  replace E := hid (E.out.trans hb)
  clear hb
  obtain ⟨⟨a0, a1, a2, a3, a4, a5⟩, -, -⟩ := boxF6 (HB1.out.up E.out)
  obtain ⟨⟨b0, b1, b2, b3, b4, b5⟩, -, -⟩ := boxF6 (HB2.out.up E.out)
  go_wp2_with fail
  refine (HF1.out _ ((alloc_two w _ _).trans E.out)).mono ?_
  rintro e w1 ⟨rfl, hb⟩
  clear a0 a1 a2 a3 a4 a5 b0 b1 b2 b3 b4 b5
  replace E := hid (E.out.trans hb)
  clear hb
  go_wp2_with fail
  go_ret
  exact ⟨rfl, (alloc_two w _ _).trans E.out⟩
 cases f2
 ·clear h h' hf1 hf2
  go_enter Tryd.func3, Tryd.ntmps3
  go_wp2_with fail
  refine (HKN.out _ ((alloc_two w _ _).trans E.out)).mono ?_
  rintro e w1 ⟨rfl, hb⟩
  replace E := hid (E.out.trans hb)
  clear hb
  obtain ⟨⟨a0, a1, a2, a3, a4, a5⟩, -, -⟩ := boxF6 (HB1.out.up E.out)
  obtain ⟨⟨b0, b1, b2, b3, b4, b5⟩, -, -⟩ := boxF6 (HB2.out.up E.out)
  go_wp2_with fail
  refine (HF1.out _ ((alloc_two w _ _).trans E.out)).mono ?_
  rintro e w1 ⟨rfl, hb⟩
  clear a0 a1 a2 a3 a4 a5 b0 b1 b2 b3 b4 b5
  replace E := hid (E.out.trans hb)
  clear hb
  obtain ⟨⟨a0, a1, a2, a3, a4, a5⟩, -, -⟩ := boxF6 (HB1.out.up E.out)
  obtain ⟨⟨b0, b1, b2, b3, b4, b5⟩, -, -⟩ := boxF6 (HB2.out.up E.out)
  go_wp2_with fail
  refine (HF2.out _ ((alloc_two w _ _).trans E.out)).mono ?_
  rintro e w1 ⟨rfl, hb⟩
  clear a0 a1 a2 a3 a4 a5 b0 b1 b2 b3 b4 b5
  replace E := hid (E.out.trans hb)
  clear hb
  go_wp2_with fail
  go_ret
  exact ⟨rfl, (alloc_two w _ _).trans E.out⟩
 obtain ⟨q, hq⟩ : ∃ b, M.kIs t = b := ⟨_, rfl⟩
 obtain ⟨kc, hkc⟩ : ∃ b, ((min (M.kcnt t) 401 : Nat) : Int) = b := ⟨_, rfl⟩
 obtain ⟨s, hs⟩ : ∃ b, M.ksame t t' = b := ⟨_, rfl⟩
 obtain ⟨P0, hP0⟩ : ∃ p, (if M.kIs t = true then M.kSigs t else ([], true)) = p := ⟨_, rfl⟩
 have hfe : M.kfew t = true ∧ M.kcnt t ≤ 1000000 := by
  unfold M.kfewT at hf1
  simp only [Bool.and_eq_true, decide_eq_true_eq] at hf1
  exact ⟨hf1.2, by omega⟩
 have HI := hid (show ∀ w', Ext w w' → Calls Tryd.prog 13 #[kv op1 g1 N1 nn1 nc1 nm1 so1 A1 n1 c1] w' (GivesB w' q) from fun w' e => hq ▸ F.is_ (F.up_ hT0 e) (h.up e) hf1)
 have HI2 := hid (show ∀ w', Ext w w' → Calls Tryd.prog 10 #[kv op1 g1 N1 nn1 nc1 nm1 so1 A1 n1 c1] w' (GivesB w' q) from fun w' e => hq ▸ rkIs_n t (h.up e) hfe.1)
 have HC := hid (show ∀ w', Ext w w' → Calls Tryd.prog 14 #[kv op1 g1 N1 nn1 nc1 nm1 so1 A1 n1 c1] w' (GivesI w' kc) from fun w' e => hkc ▸ F.count_ (h.up e) hf1)
 have HC2 := hid (show ∀ w', Ext w w' → Calls Tryd.prog 15 #[kv op1 g1 N1 nn1 nc1 nm1 so1 A1 n1 c1] w' (GivesI w' kc) from fun w' e => hkc ▸ rkCount_n t (h.up e))
 have HS := hid (show ∀ w', Ext w w' → Calls Tryd.prog 16 #[kv op1 g1 N1 nn1 nc1 nm1 so1 A1 n1 c1, kv op2 g2 N2 nn2 nc2 nm2 so2 A2 n2 c2] w' (GivesB w' s) from fun w' e => hs ▸ F.same_ (h.up e) (h'.up e) hf1 hf2)
 have HS2 := hid (show ∀ w', Ext w w' → Calls Tryd.prog 17 #[kv op1 g1 N1 nn1 nc1 nm1 so1 A1 n1 c1, kv op2 g2 N2 nn2 nc2 nm2 so2 A2 n2 c2] w' (GivesB w' s) from fun w' e => hs ▸ rkSame_n t (h.up e) (h'.up e))
 have HG := hid (show ∀ w', Ext w w' → Calls Tryd.prog 12 #[kv op1 g1 N1 nn1 nc1 nm1 so1 A1 n1 c1] w' (GivesSgs w' P0) from fun w' e => hP0 ▸ F.sigs_ (F.up_ hT0 e) (h.up e) hf1)
 have HG2 := hid (show ∀ w', Ext w w' → Calls Tryd.prog 11 #[kv op1 g1 N1 nn1 nc1 nm1 so1 A1 n1 c1] w' (GivesSgs w' (M.kSigs t)) from fun w' e => rkSigs_n t (h.up e) hfe.2)
 cases q
 ·have HP := hid (show ([], true) = P0 by rw [← hP0, hq]; rfl)
  clear h h' hf1 hf2 hq hkc hs hP0 hfe HG2
  go_enter Tryd.func3, Tryd.ntmps3
  go_wp2_with fail
  refine (HKN.out _ ((alloc_two w _ _).trans E.out)).mono ?_
  rintro e w1 ⟨rfl, hb⟩
  replace E := hid (E.out.trans hb)
  clear hb
  obtain ⟨⟨a0, a1, a2, a3, a4, a5⟩, -, -⟩ := boxF6 (HB1.out.up E.out)
  obtain ⟨⟨b0, b1, b2, b3, b4, b5⟩, -, -⟩ := boxF6 (HB2.out.up E.out)
  go_wp2_with fail
  refine (HF1.out _ ((alloc_two w _ _).trans E.out)).mono ?_
  rintro e w1 ⟨rfl, hb⟩
  clear a0 a1 a2 a3 a4 a5 b0 b1 b2 b3 b4 b5
  replace E := hid (E.out.trans hb)
  clear hb
  obtain ⟨⟨a0, a1, a2, a3, a4, a5⟩, -, -⟩ := boxF6 (HB1.out.up E.out)
  obtain ⟨⟨b0, b1, b2, b3, b4, b5⟩, -, -⟩ := boxF6 (HB2.out.up E.out)
  go_wp2_with fail
  refine (HF2.out _ ((alloc_two w _ _).trans E.out)).mono ?_
  rintro e w1 ⟨rfl, hb⟩
  clear a0 a1 a2 a3 a4 a5 b0 b1 b2 b3 b4 b5
  replace E := hid (E.out.trans hb)
  clear hb
  obtain ⟨⟨a0, a1, a2, a3, a4, a5⟩, -, -⟩ := boxF6 (HB1.out.up E.out)
  obtain ⟨⟨b0, b1, b2, b3, b4, b5⟩, -, -⟩ := boxF6 (HB2.out.up E.out)
  go_wp2_with fail
  refine (HI2.out _ ((alloc_two w _ _).trans E.out)).mono ?_
  rintro e w1 ⟨rfl, hb⟩
  clear a0 a1 a2 a3 a4 a5 b0 b1 b2 b3 b4 b5
  replace E := hid (E.out.trans hb)
  clear hb
  obtain ⟨⟨a0, a1, a2, a3, a4, a5⟩, -, -⟩ := boxF6 (HB1.out.up E.out)
  obtain ⟨⟨b0, b1, b2, b3, b4, b5⟩, -, -⟩ := boxF6 (HB2.out.up E.out)
  go_wp2_with fail
  refine (HG.out _ ((alloc_two w _ _).trans E.out)).mono ?_
  rintro e w1 ⟨v9, rfl, hS9, hb⟩
  clear a0 a1 a2 a3 a4 a5 b0 b1 b2 b3 b4 b5
  have HV9 := hid hS9
  have HBS := hid hb
  replace E := hid (E.out.trans hb)
  clear hb hS9
  obtain ⟨vw, hvw⟩ : ∃ x, Value.slice none 0 0 = x := ⟨_, rfl⟩
  have HVW := hid (show Sgs w1 P0.1 (.slice none 0 0) by rw [← HP.out]; exact Sgs.nil _)
  have HPT := hid (show P0.2 = true by rw [← HP.out])
  go_wp2_with fail
  refine wp_region_D [(0, 0), (2, 0), (1, 1), (3, 1), (4, 0), (5, 0), (6, 0), (8, 0), (7, 1), (9, 1), (10, 0), (11, 0), (12, 0), (13, 0), (14, 0), (16, 0), (17, 0), (15, 1), (18, 1), (19, 0), (20, 0), (21, 0), (22, 0), (23, 0), (24, 0), (25, 0), (26, 0), (27, 0), (28, 0), (29, 1), (30, 0), (31, 0)] fun wd hb => ?_
  have HSS := hid (show ∀ w', Ext w1 w' → Calls Tryd.prog 18 #[v9, .slice none 0 0] w' (GivesB w' true) from fun w' e => by
   have := kSameSigs_n (HV9.out.up e) (HVW.out.up e)
   rwa [decide_eq_true rfl] at this)
  have E0 := hid hb
  replace E := hid (E.out.trans hb)
  clear hb
  refine WE.q 31 (kv op1 g1 N1 nn1 nc1 nm1 so1 A1 n1 c1) rfl (fun w' hk => by obtain ⟨⟨x0, x1, x2, x3, x4, x5⟩, -, -⟩ := boxF6 (HB1.out.up (E.out.trans hk)); go_simp) ?_
  simp only [Act.put, pA, pB, pC]
  refine WE.q 33 (kv op1 g1 N1 nn1 nc1 nm1 so1 A1 n1 c1) rfl (fun w' hk => by obtain ⟨⟨x0, x1, x2, x3, x4, x5⟩, -, -⟩ := boxF6 (HB1.out.up (E.out.trans hk)); go_simp) ?_
  simp only [Act.put, pA, pB, pC]
  refine WE.c 32 ((HI.out _ ((alloc_two w _ _).trans E.out)).mono ?_)
  rintro e w6 ⟨rfl, hb6⟩
  refine ⟨_, rfl, hb6, ?_⟩
  replace E := hid (E.out.trans hb6)
  replace E0 := hid (E0.out.trans hb6)
  clear hb6
  simp only [Act.put, pA, pB, pC]
  refine WE.c 34 ((HI2.out _ ((alloc_two w _ _).trans E.out)).mono ?_)
  rintro e w6 ⟨rfl, hb6⟩
  refine ⟨_, rfl, hb6, ?_⟩
  replace E := hid (E.out.trans hb6)
  replace E0 := hid (E0.out.trans hb6)
  clear hb6
  simp only [Act.put, pA, pB, pC]
  refine WE.p 35 (.bool true) ?_
  simp only [Act.put, pA, pB, pC]
  refine WE.p 36 (.bool true) ?_
  simp only [Act.put, pA, pB, pC]
  refine WE.q 37 (kv op1 g1 N1 nn1 nc1 nm1 so1 A1 n1 c1) rfl (fun w' hk => by obtain ⟨⟨x0, x1, x2, x3, x4, x5⟩, -, -⟩ := boxF6 (HB1.out.up (E.out.trans hk)); go_simp) ?_
  simp only [Act.put, pA, pB, pC]
  refine WE.q 39 (kv op1 g1 N1 nn1 nc1 nm1 so1 A1 n1 c1) rfl (fun w' hk => by obtain ⟨⟨x0, x1, x2, x3, x4, x5⟩, -, -⟩ := boxF6 (HB1.out.up (E.out.trans hk)); go_simp) ?_
  simp only [Act.put, pA, pB, pC]
  refine WE.c 38 ((HC.out _ ((alloc_two w _ _).trans E.out)).mono ?_)
  rintro e w6 ⟨rfl, hb6⟩
  refine ⟨_, rfl, hb6, ?_⟩
  replace E := hid (E.out.trans hb6)
  replace E0 := hid (E0.out.trans hb6)
  clear hb6
  simp only [Act.put, pA, pB, pC]
  refine WE.c 40 ((HC2.out _ ((alloc_two w _ _).trans E.out)).mono ?_)
  rintro e w6 ⟨rfl, hb6⟩
  refine ⟨_, rfl, hb6, ?_⟩
  replace E := hid (E.out.trans hb6)
  replace E0 := hid (E0.out.trans hb6)
  clear hb6
  simp only [Act.put, pA, pB, pC]
  refine WE.p 41 (.bool true) ?_
  simp only [Act.put, pA, pB, pC]
  refine WE.p 42 (.bool true) ?_
  simp only [Act.put, pA, pB, pC]
  refine WE.p 43 (.bool true) ?_
  simp only [Act.put, pA, pB, pC]
  refine WE.q 44 (kv op1 g1 N1 nn1 nc1 nm1 so1 A1 n1 c1) rfl (fun w' hk => by obtain ⟨⟨x0, x1, x2, x3, x4, x5⟩, -, -⟩ := boxF6 (HB1.out.up (E.out.trans hk)); go_simp) ?_
  simp only [Act.put, pA, pB, pC]
  refine WE.q 45 (kv op2 g2 N2 nn2 nc2 nm2 so2 A2 n2 c2) rfl (fun w' hk => by obtain ⟨⟨x0, x1, x2, x3, x4, x5⟩, -, -⟩ := boxF6 (HB2.out.up (E.out.trans hk)); go_simp) ?_
  simp only [Act.put, pA, pB, pC]
  refine WE.q 47 (kv op1 g1 N1 nn1 nc1 nm1 so1 A1 n1 c1) rfl (fun w' hk => by obtain ⟨⟨x0, x1, x2, x3, x4, x5⟩, -, -⟩ := boxF6 (HB1.out.up (E.out.trans hk)); go_simp) ?_
  simp only [Act.put, pA, pB, pC]
  refine WE.q 48 (kv op2 g2 N2 nn2 nc2 nm2 so2 A2 n2 c2) rfl (fun w' hk => by obtain ⟨⟨x0, x1, x2, x3, x4, x5⟩, -, -⟩ := boxF6 (HB2.out.up (E.out.trans hk)); go_simp) ?_
  simp only [Act.put, pA, pB, pC]
  refine WE.c 46 ((HS.out _ ((alloc_two w _ _).trans E.out)).mono ?_)
  rintro e w6 ⟨rfl, hb6⟩
  refine ⟨_, rfl, hb6, ?_⟩
  replace E := hid (E.out.trans hb6)
  replace E0 := hid (E0.out.trans hb6)
  clear hb6
  simp only [Act.put, pA, pB, pC]
  refine WE.c 49 ((HS2.out _ ((alloc_two w _ _).trans E.out)).mono ?_)
  rintro e w6 ⟨rfl, hb6⟩
  refine ⟨_, rfl, hb6, ?_⟩
  replace E := hid (E.out.trans hb6)
  replace E0 := hid (E0.out.trans hb6)
  clear hb6
  simp only [Act.put, pA, pB, pC]
  refine WE.p 50 (.bool true) ?_
  simp only [Act.put, pA, pB, pC]
  refine WE.p 51 (.bool true) ?_
  simp only [Act.put, pA, pB, pC]
  refine WE.p 52 (.bool true) ?_
  simp only [Act.put, pA, pB, pC]
  refine WE.p 53 (.bool P0.2) ?_
  simp only [Act.put, pA, pB, pC]
  refine WE.p 54 (.bool true) ?_
  simp only [Act.put, pA, pB, pC]
  refine WE.q 55 (.bool true) rfl (fun w' hk => by have hf := HPT.out; go_simp) ?_
  simp only [Act.put, pA, pB, pC]
  refine WE.p 56 (.bool true) ?_
  simp only [Act.put, pA, pB, pC]
  refine WE.p 57 (.bool true) ?_
  simp only [Act.put, pA, pB, pC]
  refine WE.p 58 (v9) ?_
  simp only [Act.put, pA, pB, pC]
  refine WE.p 59 (.slice none 0 0) ?_
  simp only [Act.put, pA, pB, pC]
  refine WE.c 60 ((HSS.out _ E0.out).mono ?_)
  rintro e w6 ⟨rfl, hb6⟩
  refine ⟨_, rfl, hb6, ?_⟩
  replace E := hid (E.out.trans hb6)
  replace E0 := hid (E0.out.trans hb6)
  clear hb6
  simp only [Act.put, pA, pB, pC]
  refine WE.p 61 (.bool true) ?_
  simp only [Act.put, pA, pB, pC]
  refine WE.p 4 (.bool true) ?_
  simp only [Act.put, pA, pB, pC]
  refine WE.done ?_
  go_wp2_with fail
  go_ret
  exact ⟨rfl, (alloc_two w _ _).trans E.out⟩
 ·have HP := hid (show M.kSigs t = P0 by rw [← hP0, hq]; rfl)
  rw [HP.out] at HG2
  clear h h' hf1 hf2 hq hkc hs hP0 hfe
  go_enter Tryd.func3, Tryd.ntmps3
  go_wp2_with fail
  refine (HKN.out _ ((alloc_two w _ _).trans E.out)).mono ?_
  rintro e w1 ⟨rfl, hb⟩
  replace E := hid (E.out.trans hb)
  clear hb
  obtain ⟨⟨a0, a1, a2, a3, a4, a5⟩, -, -⟩ := boxF6 (HB1.out.up E.out)
  obtain ⟨⟨b0, b1, b2, b3, b4, b5⟩, -, -⟩ := boxF6 (HB2.out.up E.out)
  go_wp2_with fail
  refine (HF1.out _ ((alloc_two w _ _).trans E.out)).mono ?_
  rintro e w1 ⟨rfl, hb⟩
  clear a0 a1 a2 a3 a4 a5 b0 b1 b2 b3 b4 b5
  replace E := hid (E.out.trans hb)
  clear hb
  obtain ⟨⟨a0, a1, a2, a3, a4, a5⟩, -, -⟩ := boxF6 (HB1.out.up E.out)
  obtain ⟨⟨b0, b1, b2, b3, b4, b5⟩, -, -⟩ := boxF6 (HB2.out.up E.out)
  go_wp2_with fail
  refine (HF2.out _ ((alloc_two w _ _).trans E.out)).mono ?_
  rintro e w1 ⟨rfl, hb⟩
  clear a0 a1 a2 a3 a4 a5 b0 b1 b2 b3 b4 b5
  replace E := hid (E.out.trans hb)
  clear hb
  obtain ⟨⟨a0, a1, a2, a3, a4, a5⟩, -, -⟩ := boxF6 (HB1.out.up E.out)
  obtain ⟨⟨b0, b1, b2, b3, b4, b5⟩, -, -⟩ := boxF6 (HB2.out.up E.out)
  go_wp2_with fail
  refine (HI2.out _ ((alloc_two w _ _).trans E.out)).mono ?_
  rintro e w1 ⟨rfl, hb⟩
  clear a0 a1 a2 a3 a4 a5 b0 b1 b2 b3 b4 b5
  replace E := hid (E.out.trans hb)
  clear hb
  obtain ⟨⟨a0, a1, a2, a3, a4, a5⟩, -, -⟩ := boxF6 (HB1.out.up E.out)
  obtain ⟨⟨b0, b1, b2, b3, b4, b5⟩, -, -⟩ := boxF6 (HB2.out.up E.out)
  go_wp2_with fail
  refine (HG2.out _ ((alloc_two w _ _).trans E.out)).mono ?_
  rintro e w1 ⟨vw, rfl, hS9, hb⟩
  clear a0 a1 a2 a3 a4 a5 b0 b1 b2 b3 b4 b5
  have HVW := hid hS9
  replace E := hid (E.out.trans hb)
  clear hb hS9
  obtain ⟨⟨a0, a1, a2, a3, a4, a5⟩, -, -⟩ := boxF6 (HB1.out.up E.out)
  obtain ⟨⟨b0, b1, b2, b3, b4, b5⟩, -, -⟩ := boxF6 (HB2.out.up E.out)
  go_wp2_with fail
  refine (HG.out _ ((alloc_two w _ _).trans E.out)).mono ?_
  rintro e w1 ⟨v9, rfl, hS9, hb⟩
  clear a0 a1 a2 a3 a4 a5 b0 b1 b2 b3 b4 b5
  have HV9 := hid hS9
  have HBS := hid hb
  replace E := hid (E.out.trans hb)
  clear hb hS9
  replace HVW := hid (HVW.out.up HBS.out)
  go_wp2_with fail
  refine wp_region_D [(0, 0), (2, 0), (1, 1), (3, 1), (4, 0), (5, 0), (6, 0), (8, 0), (7, 1), (9, 1), (10, 0), (11, 0), (12, 0), (13, 0), (14, 0), (16, 0), (17, 0), (15, 1), (18, 1), (19, 0), (20, 0), (21, 0), (22, 0), (23, 0), (24, 0), (25, 0), (26, 0), (27, 0), (28, 0), (29, 1), (30, 0), (31, 0)] fun wd hb => ?_
  have HSS := hid (show ∀ w', Ext w1 w' → Calls Tryd.prog 18 #[v9, vw] w' (GivesB w' true) from fun w' e => by
   have := kSameSigs_n (HV9.out.up e) (HVW.out.up e)
   rwa [decide_eq_true rfl] at this)
  have E0 := hid hb
  replace E := hid (E.out.trans hb)
  clear hb
  refine WE.q 31 (kv op1 g1 N1 nn1 nc1 nm1 so1 A1 n1 c1) rfl (fun w' hk => by obtain ⟨⟨x0, x1, x2, x3, x4, x5⟩, -, -⟩ := boxF6 (HB1.out.up (E.out.trans hk)); go_simp) ?_
  simp only [Act.put, pA, pB, pC]
  refine WE.q 33 (kv op1 g1 N1 nn1 nc1 nm1 so1 A1 n1 c1) rfl (fun w' hk => by obtain ⟨⟨x0, x1, x2, x3, x4, x5⟩, -, -⟩ := boxF6 (HB1.out.up (E.out.trans hk)); go_simp) ?_
  simp only [Act.put, pA, pB, pC]
  refine WE.c 32 ((HI.out _ ((alloc_two w _ _).trans E.out)).mono ?_)
  rintro e w6 ⟨rfl, hb6⟩
  refine ⟨_, rfl, hb6, ?_⟩
  replace E := hid (E.out.trans hb6)
  replace E0 := hid (E0.out.trans hb6)
  clear hb6
  simp only [Act.put, pA, pB, pC]
  refine WE.c 34 ((HI2.out _ ((alloc_two w _ _).trans E.out)).mono ?_)
  rintro e w6 ⟨rfl, hb6⟩
  refine ⟨_, rfl, hb6, ?_⟩
  replace E := hid (E.out.trans hb6)
  replace E0 := hid (E0.out.trans hb6)
  clear hb6
  simp only [Act.put, pA, pB, pC]
  refine WE.p 35 (.bool true) ?_
  simp only [Act.put, pA, pB, pC]
  refine WE.p 36 (.bool true) ?_
  simp only [Act.put, pA, pB, pC]
  refine WE.q 37 (kv op1 g1 N1 nn1 nc1 nm1 so1 A1 n1 c1) rfl (fun w' hk => by obtain ⟨⟨x0, x1, x2, x3, x4, x5⟩, -, -⟩ := boxF6 (HB1.out.up (E.out.trans hk)); go_simp) ?_
  simp only [Act.put, pA, pB, pC]
  refine WE.q 39 (kv op1 g1 N1 nn1 nc1 nm1 so1 A1 n1 c1) rfl (fun w' hk => by obtain ⟨⟨x0, x1, x2, x3, x4, x5⟩, -, -⟩ := boxF6 (HB1.out.up (E.out.trans hk)); go_simp) ?_
  simp only [Act.put, pA, pB, pC]
  refine WE.c 38 ((HC.out _ ((alloc_two w _ _).trans E.out)).mono ?_)
  rintro e w6 ⟨rfl, hb6⟩
  refine ⟨_, rfl, hb6, ?_⟩
  replace E := hid (E.out.trans hb6)
  replace E0 := hid (E0.out.trans hb6)
  clear hb6
  simp only [Act.put, pA, pB, pC]
  refine WE.c 40 ((HC2.out _ ((alloc_two w _ _).trans E.out)).mono ?_)
  rintro e w6 ⟨rfl, hb6⟩
  refine ⟨_, rfl, hb6, ?_⟩
  replace E := hid (E.out.trans hb6)
  replace E0 := hid (E0.out.trans hb6)
  clear hb6
  simp only [Act.put, pA, pB, pC]
  refine WE.p 41 (.bool true) ?_
  simp only [Act.put, pA, pB, pC]
  refine WE.p 42 (.bool true) ?_
  simp only [Act.put, pA, pB, pC]
  refine WE.p 43 (.bool true) ?_
  simp only [Act.put, pA, pB, pC]
  refine WE.q 44 (kv op1 g1 N1 nn1 nc1 nm1 so1 A1 n1 c1) rfl (fun w' hk => by obtain ⟨⟨x0, x1, x2, x3, x4, x5⟩, -, -⟩ := boxF6 (HB1.out.up (E.out.trans hk)); go_simp) ?_
  simp only [Act.put, pA, pB, pC]
  refine WE.q 45 (kv op2 g2 N2 nn2 nc2 nm2 so2 A2 n2 c2) rfl (fun w' hk => by obtain ⟨⟨x0, x1, x2, x3, x4, x5⟩, -, -⟩ := boxF6 (HB2.out.up (E.out.trans hk)); go_simp) ?_
  simp only [Act.put, pA, pB, pC]
  refine WE.q 47 (kv op1 g1 N1 nn1 nc1 nm1 so1 A1 n1 c1) rfl (fun w' hk => by obtain ⟨⟨x0, x1, x2, x3, x4, x5⟩, -, -⟩ := boxF6 (HB1.out.up (E.out.trans hk)); go_simp) ?_
  simp only [Act.put, pA, pB, pC]
  refine WE.q 48 (kv op2 g2 N2 nn2 nc2 nm2 so2 A2 n2 c2) rfl (fun w' hk => by obtain ⟨⟨x0, x1, x2, x3, x4, x5⟩, -, -⟩ := boxF6 (HB2.out.up (E.out.trans hk)); go_simp) ?_
  simp only [Act.put, pA, pB, pC]
  refine WE.c 46 ((HS.out _ ((alloc_two w _ _).trans E.out)).mono ?_)
  rintro e w6 ⟨rfl, hb6⟩
  refine ⟨_, rfl, hb6, ?_⟩
  replace E := hid (E.out.trans hb6)
  replace E0 := hid (E0.out.trans hb6)
  clear hb6
  simp only [Act.put, pA, pB, pC]
  refine WE.c 49 ((HS2.out _ ((alloc_two w _ _).trans E.out)).mono ?_)
  rintro e w6 ⟨rfl, hb6⟩
  refine ⟨_, rfl, hb6, ?_⟩
  replace E := hid (E.out.trans hb6)
  replace E0 := hid (E0.out.trans hb6)
  clear hb6
  simp only [Act.put, pA, pB, pC]
  refine WE.p 50 (.bool true) ?_
  simp only [Act.put, pA, pB, pC]
  refine WE.p 51 (.bool true) ?_
  simp only [Act.put, pA, pB, pC]
  refine WE.p 52 (.bool true) ?_
  simp only [Act.put, pA, pB, pC]
  refine WE.p 53 (.bool P0.2) ?_
  simp only [Act.put, pA, pB, pC]
  refine WE.p 54 (.bool P0.2) ?_
  simp only [Act.put, pA, pB, pC]
  refine WE.p 55 (.bool true) ?_
  simp only [Act.put, pA, pB, pC]
  refine WE.p 56 (.bool true) ?_
  simp only [Act.put, pA, pB, pC]
  refine WE.p 57 (.bool true) ?_
  simp only [Act.put, pA, pB, pC]
  refine WE.p 58 (v9) ?_
  simp only [Act.put, pA, pB, pC]
  refine WE.p 59 (vw) ?_
  simp only [Act.put, pA, pB, pC]
  refine WE.c 60 ((HSS.out _ E0.out).mono ?_)
  rintro e w6 ⟨rfl, hb6⟩
  refine ⟨_, rfl, hb6, ?_⟩
  replace E := hid (E.out.trans hb6)
  replace E0 := hid (E0.out.trans hb6)
  clear hb6
  simp only [Act.put, pA, pB, pC]
  refine WE.p 61 (.bool true) ?_
  simp only [Act.put, pA, pB, pC]
  refine WE.p 4 (.bool true) ?_
  simp only [Act.put, pA, pB, pC]
  refine WE.done ?_
  go_wp2_with fail
  go_ret
  exact ⟨rfl, (alloc_two w _ _).trans E.out⟩
end Go.Proofs.YtaoboilkpgphaaaDoor.Q
