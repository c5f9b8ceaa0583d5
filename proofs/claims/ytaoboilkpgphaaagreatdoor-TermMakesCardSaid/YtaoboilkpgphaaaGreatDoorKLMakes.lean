/-
  Layer 10, the laws: TermMakes.
-/
import Derived.Test.YtaoboilkpgphaaaGreatDoorKNamesB
import Derived.Test.YtaoboilkpgphaaaGreatDoorJKC
import Derived.Test.YtaoboilkpgphaaaGreatDoorJKF
namespace Go.Proofs.YtaoboilkpgphaaaGreatDoor.Q
set_option linter.unusedSimpArgs false
set_option linter.unusedVariables false
open Go.RowKit

/-- What TermMakes asks of the package's calls. -/
structure FaceM (T : World → Prop) : Prop where
 up_ : ∀ {w w' : World}, T w → Ext w w' → T w'
 known_ : ∀ {w : World}, T w → Calls Tryz.prog 4 #[] w (GivesB w true)
 make_ : ∀ {op : Int} {l : List M.Tm} {v : Value} {w : World}, T w → Tms w l v → M.kfewL l = true → Calls Tryz.prog 7 #[.int .i64 op, v] w (GivesTm w (M.kmake op l))
 app_ : ∀ {s : M.Sg} {l : List M.Tm} {v v' : Value} {w : World}, T w → IsSg w s v' → M.kfewS s = true → Tms w l v → M.kfewL l = true → Calls Tryz.prog 9 #[v', v] w (GivesTm w (M.kapp s l))
 sig_ : ∀ {s : M.Sg} {v : Value} {w : World}, IsSg w s v → M.kfewS s = true → Calls Tryz.prog 12 #[v] w (GivesB w (M.ksig s))
 num_ : ∀ {Z : Int} {v : Value} {w : World}, Worth w v Z 6 → Calls Tryz.prog 14 #[v] w (GivesT1 w (M.knumT Z))
 bool_ : ∀ (b : Bool) (w : World), Calls Tryz.prog 16 #[.bool b] w (GivesT1 w (.mk (if b = true then 2 else 3) false [] [] 1 []))
set_option maxHeartbeats 16000000 in
set_option maxRecDepth 100000 in
theorem makes_n {T : World → Prop} (F : FaceM T) {op : Int} {s : M.Sg} {l : List M.Tm} {ls : List Nat} {g b : Bool} {N : Option Addr} {nn nc : Nat} {v v' : Value} {w : World} (h : IsSg w s v') (hl : Tms w l v) (hn : LNum w (.slice N nn nc) ls) (hT0 : T w) : Calls Tryz.prog 3 #[.int .i64 op, v', v, .agg #[.bool g, .slice N nn nc], .bool b] w (GivesB w true) := by
 obtain ⟨LA, lc, rfl⟩ := hl.shape
 obtain ⟨hl1, hl2, hl3⟩ := hl.le
 obtain ⟨hn1, hn2, hn3⟩ := hn.len
 have hn4 : nc ≤ 9223372036854775807 := by unfold maxLen at hn3; omega
 obtain ⟨f1, hf1⟩ : ∃ x, M.kfewS s = x := ⟨_, rfl⟩
 obtain ⟨f2, hf2⟩ : ∃ x, M.kfewL l = x := ⟨_, rfl⟩
 obtain ⟨n, hnl⟩ : ∃ x, l.length = x := ⟨_, rfl⟩
 rw [hnl] at hl hl2 ⊢
 obtain ⟨sg, hsg⟩ : ∃ x, M.ksig s = x := ⟨_, rfl⟩
 obtain ⟨Rm, hRm⟩ : ∃ x, M.kmake op l = x := ⟨_, rfl⟩
 obtain ⟨Ra, hRa⟩ : ∃ x, M.kapp s l = x := ⟨_, rfl⟩
 have hall : M.kfewL l = true → ∀ t ∈ l, M.kfew t = true := fun h t ht => ((M.kfewL_parts h).1 t ht).2
 have hname : M.kfewS s = true → s.name.length ≤ 1000000000000 := fun h => by
  unfold M.kfewS at h
  simp only [Bool.and_eq_true, decide_eq_true_eq] at h
  omega
 have HF1 := hid (show ∀ w', Ext w w' → Calls Tryz.prog 5 #[v'] w' (GivesB w' f1) from fun w' e => hf1 ▸ fewSig_n (h.up e))
 have HF2 := hid (show ∀ w', Ext w w' → Calls Tryz.prog 6 #[.slice LA n lc] w' (GivesB w' f2) from fun w' e => hf2 ▸ fewTerms_n (hl.up e))
 have HKN := hid (show ∀ w', Ext w w' → Calls Tryz.prog 4 #[] w' (GivesB w' true) from fun w' e => F.known_ (F.up_ hT0 e))
 have HMA := hid (show f2 = true → ∀ w', Ext w w' → Calls Tryz.prog 7 #[.int .i64 op, .slice LA n lc] w' (GivesTm w' Rm) from fun hh w' e => hRm ▸ F.make_ (F.up_ hT0 e) (hl.up e) (hf2.trans hh))
 have HMB := hid (show f2 = true → ∀ w', Ext w w' → Calls Tryz.prog 8 #[.int .i64 op, .slice LA n lc] w' (GivesTm w' Rm) from fun hh w' e => hRm ▸ kMake_n (hl.up e) (hall (hf2.trans hh)))
 have HAA := hid (show f1 = true → f2 = true → ∀ w', Ext w w' → Calls Tryz.prog 9 #[v', .slice LA n lc] w' (GivesTm w' Ra) from fun h1 hh w' e => hRa ▸ F.app_ (F.up_ hT0 e) (h.up e) (hf1.trans h1) (hl.up e) (hf2.trans hh))
 have HAB := hid (show f1 = true → f2 = true → ∀ w', Ext w w' → Calls Tryz.prog 10 #[v', .slice LA n lc] w' (GivesTm w' Ra) from fun h1 hh w' e => hRa ▸ kApp_n (h.up e) (hname (hf1.trans h1)) (hl.up e) (hall (hf2.trans hh)))
 have HIS := hid (show f1 = true → ∀ w', Ext w w' → Calls Tryz.prog 12 #[v'] w' (GivesB w' sg) from fun h1 w' e => hsg ▸ F.sig_ (h.up e) (hf1.trans h1))
 have HIS2 := hid (show f1 = true → ∀ w', Ext w w' → Calls Tryz.prog 13 #[v'] w' (GivesB w' sg) from fun h1 w' e => hsg ▸ kIsSig_n (h.up e) (hname (hf1.trans h1)))
 obtain ⟨Z, hZ⟩ : ∃ z, M.zv g ls = z := ⟨_, rfl⟩
 have HNU := hid (show nn ≤ 6 → ∀ w', Ext w w' → Calls Tryz.prog 14 #[.agg #[.bool g, .slice N nn nc]] w' (GivesT1 w' (M.knumT Z)) from fun h6 w' e => F.num_ ⟨g, N, nn, nc, ls, rfl, hn.up e, by omega, hZ⟩)
 have HNU2 := hid (show ∀ w', Ext w w' → Calls Tryz.prog 15 #[.agg #[.bool g, .slice N nn nc]] w' (GivesT1 w' (M.knumT Z)) from fun w' e => kNum_n (j := nn) ⟨g, N, nn, nc, ls, rfl, hn.up e, by omega, hZ⟩)
 obtain ⟨TB, hTB⟩ : ∃ t, (M.Tm.mk (if b = true then 2 else 3) false [] [] 1 []) = t := ⟨_, rfl⟩
 have HBO := hid (show ∀ w', Ext w w' → Calls Tryz.prog 16 #[.bool b] w' (GivesT1 w' TB) from fun w' _ => hTB ▸ F.bool_ b w')
 have HBO2 := hid (show ∀ w', Ext w w' → Calls Tryz.prog 17 #[.bool b] w' (GivesT1 w' TB) from fun w' _ => hTB ▸ kbool_n b w')
 obtain ⟨nm, ag, rt⟩ := s
 obtain ⟨B, bd, rfl, hi⟩ := h
 replace hi : Ints w ag (.slice B ag.length bd) := hi
 obtain ⟨hb1, hb2, hb3⟩ := hi.le
 obtain ⟨m, hm⟩ : ∃ x, ag.length = x := ⟨_, rfl⟩
 show Calls Tryz.prog 3 #[.int .i64 op, sgv nm B ag.length bd rt, .slice LA n lc, .agg #[.bool g, .slice N nn nc], .bool b] w (GivesB w true)
 replace HF1 : Hid (∀ w', Ext w w' → Calls Tryz.prog 5 #[sgv nm B ag.length bd rt] w' (GivesB w' f1)) := HF1
 replace HAA : Hid (f1 = true → f2 = true → ∀ w', Ext w w' → Calls Tryz.prog 9 #[sgv nm B ag.length bd rt, .slice LA n lc] w' (GivesTm w' Ra)) := HAA
 replace HAB : Hid (f1 = true → f2 = true → ∀ w', Ext w w' → Calls Tryz.prog 10 #[sgv nm B ag.length bd rt, .slice LA n lc] w' (GivesTm w' Ra)) := HAB
 replace HIS : Hid (f1 = true → ∀ w', Ext w w' → Calls Tryz.prog 12 #[sgv nm B ag.length bd rt] w' (GivesB w' sg)) := HIS
 replace HIS2 : Hid (f1 = true → ∀ w', Ext w w' → Calls Tryz.prog 13 #[sgv nm B ag.length bd rt] w' (GivesB w' sg)) := HIS2
 rw [hm] at HF1 HAA HAB HIS HIS2 hb2 ⊢
 have HBS := hid (show Box ((w.alloc (.cells #[str nm, .slice B m bd, .int .i64 rt] 24)).alloc (.cells #[.bool g, .slice N nn nc] 28)) w.heap.size #[str nm, .slice B m bd, .int .i64 rt] 24 from (Box.new w _ _).alloc _)
 have HBI := hid (show Box ((w.alloc (.cells #[str nm, .slice B m bd, .int .i64 rt] 24)).alloc (.cells #[.bool g, .slice N nn nc] 28)) (w.heap.size + 1) #[.bool g, .slice N nn nc] 28 from Box.at_ (w := w.alloc (.cells #[str nm, .slice B m bd, .int .i64 rt] 24)) _ _ (by simp))
 have E := hid (Ext.refl ((w.alloc (.cells #[str nm, .slice B m bd, .int .i64 rt] 24)).alloc (.cells #[.bool g, .slice N nn nc] 28)))
 clear hi hb1 hm hl hn hn1 hn3 hf1 hf2 hsg hRm hRa hall hname hZ hTB hnl hl1
 cases f1
 ·go_enter Tryz.func3, Tryz.ntmps3
  go_wp2_with fail
  refine (HKN.out _ ((alloc_two w _ _).trans E.out)).mono ?_
  rintro e w1 ⟨rfl, hb⟩
  replace E := hid (E.out.trans hb)
  clear hb
  obtain ⟨a0, a1, a2⟩ := box3b (HBS.out.up E.out)
  have b0 := (HBI.out.up E.out).k 0 (v := .bool g)
  have b1 := (HBI.out.up E.out).k 1 (v := .slice N nn nc)
  go_wp2_with fail
  refine (HF1.out _ ((alloc_two w _ _).trans E.out)).mono ?_
  rintro e w1 ⟨rfl, hb⟩
  clear a0 a1 a2 b0 b1
  replace E := hid (E.out.trans hb)
  clear hb
  go_wp2_with fail
  go_ret
  exact ⟨rfl, (alloc_two w _ _).trans E.out⟩
 cases f2
 ·go_enter Tryz.func3, Tryz.ntmps3
  go_wp2_with fail
  refine (HKN.out _ ((alloc_two w _ _).trans E.out)).mono ?_
  rintro e w1 ⟨rfl, hb⟩
  replace E := hid (E.out.trans hb)
  clear hb
  obtain ⟨a0, a1, a2⟩ := box3b (HBS.out.up E.out)
  have b0 := (HBI.out.up E.out).k 0 (v := .bool g)
  have b1 := (HBI.out.up E.out).k 1 (v := .slice N nn nc)
  go_wp2_with fail
  refine (HF1.out _ ((alloc_two w _ _).trans E.out)).mono ?_
  rintro e w1 ⟨rfl, hb⟩
  clear a0 a1 a2 b0 b1
  replace E := hid (E.out.trans hb)
  clear hb
  go_wp2_with fail
  refine (HF2.out _ ((alloc_two w _ _).trans E.out)).mono ?_
  rintro e w1 ⟨rfl, hb⟩
  replace E := hid (E.out.trans hb)
  clear hb
  go_wp2_with fail
  go_ret
  exact ⟨rfl, (alloc_two w _ _).trans E.out⟩
 replace HMA := hid (HMA.out rfl)
 replace HMB := hid (HMB.out rfl)
 replace HAA := hid (HAA.out rfl rfl)
 replace HAB := hid (HAB.out rfl rfl)
 replace HIS := hid (HIS.out rfl)
 replace HIS2 := hid (HIS2.out rfl)
 rcases Nat.lt_or_ge 6 nn with h6 | h6
 ·have hq : 6 < (nn : Int) := by omega
  go_enter Tryz.func3, Tryz.ntmps3
  go_wp2_with fail
  refine (HKN.out _ ((alloc_two w _ _).trans E.out)).mono ?_
  rintro e w1 ⟨rfl, hb⟩
  replace E := hid (E.out.trans hb)
  clear hb
  obtain ⟨a0, a1, a2⟩ := box3b (HBS.out.up E.out)
  have b0 := (HBI.out.up E.out).k 0 (v := .bool g)
  have b1 := (HBI.out.up E.out).k 1 (v := .slice N nn nc)
  go_wp2_with fail
  refine (HF1.out _ ((alloc_two w _ _).trans E.out)).mono ?_
  rintro e w1 ⟨rfl, hb⟩
  clear a0 a1 a2 b0 b1
  replace E := hid (E.out.trans hb)
  clear hb
  go_wp2_with fail
  refine (HF2.out _ ((alloc_two w _ _).trans E.out)).mono ?_
  rintro e w1 ⟨rfl, hb⟩
  replace E := hid (E.out.trans hb)
  clear hb
  obtain ⟨a0, a1, a2⟩ := box3b (HBS.out.up E.out)
  have b0 := (HBI.out.up E.out).k 0 (v := .bool g)
  have b1 := (HBI.out.up E.out).k 1 (v := .slice N nn nc)
  go_wp2_with fail
  go_ret
  exact ⟨rfl, (alloc_two w _ _).trans E.out⟩
 have hq : decide (6 < (nn : Int)) = false := by simp; omega
 replace HNU := hid (HNU.out h6)
 go_enter Tryz.func3, Tryz.ntmps3
 go_wp2_with fail
 refine (HKN.out _ ((alloc_two w _ _).trans E.out)).mono ?_
 rintro e w1 ⟨rfl, hb⟩
 replace E := hid (E.out.trans hb)
 clear hb
 obtain ⟨a0, a1, a2⟩ := box3b (HBS.out.up E.out)
 have b0 := (HBI.out.up E.out).k 0 (v := .bool g)
 have b1 := (HBI.out.up E.out).k 1 (v := .slice N nn nc)
 go_wp2_with fail
 refine (HF1.out _ ((alloc_two w _ _).trans E.out)).mono ?_
 rintro e w1 ⟨rfl, hb⟩
 clear a0 a1 a2 b0 b1
 replace E := hid (E.out.trans hb)
 clear hb
 go_wp2_with fail
 refine (HF2.out _ ((alloc_two w _ _).trans E.out)).mono ?_
 rintro e w1 ⟨rfl, hb⟩
 replace E := hid (E.out.trans hb)
 clear hb
 obtain ⟨a0, a1, a2⟩ := box3b (HBS.out.up E.out)
 have b0 := (HBI.out.up E.out).k 0 (v := .bool g)
 have b1 := (HBI.out.up E.out).k 1 (v := .slice N nn nc)
 go_wp2_with fail
 refine (HMA.out _ ((alloc_two w _ _).trans E.out)).mono ?_
 rintro e w5 ⟨v5, rfl, hT, hb⟩
 clear a0 a1 a2 b0 b1
 obtain ⟨N5, nn5, nc5, A5, n5, c5, rfl, -, -, -, -, -, -⟩ := hT.shape
 obtain ⟨op5, hx⟩ : ∃ x, Rm.1.op = x := ⟨_, rfl⟩
 rw [hx] at hT ⊢
 clear hx
 obtain ⟨g5, hx⟩ : ∃ x, Rm.1.g = x := ⟨_, rfl⟩
 rw [hx] at hT ⊢
 clear hx
 obtain ⟨nm5, hx⟩ : ∃ x, Rm.1.name = x := ⟨_, rfl⟩
 rw [hx] at hT ⊢
 clear hx
 obtain ⟨so5, hx⟩ : ∃ x, Rm.1.sort = x := ⟨_, rfl⟩
 rw [hx] at hT ⊢
 clear hx
 replace E := hid (E.out.trans hb)
 have HT5 := hid (hT.up (Ext.alloc w5 (.cells #[.int .i64 op5, .bool g5, .slice N5 nn5 nc5, str nm5, .int .i64 so5, .slice A5 n5 c5] 33)))
 have HB5 := hid (Box.new w5 #[.int .i64 op5, .bool g5, .slice N5 nn5 nc5, str nm5, .int .i64 so5, .slice A5 n5 c5] 33)
 replace E := hid (E.out.alloc' (.cells #[.int .i64 op5, .bool g5, .slice N5 nn5 nc5, str nm5, .int .i64 so5, .slice A5 n5 c5] 33))
 clear hT hb
 obtain ⟨a0, a1, a2⟩ := box3b (HBS.out.up E.out)
 have b0 := (HBI.out.up E.out).k 0 (v := .bool g)
 have b1 := (HBI.out.up E.out).k 1 (v := .slice N nn nc)
 go_wp2_with fail
 refine (HMB.out _ ((alloc_two w _ _).trans E.out)).mono ?_
 rintro e w6 ⟨v6, rfl, hT, hb⟩
 clear a0 a1 a2 b0 b1
 obtain ⟨N6, nn6, nc6, A6, n6, c6, rfl, -, -, -, -, -, -⟩ := hT.shape
 obtain ⟨op6, hx⟩ : ∃ x, Rm.1.op = x := ⟨_, rfl⟩
 rw [hx] at hT ⊢
 clear hx
 obtain ⟨g6, hx⟩ : ∃ x, Rm.1.g = x := ⟨_, rfl⟩
 rw [hx] at hT ⊢
 clear hx
 obtain ⟨nm6, hx⟩ : ∃ x, Rm.1.name = x := ⟨_, rfl⟩
 rw [hx] at hT ⊢
 clear hx
 obtain ⟨so6, hx⟩ : ∃ x, Rm.1.sort = x := ⟨_, rfl⟩
 rw [hx] at hT ⊢
 clear hx
 replace E := hid (E.out.trans hb)
 replace HB5 := hid (HB5.out.up hb)
 replace HT5 := hid (HT5.out.up hb)
 have HT6 := hid (hT.up (Ext.alloc w6 (.cells #[.int .i64 op6, .bool g6, .slice N6 nn6 nc6, str nm6, .int .i64 so6, .slice A6 n6 c6] 33)))
 have HB6 := hid (Box.new w6 #[.int .i64 op6, .bool g6, .slice N6 nn6 nc6, str nm6, .int .i64 so6, .slice A6 n6 c6] 33)
 replace E := hid (E.out.alloc' (.cells #[.int .i64 op6, .bool g6, .slice N6 nn6 nc6, str nm6, .int .i64 so6, .slice A6 n6 c6] 33))
 replace HB5 := hid (HB5.out.alloc (.cells #[.int .i64 op6, .bool g6, .slice N6 nn6 nc6, str nm6, .int .i64 so6, .slice A6 n6 c6] 33))
 replace HT5 := hid (HT5.out.up (Ext.alloc w6 (.cells #[.int .i64 op6, .bool g6, .slice N6 nn6 nc6, str nm6, .int .i64 so6, .slice A6 n6 c6] 33)))
 clear hT hb
 obtain ⟨a0, a1, a2⟩ := box3b (HBS.out.up E.out)
 have b0 := (HBI.out.up E.out).k 0 (v := .bool g)
 have b1 := (HBI.out.up E.out).k 1 (v := .slice N nn nc)
 go_wp2_with fail
 refine (HAA.out _ ((alloc_two w _ _).trans E.out)).mono ?_
 rintro e w7 ⟨v7, rfl, hT, hb⟩
 clear a0 a1 a2 b0 b1
 obtain ⟨N7, nn7, nc7, A7, n7, c7, rfl, -, -, -, -, -, -⟩ := hT.shape
 obtain ⟨op7, hx⟩ : ∃ x, Ra.1.op = x := ⟨_, rfl⟩
 rw [hx] at hT ⊢
 clear hx
 obtain ⟨g7, hx⟩ : ∃ x, Ra.1.g = x := ⟨_, rfl⟩
 rw [hx] at hT ⊢
 clear hx
 obtain ⟨nm7, hx⟩ : ∃ x, Ra.1.name = x := ⟨_, rfl⟩
 rw [hx] at hT ⊢
 clear hx
 obtain ⟨so7, hx⟩ : ∃ x, Ra.1.sort = x := ⟨_, rfl⟩
 rw [hx] at hT ⊢
 clear hx
 replace E := hid (E.out.trans hb)
 replace HB5 := hid (HB5.out.up hb)
 replace HT5 := hid (HT5.out.up hb)
 replace HB6 := hid (HB6.out.up hb)
 replace HT6 := hid (HT6.out.up hb)
 have HT7 := hid (hT.up (Ext.alloc w7 (.cells #[.int .i64 op7, .bool g7, .slice N7 nn7 nc7, str nm7, .int .i64 so7, .slice A7 n7 c7] 33)))
 have HB7 := hid (Box.new w7 #[.int .i64 op7, .bool g7, .slice N7 nn7 nc7, str nm7, .int .i64 so7, .slice A7 n7 c7] 33)
 replace E := hid (E.out.alloc' (.cells #[.int .i64 op7, .bool g7, .slice N7 nn7 nc7, str nm7, .int .i64 so7, .slice A7 n7 c7] 33))
 replace HB5 := hid (HB5.out.alloc (.cells #[.int .i64 op7, .bool g7, .slice N7 nn7 nc7, str nm7, .int .i64 so7, .slice A7 n7 c7] 33))
 replace HT5 := hid (HT5.out.up (Ext.alloc w7 (.cells #[.int .i64 op7, .bool g7, .slice N7 nn7 nc7, str nm7, .int .i64 so7, .slice A7 n7 c7] 33)))
 replace HB6 := hid (HB6.out.alloc (.cells #[.int .i64 op7, .bool g7, .slice N7 nn7 nc7, str nm7, .int .i64 so7, .slice A7 n7 c7] 33))
 replace HT6 := hid (HT6.out.up (Ext.alloc w7 (.cells #[.int .i64 op7, .bool g7, .slice N7 nn7 nc7, str nm7, .int .i64 so7, .slice A7 n7 c7] 33)))
 clear hT hb
 obtain ⟨a0, a1, a2⟩ := box3b (HBS.out.up E.out)
 have b0 := (HBI.out.up E.out).k 0 (v := .bool g)
 have b1 := (HBI.out.up E.out).k 1 (v := .slice N nn nc)
 go_wp2_with fail
 refine (HAB.out _ ((alloc_two w _ _).trans E.out)).mono ?_
 rintro e w8 ⟨v8, rfl, hT, hb⟩
 clear a0 a1 a2 b0 b1
 obtain ⟨N8, nn8, nc8, A8, n8, c8, rfl, -, -, -, -, -, -⟩ := hT.shape
 obtain ⟨op8, hx⟩ : ∃ x, Ra.1.op = x := ⟨_, rfl⟩
 rw [hx] at hT ⊢
 clear hx
 obtain ⟨g8, hx⟩ : ∃ x, Ra.1.g = x := ⟨_, rfl⟩
 rw [hx] at hT ⊢
 clear hx
 obtain ⟨nm8, hx⟩ : ∃ x, Ra.1.name = x := ⟨_, rfl⟩
 rw [hx] at hT ⊢
 clear hx
 obtain ⟨so8, hx⟩ : ∃ x, Ra.1.sort = x := ⟨_, rfl⟩
 rw [hx] at hT ⊢
 clear hx
 replace E := hid (E.out.trans hb)
 replace HB5 := hid (HB5.out.up hb)
 replace HT5 := hid (HT5.out.up hb)
 replace HB6 := hid (HB6.out.up hb)
 replace HT6 := hid (HT6.out.up hb)
 replace HB7 := hid (HB7.out.up hb)
 replace HT7 := hid (HT7.out.up hb)
 have HT8 := hid (hT.up (Ext.alloc w8 (.cells #[.int .i64 op8, .bool g8, .slice N8 nn8 nc8, str nm8, .int .i64 so8, .slice A8 n8 c8] 33)))
 have HB8 := hid (Box.new w8 #[.int .i64 op8, .bool g8, .slice N8 nn8 nc8, str nm8, .int .i64 so8, .slice A8 n8 c8] 33)
 replace E := hid (E.out.alloc' (.cells #[.int .i64 op8, .bool g8, .slice N8 nn8 nc8, str nm8, .int .i64 so8, .slice A8 n8 c8] 33))
 replace HB5 := hid (HB5.out.alloc (.cells #[.int .i64 op8, .bool g8, .slice N8 nn8 nc8, str nm8, .int .i64 so8, .slice A8 n8 c8] 33))
 replace HT5 := hid (HT5.out.up (Ext.alloc w8 (.cells #[.int .i64 op8, .bool g8, .slice N8 nn8 nc8, str nm8, .int .i64 so8, .slice A8 n8 c8] 33)))
 replace HB6 := hid (HB6.out.alloc (.cells #[.int .i64 op8, .bool g8, .slice N8 nn8 nc8, str nm8, .int .i64 so8, .slice A8 n8 c8] 33))
 replace HT6 := hid (HT6.out.up (Ext.alloc w8 (.cells #[.int .i64 op8, .bool g8, .slice N8 nn8 nc8, str nm8, .int .i64 so8, .slice A8 n8 c8] 33)))
 replace HB7 := hid (HB7.out.alloc (.cells #[.int .i64 op8, .bool g8, .slice N8 nn8 nc8, str nm8, .int .i64 so8, .slice A8 n8 c8] 33))
 replace HT7 := hid (HT7.out.up (Ext.alloc w8 (.cells #[.int .i64 op8, .bool g8, .slice N8 nn8 nc8, str nm8, .int .i64 so8, .slice A8 n8 c8] 33)))
 clear hT hb
 obtain ⟨a0, a1, a2⟩ := box3b (HBS.out.up E.out)
 have b0 := (HBI.out.up E.out).k 0 (v := .bool g)
 have b1 := (HBI.out.up E.out).k 1 (v := .slice N nn nc)
 go_wp2_with fail
 clear a0 a1 a2 b0 b1
 refine wp_region_D [(0, 0), (1, 0), (2, 1), (3, 0), (4, 0), (5, 0), (6, 0), (7, 0), (8, 0), (9, 0), (10, 0), (11, 1), (12, 0), (13, 0), (14, 0), (15, 0), (16, 0), (17, 0), (18, 0), (19, 0), (21, 0), (20, 1), (22, 1), (23, 0), (24, 0), (25, 0), (26, 0), (28, 0), (27, 1), (29, 1), (30, 1), (31, 0), (32, 0), (33, 0), (35, 0), (34, 1), (36, 1), (37, 1), (38, 0), (39, 0)] fun wd hb => ?_
 have E0 := hid hb
 replace E := hid (E.out.trans hb)
 clear hb
 refine WE.q 59 (kv op5 g5 N5 nn5 nc5 nm5 so5 A5 n5 c5) rfl (fun w' hk => by obtain ⟨⟨x0, x1, x2, x3, x4, x5⟩, -, -⟩ := boxF6 (HB5.out.up (E0.out.trans hk)); go_simp) ?_
 simp only [Act.put, pA, pB, pC]
 refine WE.q 60 (kv op6 g6 N6 nn6 nc6 nm6 so6 A6 n6 c6) rfl (fun w' hk => by obtain ⟨⟨x0, x1, x2, x3, x4, x5⟩, -, -⟩ := boxF6 (HB6.out.up (E0.out.trans hk)); go_simp) ?_
 simp only [Act.put, pA, pB, pC]
 refine WE.c 61 ((rkSame_t (HT5.out.up E0.out) (HT6.out.up E0.out)).mono ?_)
 rintro e w6' ⟨rfl, hb6⟩
 refine ⟨_, rfl, hb6, ?_⟩
 replace E := hid (E.out.trans hb6)
 replace E0 := hid (E0.out.trans hb6)
 clear hb6
 simp only [Act.put, pA, pB, pC]
 refine WE.p 62 (.bool true) ?_
 simp only [Act.put, pA, pB, pC]
 refine WE.p 63 (.int .i64 Rm.2) ?_
 simp only [Act.put, pA, pB, pC]
 refine WE.p 64 (.int .i64 Rm.2) ?_
 simp only [Act.put, pA, pB, pC]
 refine WE.p 65 (.bool true) ?_
 simp only [Act.put, pA, pB, pC]
 refine WE.p 66 (.bool true) ?_
 simp only [Act.put, pA, pB, pC]
 refine WE.p 67 (.bool true) ?_
 simp only [Act.put, pA, pB, pC]
 refine WE.q 68 (kv op7 g7 N7 nn7 nc7 nm7 so7 A7 n7 c7) rfl (fun w' hk => by obtain ⟨⟨x0, x1, x2, x3, x4, x5⟩, -, -⟩ := boxF6 (HB7.out.up (E0.out.trans hk)); go_simp) ?_
 simp only [Act.put, pA, pB, pC]
 refine WE.q 69 (kv op8 g8 N8 nn8 nc8 nm8 so8 A8 n8 c8) rfl (fun w' hk => by obtain ⟨⟨x0, x1, x2, x3, x4, x5⟩, -, -⟩ := boxF6 (HB8.out.up (E0.out.trans hk)); go_simp) ?_
 simp only [Act.put, pA, pB, pC]
 refine WE.c 70 ((rkSame_t (HT7.out.up E0.out) (HT8.out.up E0.out)).mono ?_)
 rintro e w6' ⟨rfl, hb6⟩
 refine ⟨_, rfl, hb6, ?_⟩
 replace E := hid (E.out.trans hb6)
 replace E0 := hid (E0.out.trans hb6)
 clear hb6
 simp only [Act.put, pA, pB, pC]
 refine WE.p 71 (.bool true) ?_
 simp only [Act.put, pA, pB, pC]
 refine WE.p 72 (.bool true) ?_
 simp only [Act.put, pA, pB, pC]
 refine WE.p 73 (.int .i64 Ra.2) ?_
 simp only [Act.put, pA, pB, pC]
 refine WE.p 74 (.int .i64 Ra.2) ?_
 simp only [Act.put, pA, pB, pC]
 refine WE.p 75 (.bool true) ?_
 simp only [Act.put, pA, pB, pC]
 refine WE.p 76 (.bool true) ?_
 simp only [Act.put, pA, pB, pC]
 refine WE.p 77 (.bool true) ?_
 simp only [Act.put, pA, pB, pC]
 refine WE.q 78 (sgv nm B m bd rt) rfl (fun w' hk => by obtain ⟨x0, x1, x2⟩ := box3b (HBS.out.up (E.out.trans hk)); go_simp) ?_
 simp only [Act.put, pA, pB, pC]
 refine WE.q 80 (sgv nm B m bd rt) rfl (fun w' hk => by obtain ⟨x0, x1, x2⟩ := box3b (HBS.out.up (E.out.trans hk)); go_simp) ?_
 simp only [Act.put, pA, pB, pC]
 refine WE.c 79 ((HIS.out _ ((alloc_two w _ _).trans E.out)).mono ?_)
 rintro e w6' ⟨rfl, hb6⟩
 refine ⟨_, rfl, hb6, ?_⟩
 replace E := hid (E.out.trans hb6)
 replace E0 := hid (E0.out.trans hb6)
 clear hb6
 simp only [Act.put, pA, pB, pC]
 refine WE.c 81 ((HIS2.out _ ((alloc_two w _ _).trans E.out)).mono ?_)
 rintro e w6' ⟨rfl, hb6⟩
 refine ⟨_, rfl, hb6, ?_⟩
 replace E := hid (E.out.trans hb6)
 replace E0 := hid (E0.out.trans hb6)
 clear hb6
 simp only [Act.put, pA, pB, pC]
 refine WE.p 82 (.bool true) ?_
 simp only [Act.put, pA, pB, pC]
 refine WE.p 83 (.bool true) ?_
 simp only [Act.put, pA, pB, pC]
 refine WE.p 84 (.bool true) ?_
 simp only [Act.put, pA, pB, pC]
 refine WE.q 85 (.agg #[.bool g, .slice N nn nc]) rfl (fun w' hk => by have x0 := (HBI.out.up (E.out.trans hk)).k 0 (v := .bool g); have x1 := (HBI.out.up (E.out.trans hk)).k 1 (v := .slice N nn nc); go_simp) ?_
 simp only [Act.put, pA, pB, pC]
 refine WE.q 87 (.agg #[.bool g, .slice N nn nc]) rfl (fun w' hk => by have x0 := (HBI.out.up (E.out.trans hk)).k 0 (v := .bool g); have x1 := (HBI.out.up (E.out.trans hk)).k 1 (v := .slice N nn nc); go_simp) ?_
 simp only [Act.put, pA, pB, pC]
 refine WE.c 86 ((HNU.out _ ((alloc_two w _ _).trans E.out)).mono ?_)
 rintro e w6' ⟨v27, rfl, hT, hb6⟩
 refine ⟨_, rfl, hb6, ?_⟩
 replace E := hid (E.out.trans hb6)
 replace E0 := hid (E0.out.trans hb6)
 have H27 := hid hT
 clear hb6 hT
 simp only [Act.put, pA, pB, pC]
 refine WE.c 88 ((HNU2.out _ ((alloc_two w _ _).trans E.out)).mono ?_)
 rintro e w6' ⟨v29, rfl, hT, hb6⟩
 refine ⟨_, rfl, hb6, ?_⟩
 replace E := hid (E.out.trans hb6)
 replace E0 := hid (E0.out.trans hb6)
 have H29 := hid hT
 replace H27 := hid (H27.out.up hb6)
 clear hb6 hT
 simp only [Act.put, pA, pB, pC]
 refine WE.c 89 ((rkSame_t H27.out H29.out).mono ?_)
 rintro e w6' ⟨rfl, hb6⟩
 refine ⟨_, rfl, hb6, ?_⟩
 replace E := hid (E.out.trans hb6)
 replace E0 := hid (E0.out.trans hb6)
 clear hb6
 simp only [Act.put, pA, pB, pC]
 refine WE.p 90 (.bool true) ?_
 simp only [Act.put, pA, pB, pC]
 refine WE.p 91 (.bool true) ?_
 simp only [Act.put, pA, pB, pC]
 refine WE.p 92 (.bool b) ?_
 simp only [Act.put, pA, pB, pC]
 refine WE.p 94 (.bool b) ?_
 simp only [Act.put, pA, pB, pC]
 refine WE.c 93 ((HBO.out _ ((alloc_two w _ _).trans E.out)).mono ?_)
 rintro e w6' ⟨v34, rfl, hT, hb6⟩
 refine ⟨_, rfl, hb6, ?_⟩
 replace E := hid (E.out.trans hb6)
 replace E0 := hid (E0.out.trans hb6)
 have H34 := hid hT
 clear hb6 hT
 simp only [Act.put, pA, pB, pC]
 refine WE.c 95 ((HBO2.out _ ((alloc_two w _ _).trans E.out)).mono ?_)
 rintro e w6' ⟨v36, rfl, hT, hb6⟩
 refine ⟨_, rfl, hb6, ?_⟩
 replace E := hid (E.out.trans hb6)
 replace E0 := hid (E0.out.trans hb6)
 have H36 := hid hT
 replace H34 := hid (H34.out.up hb6)
 clear hb6 hT
 simp only [Act.put, pA, pB, pC]
 refine WE.c 96 ((rkSame_t H34.out H36.out).mono ?_)
 rintro e w6' ⟨rfl, hb6⟩
 refine ⟨_, rfl, hb6, ?_⟩
 replace E := hid (E.out.trans hb6)
 replace E0 := hid (E0.out.trans hb6)
 clear hb6
 simp only [Act.put, pA, pB, pC]
 refine WE.p 97 (.bool true) ?_
 simp only [Act.put, pA, pB, pC]
 refine WE.p 10 (.bool true) ?_
 simp only [Act.put, pA, pB, pC]
 refine WE.done ?_
 go_wp2_with fail
 go_ret
 exact ⟨rfl, (alloc_two w _ _).trans E.out⟩
end Go.Proofs.YtaoboilkpgphaaaGreatDoor.Q
