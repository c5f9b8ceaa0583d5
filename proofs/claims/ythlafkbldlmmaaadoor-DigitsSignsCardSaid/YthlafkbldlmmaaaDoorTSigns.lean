/-
  DigitsSigns: whatever number and form: true, and the input reads as it did. No conditions but the form's own.
-/
import Derived.Test.YthlafkbldlmmaaaDoorTLaid
import Derived.Test.YthlafkbldlmmaaaDoorTSignsA
namespace Go.Proofs.YthlafkbldlmmaaaDoor
open Go.ChangeShapes Go.WideShapes Go.ChangeAt Go.RowKit
set_option linter.unusedSimpArgs false
set_option linter.unusedVariables false

theorem digitsSigns_walk (W : World) (ht : Tab W) (a : Int) (ha : (Lit.int .u32 a).wf = true) (b : Int) (hb : (Lit.int .u8 b).wf = true) : Calls Tryd.prog 7 #[.int .u32 a, .int .u8 b] W (fun e w' => e = .returned (.bool true) ∧ Ext W w') := by
  have h1 := u32_of_wf ha
  have h2 := u8_of_wf hb
  clear ha hb
  obtain ⟨m, rfl⟩ : ∃ m : Nat, a = (m : Int) := ⟨a.toNat, by omega⟩
  have hm : m < 4294967296 := by omega
  obtain ⟨s, hs⟩ : ∃ s, Lib.decDigits (m + 1) = s := ⟨_, rfl⟩
  have hpr : M.print ((m : Int) + 1) = s := by
    rw [M.print, if_neg (by omega), show ((m : Int) + 1).natAbs = m + 1 by omega]; exact hs
  have hl : s.length ≤ 10 := by
    rw [← hs, M.dec_length]
    exact M.nDigits_le (k := 10) (by omega) (by omega)
  have hd : s.all M.digit = true := by rw [← hs]; exact M.dec_all _
  have hne : s ≠ [] := by rw [← hs]; exact M.dec_ne _
  have hq : M.perr (40 :: 45 :: 32 :: (s ++ [41])) = 0 ∧ M.pval (40 :: 45 :: 32 :: (s ++ [41])) = -(m : Int) - 1 := by
    have h := M.parse_in (n := m + 1) (by omega) (by rw [← M.dec_length, hs]; omega)
    rw [hs] at h
    exact ⟨h.1, h.2.trans (by omega)⟩
  have hc : ∀ x : UInt8, M.digit x = false → s.head? ≠ some x := by
    intro x hx he
    cases s with
    | nil => simp at he
    | cons y r =>
      simp at he; subst he
      simp [hx] at hd
  obtain ⟨y0, r0, e0, h48⟩ := M.dec_head (n := m + 1) (by omega)
  rw [hs] at e0
  obtain ⟨k, hk⟩ : ∃ k : Nat, b % 8 = (k : Int) := ⟨(b % 8).toNat, by omega⟩
  have hk8 : k < 8 := by omega
  have go := digitsSigns_at W ht m b hm k hk8 h2.1 hk s hpr hl
  match k, hk8 with
  | 0, _ => exact go _ rfl (by simp; omega) (M.form0 s) hq
  | 1, _ => exact go _ rfl (by simp; omega) (by
      cases s with
      | nil => exact absurd rfl hne
      | cons y r => exact M.form1 (by intro hy; subst hy; exact hc 32 (by decide) rfl)) hq
  | 2, _ => exact go _ rfl (by simp; omega) (M.form2 (M.no_41 hd)) hq
  | 3, _ => exact go _ rfl (by simp) M.form3 hq
  | 4, _ => exact go _ rfl (by simp; omega) (M.form4 _) hq
  | 5, _ => exact go _ rfl (by simp; omega) (by
      rw [e0]; exact M.form5 h48) hq
  | 6, _ => exact go _ rfl (by simp; omega) (M.form6 s) hq
  | 7, _ => exact go _ rfl (by simp; omega) (M.form7 s) hq

set_option maxRecDepth 100000 in
theorem digitsSigns_lifted (os : Os) (started : os.Started) (H : Type) (enc : TypeId × Value → H) :
    ReturnsInHanded {} Tryd.checked os 7 .any (fun w args => (Rows.digitsSignsSpec.pre enc Tryd.prog Tryd.f7 [] false w args ∧ laidMetH Tryd.prog laid3 w) ∧ sizedMet enc Tryd.prog Tryd.f7 (OpenSpec.ofChange Rows.digitsSignsSpec) false w args)
      (Rows.digitsSignsSpec.post enc Tryd.prog Tryd.f7 false true false false) := by
  refine returnsInHanded_of_change_and (C := Tryd.checked) (X := fun w _ => laidMetH Tryd.prog laid3 w) (fun _ _ _ hh h => h.of_heap hh) own started (by kernel_rfl) Tryd.func7
    (ChangeSpec.witness_shaped (enc := enc) (C := Tryd.checked) (os := os) (X := fun w _ => laidMetH Tryd.prog laid3 w) false (World.doorLaid Tryd.prog 400 os) #[.int .u32 0, .int .u8 0] 8 rfl (World.shaped_of_RefB (by kernel_rfl) (by kernel_rfl)) (by kernel_rfl) (by kernel_rfl) (by kernel_rfl) (door_met os _)) ?_
  intro W base args ds gs before hval0 hW _ _ hL _
  have hval : ∀ (j : Nat) t v, Tryd.f7.params[j]? = some t → args[j]? = some v → Value.okWide Tryd.prog W .any base t v := hval0
  have hW' := hW
  obtain ⟨p, q, hA0, hV, rfl, hfz, hnd⟩ := hW
  have hA : DataW.TrodAll enc Tryd.prog W 0 (fun _ => true) true Tryd.f7.params.toList args.toList ds p := hA0
  rw [Tryd.params7] at hA hval
  obtain ⟨v0, vs0, d0, ds0, p0, q0, hargs, rfl, rfl, h0, r0⟩ := trodAll_cons hA
  obtain ⟨v1, vs1, d1, ds1, p1, q1, rfl, rfl, rfl, h1, r1⟩ := trodAll_cons r0
  obtain ⟨rfl, rfl, rfl⟩ := trodAll_nil r1
  obtain rfl : args = #[v0, v1] := by cases args; simp_all
  obtain ⟨rfl, rfl⟩ := trodVars_none hV
  obtain ⟨a0, rfl, -, -, w0⟩ := open_int Tryd.underlying46 (hval 0 46 v0 rfl rfl) h0
  obtain ⟨a1, rfl, -, -, w1⟩ := open_int Tryd.underlying5 (hval 1 5 v1 rfl rfl) h1
  have hT := tab_of_laid hL
  clear hA0 hval0 hL
  refine (digitsSigns_walk W hT a0 w0 a1 w1).mono fun e W' ⟨he, hg⟩ => ?_
  subst he
  exact ⟨_, rfl, law_post hW' rfl rfl (by kernel_rfl) (by kernel_rfl) hg⟩

theorem digitsSigns_over : Rows.DigitsSignsSaid :=
  OpenClaim.holds_of_wide 7 Tryd.f7 rfl rfl rfl rfl rfl rfl rfl ⟨rfl, rfl, rfl, rfl, rfl⟩ rfl rfl rfl rfl rfl (by kernel_rfl) Tryd.func7 (by kernel_rfl)
    (of_decide_eq_true (by kernel_rfl)) (by unfold Func.isWrapper; first | (rw [if_pos (by decide +kernel)]; kernel_rfl) | (rw [if_neg (by decide +kernel)]; exact ⟨rfl, rfl⟩))
    (fun os started H enc _ => digitsSigns_lifted os started H enc)

theorem digitsSigns_card : Rows.DigitsSignsCardSaid :=
  Claim7.holds_tied_plain_at .later [] [.data, .data, .data] true Rows.digitsSignsCard.stood.harness false
    digitsSigns_over (fun _ h => by cases h) (by kernel_rfl) (fun _ h => by cases h) digitsSigns_row_tie rfl ⟨rfl, rfl⟩ (by kernel_rfl) rfl
    (fun f fn hf hfn => by
      obtain rfl : f = 7 := Option.some.inj ((show Tryd.prog.funcNamed "mullion/mullionlaw3.DigitsSigns" = some 7 by kernel_rfl).symm.trans hf) |>.symm
      obtain rfl : fn = Tryd.f7 := (Option.some.inj (Tryd.func7.symm.trans hfn)).symm
      exact ⟨by kernel_rfl, fun j t ht => by
        rw [Tryd.params7] at ht
        have hm : t ∈ [46, 5] := by simpa using Array.mem_of_getElem? ht
        have hall : ([46, 5].all fun u => !Tryd.prog.wantsStandIn u) = true := by kernel_rfl
        exact (show Tryd.prog.wantsStandIn t = false by simpa using List.all_eq_true.1 hall t hm)⟩)
    (by kernel_rfl)

end Go.Proofs.YthlafkbldlmmaaaDoor
