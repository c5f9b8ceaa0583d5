/-
  DigitsOrder: whatever two rows of limbs: true, and the input reads as it did. No conditions but the form's own.
-/
import Derived.Test.YthlafkbldlmmaaaDoorTLaid
import Derived.Test.YthlafkbldlmmaaaDoorTOrdA
import Derived.Test.YthlafkbldlmmaaaDoorTOrdB
namespace Go.Proofs.YthlafkbldlmmaaaDoor
open Go.ChangeShapes Go.WideShapes Go.ChangeAt Go.RowKit
set_option linter.unusedSimpArgs false
set_option linter.unusedVariables false

theorem digitsOrder_walk (W : World) (ht : Tab W) (A : Option Addr) (n c : Nat) (l : List Nat) (h : Num W W.heap.size (.slice A n c) l) (A' : Option Addr) (n' c' : Nat) (l' : List Nat) (h' : Num W W.heap.size (.slice A' n' c') l') : Calls Tryd.prog 6 #[.slice A n c, .slice A' n' c'] W (fun e w' => e = .returned (.bool true) ∧ Ext W w') := by
  cases f1 : (decide (8 < (n : Int)))
  rotate_left
  · exact digitsOrder_skip0 W ht A n c l h A' n' c' l' h' f1
  cases f2 : (decide (8 < (n' : Int)))
  rotate_left
  · exact digitsOrder_skip1 W ht A n c l h A' n' c' l' h' f1 f2
  cases f3 : (M.isNat l)
  · exact digitsOrder_skip2 W ht A n c l h A' n' c' l' h' f1 f2 f3
  cases f4 : (M.isNat l')
  · exact digitsOrder_skip3 W ht A n c l h A' n' c' l' h' f1 f2 f3 f4
  rcases Nat.lt_trichotomy (Lib.decDigits (M.nv l)).length (Lib.decDigits (M.nv l')).length with hl | hl | hl
  · exact digitsOrder_ll W ht A n c l h A' n' c' l' h' f1 f2 f3 f4 _ _ rfl rfl hl (M.cmp_lt (M.dec_len_lt hl))
  · have hx := M.dec_lex hl
    have hy := M.dec_lex hl.symm
    rcases Nat.lt_trichotomy (M.nv l) (M.nv l') with hm | hm | hm
    · exact digitsOrder_el W ht A n c l h A' n' c' l' h' f1 f2 f3 f4 _ _ rfl rfl ⟨hl, hx.2 hm⟩ (M.cmp_lt hm)
    · exact digitsOrder_ee W ht A n c l h A' n' c' l' h' f1 f2 f3 f4 _ _ rfl rfl (by rw [hm]) (by rw [hm]; exact M.cmp_self _)
    · exact digitsOrder_eg W ht A n c l h A' n' c' l' h' f1 f2 f3 f4 _ _ rfl rfl ⟨hl, hy.2 hm⟩ (M.cmp_gt hm)
  · exact digitsOrder_gg W ht A n c l h A' n' c' l' h' f1 f2 f3 f4 _ _ rfl rfl hl (M.cmp_gt (M.dec_len_lt hl))

set_option maxRecDepth 100000 in
theorem digitsOrder_lifted (os : Os) (started : os.Started) (H : Type) (enc : TypeId × Value → H) :
    ReturnsInHanded {} Tryd.checked os 6 .any (fun w args => (Rows.digitsOrderSpec.pre enc Tryd.prog Tryd.f6 [] false w args ∧ laidMetH Tryd.prog laid3 w) ∧ sizedMet enc Tryd.prog Tryd.f6 (OpenSpec.ofChange Rows.digitsOrderSpec) false w args)
      (Rows.digitsOrderSpec.post enc Tryd.prog Tryd.f6 false true false false) := by
  refine returnsInHanded_of_change_and (C := Tryd.checked) (X := fun w _ => laidMetH Tryd.prog laid3 w) (fun _ _ _ hh h => h.of_heap hh) own started (by kernel_rfl) Tryd.func6
    (ChangeSpec.witness_shaped (enc := enc) (C := Tryd.checked) (os := os) (X := fun w _ => laidMetH Tryd.prog laid3 w) false (World.doorLaid Tryd.prog 400 os) #[.slice none 0 0, .slice none 0 0] 8 rfl (World.shaped_of_RefB (by kernel_rfl) (by kernel_rfl)) (by kernel_rfl) (by kernel_rfl) (by kernel_rfl) (door_met os _)) ?_
  intro W base args ds gs before hval0 hW _ _ hL _
  have hval : ∀ (j : Nat) t v, Tryd.f6.params[j]? = some t → args[j]? = some v → Value.okWide Tryd.prog W .any base t v := hval0
  have hW' := hW
  obtain ⟨p, q, hA0, hV, rfl, hfz, hnd⟩ := hW
  have hA : DataW.TrodAll enc Tryd.prog W 0 (fun _ => true) true Tryd.f6.params.toList args.toList ds p := hA0
  rw [Tryd.params6] at hA hval
  obtain ⟨v0, vs0, d0, ds0, p0, q0, hargs, rfl, rfl, h0, r0⟩ := trodAll_cons hA
  obtain ⟨v1, vs1, d1, ds1, p1, q1, rfl, rfl, rfl, h1, r1⟩ := trodAll_cons r0
  obtain ⟨rfl, rfl, rfl⟩ := trodAll_nil r1
  obtain rfl : args = #[v0, v1] := by cases args; simp_all
  obtain ⟨rfl, rfl⟩ := trodVars_none hV
  obtain ⟨A0, n0, c0, l0, rfl, e0⟩ := open_num3 (hval 0 22 v0 rfl rfl) h0
  obtain ⟨A1, n1, c1, l1, rfl, e1⟩ := open_num3 (hval 1 22 v1 rfl rfl) h1
  have hT := tab_of_laid hL
  clear hA0 hval0 hL
  refine (digitsOrder_walk W hT A0 n0 c0 l0 e0 A1 n1 c1 l1 e1).mono fun e W' ⟨he, hg⟩ => ?_
  subst he
  exact ⟨_, rfl, law_post hW' rfl rfl (by kernel_rfl) (by kernel_rfl) hg⟩

theorem digitsOrder_over : Rows.DigitsOrderSaid :=
  OpenClaim.holds_of_wide 6 Tryd.f6 rfl rfl rfl rfl rfl rfl rfl ⟨rfl, rfl, rfl, rfl, rfl⟩ rfl rfl rfl rfl rfl (by kernel_rfl) Tryd.func6 (by kernel_rfl)
    (of_decide_eq_true (by kernel_rfl)) (by unfold Func.isWrapper; first | (rw [if_pos (by decide +kernel)]; kernel_rfl) | (rw [if_neg (by decide +kernel)]; exact ⟨rfl, rfl⟩))
    (fun os started H enc _ => digitsOrder_lifted os started H enc)

theorem digitsOrder_card : Rows.DigitsOrderCardSaid :=
  Claim7.holds_tied_plain_at .later [] [.data, .data, .data] true Rows.digitsOrderCard.stood.harness false
    digitsOrder_over (fun _ h => by cases h) (by kernel_rfl) (fun _ h => by cases h) digitsOrder_row_tie rfl ⟨rfl, rfl⟩ (by kernel_rfl) rfl
    (fun f fn hf hfn => by
      obtain rfl : f = 6 := Option.some.inj ((show Tryd.prog.funcNamed "mullion/mullionlaw3.DigitsOrder" = some 6 by kernel_rfl).symm.trans hf) |>.symm
      obtain rfl : fn = Tryd.f6 := (Option.some.inj (Tryd.func6.symm.trans hfn)).symm
      exact ⟨by kernel_rfl, fun j t ht => by
        rw [Tryd.params6] at ht
        have hm : t ∈ [22, 22] := by simpa using Array.mem_of_getElem? ht
        have hall : ([22, 22].all fun u => !Tryd.prog.wantsStandIn u) = true := by kernel_rfl
        exact (show Tryd.prog.wantsStandIn t = false by simpa using List.all_eq_true.1 hall t hm)⟩)
    (by kernel_rfl)

end Go.Proofs.YthlafkbldlmmaaaDoor
