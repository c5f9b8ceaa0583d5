/-
  DigitsBack: whatever integer, or what is none, and a digit: true, and the input reads as it did. No conditions but the form's own.
-/
import Derived.Test.YthlafkbldlmmaaaDoorTLaid
import Derived.Test.YthlafkbldlmmaaaDoorTBackZ
import Derived.Test.YthlafkbldlmmaaaDoorTBackN
import Derived.Test.YthlafkbldlmmaaaDoorTSignsA
namespace Go.Proofs.YthlafkbldlmmaaaDoor
open Go.ChangeShapes Go.WideShapes Go.ChangeAt Go.RowKit
set_option linter.unusedSimpArgs false
set_option linter.unusedVariables false

theorem digitsBack_walk (W : World) (ht : Tab W) (g : Bool) (A : Option Addr) (n c : Nat) (l : List Nat) (h : Num W W.heap.size (.slice A n c) l) (d : Int) (hd : (Lit.int .u8 d).wf = true) : Calls Tryd.prog 4 #[.agg #[.bool g, .slice A n c], .int .u8 d] W (fun e w' => e = .returned (.bool true) ∧ Ext W w') := by
  have h1 := u8_of_wf hd
  clear hd
  cases f1 : (decide (20 < (n : Int)))
  rotate_left
  · exact digitsBack_skip0 W ht g A n c l h d h1.1 f1
  cases f2 : (M.isZ g l)
  · exact digitsBack_skip1 W ht g A n c l h d h1.1 f1 f2
  have hn := h.row.2
  have hll : l.length ≤ 20 := by simp at f1; omega
  obtain ⟨r, hr⟩ : ∃ r : Nat, d % 10 = (r : Int) := ⟨(d % 10).toNat, by omega⟩
  have hr10 : r < 10 := by omega
  have hab := M.zv_abs f2
  have hdg : Lib.nDigits (M.zv g l).natAbs ≤ 180 := by rw [hab]; exact M.dec_twenty hll (M.isZ_nat f2)
  have hps := M.parse_print (M.zv g l) (by omega)
  have hsl : (M.print (M.zv g l)).length ≤ 1000 := by
    unfold M.print
    split
    · simp [M.dec_length]; omega
    · rw [M.dec_length]; omega
  have htl : (Lib.decDigits (M.zv g l).natAbs).length ≤ 1000 := by rw [M.dec_length]; omega
  rcases Nat.eq_zero_or_pos n with h0 | h0
  · exact digitsBack_zero W ht g A n c l h d h1.1 f1 f2 r (48 + r) hr hr10 rfl _ rfl hll _ _ rfl hsl hps rfl htl (M.perr_space _) h0 (by
      have hl0 : l = [] := List.length_eq_zero_iff.1 (by omega)
      rw [hab, hl0]; exact M.perr_step0 _)
  · exact digitsBack_main W ht g A n c l h d h1.1 f1 f2 r (48 + r) hr hr10 rfl _ rfl hll _ _ rfl hsl hps rfl htl (M.perr_space _) h0 (by
      have hp : 0 < (M.zv g l).natAbs := by
        rw [hab]
        exact M.val_pos (by intro e; subst e; simp at hn; omega) (M.isNat_iff.1 (M.isZ_nat f2)).2
      exact M.parse_step hp hr10 (by omega))

set_option maxRecDepth 100000 in
theorem digitsBack_lifted (os : Os) (started : os.Started) (H : Type) (enc : TypeId × Value → H) :
    ReturnsInHanded {} Tryd.checked os 4 .any (fun w args => (Rows.digitsBackSpec.pre enc Tryd.prog Tryd.f4 [] false w args ∧ laidMetH Tryd.prog laid3 w) ∧ sizedMet enc Tryd.prog Tryd.f4 (OpenSpec.ofChange Rows.digitsBackSpec) false w args)
      (Rows.digitsBackSpec.post enc Tryd.prog Tryd.f4 false true false false) := by
  refine returnsInHanded_of_change_and (C := Tryd.checked) (X := fun w _ => laidMetH Tryd.prog laid3 w) (fun _ _ _ hh h => h.of_heap hh) own started (by kernel_rfl) Tryd.func4
    (ChangeSpec.witness_shaped (enc := enc) (C := Tryd.checked) (os := os) (X := fun w _ => laidMetH Tryd.prog laid3 w) false (World.doorLaid Tryd.prog 400 os) #[.agg #[.bool false, .slice none 0 0], .int .u8 0] 8 rfl (World.shaped_of_RefB (by kernel_rfl) (by kernel_rfl)) (by kernel_rfl) (by kernel_rfl) (by kernel_rfl) (door_met os _)) ?_
  intro W base args ds gs before hval0 hW _ _ hL _
  have hval : ∀ (j : Nat) t v, Tryd.f4.params[j]? = some t → args[j]? = some v → Value.okWide Tryd.prog W .any base t v := hval0
  have hW' := hW
  obtain ⟨p, q, hA0, hV, rfl, hfz, hnd⟩ := hW
  have hA : DataW.TrodAll enc Tryd.prog W 0 (fun _ => true) true Tryd.f4.params.toList args.toList ds p := hA0
  rw [Tryd.params4] at hA hval
  obtain ⟨v0, vs0, d0, ds0, p0, q0, hargs, rfl, rfl, h0, r0⟩ := trodAll_cons hA
  obtain ⟨v1, vs1, d1, ds1, p1, q1, rfl, rfl, rfl, h1, r1⟩ := trodAll_cons r0
  obtain ⟨rfl, rfl, rfl⟩ := trodAll_nil r1
  obtain rfl : args = #[v0, v1] := by cases args; simp_all
  obtain ⟨rfl, rfl⟩ := trodVars_none hV
  obtain ⟨g0, A0, n0, c0, l0, rfl, e0⟩ := open_Z (hval 0 24 _ rfl rfl) h0
  obtain ⟨a1, rfl, -, -, w1⟩ := open_int Tryd.underlying5 (hval 1 5 v1 rfl rfl) h1
  have hT := tab_of_laid hL
  clear hA0 hval0 hL
  refine (digitsBack_walk W hT g0 A0 n0 c0 l0 e0 a1 w1).mono fun e W' ⟨he, hg⟩ => ?_
  subst he
  exact ⟨_, rfl, law_post hW' rfl rfl (by kernel_rfl) (by kernel_rfl) hg⟩

theorem digitsBack_over : Rows.DigitsBackSaid :=
  OpenClaim.holds_of_wide 4 Tryd.f4 rfl rfl rfl rfl rfl rfl rfl ⟨rfl, rfl, rfl, rfl, rfl⟩ rfl rfl rfl rfl rfl (by kernel_rfl) Tryd.func4 (by kernel_rfl)
    (of_decide_eq_true (by kernel_rfl)) (by unfold Func.isWrapper; first | (rw [if_pos (by decide +kernel)]; kernel_rfl) | (rw [if_neg (by decide +kernel)]; exact ⟨rfl, rfl⟩))
    (fun os started H enc _ => digitsBack_lifted os started H enc)

theorem digitsBack_card : Rows.DigitsBackCardSaid :=
  Claim7.holds_tied_plain_at .later [] [.data, .data, .data] true Rows.digitsBackCard.stood.harness false
    digitsBack_over (fun _ h => by cases h) (by kernel_rfl) (fun _ h => by cases h) digitsBack_row_tie rfl ⟨rfl, rfl⟩ (by kernel_rfl) rfl
    (fun f fn hf hfn => by
      obtain rfl : f = 4 := Option.some.inj ((show Tryd.prog.funcNamed "mullion/mullionlaw3.DigitsBack" = some 4 by kernel_rfl).symm.trans hf) |>.symm
      obtain rfl : fn = Tryd.f4 := (Option.some.inj (Tryd.func4.symm.trans hfn)).symm
      exact ⟨by kernel_rfl, fun j t ht => by
        rw [Tryd.params4] at ht
        have hm : t ∈ [24, 5] := by simpa using Array.mem_of_getElem? ht
        have hall : ([24, 5].all fun u => !Tryd.prog.wantsStandIn u) = true := by kernel_rfl
        exact (show Tryd.prog.wantsStandIn t = false by simpa using List.all_eq_true.1 hall t hm)⟩)
    (by kernel_rfl)

end Go.Proofs.YthlafkbldlmmaaaDoor
