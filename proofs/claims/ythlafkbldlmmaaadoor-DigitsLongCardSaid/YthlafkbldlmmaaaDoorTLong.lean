/-
  DigitsLong: whatever three arguments: true, and the input reads as it did. No conditions but the form's own.
-/
import Derived.Test.YthlafkbldlmmaaaDoorTLaid
import Derived.Test.YthlafkbldlmmaaaDoorTLongA
import Derived.Test.YthlafkbldlmmaaaDoorTLongB
import Derived.Test.YthlafkbldlmmaaaDoorTSignsA
namespace Go.Proofs.YthlafkbldlmmaaaDoor
open Go.ChangeShapes Go.WideShapes Go.ChangeAt Go.RowKit
set_option linter.unusedSimpArgs false
set_option linter.unusedVariables false

theorem digitsLong_walk (W : World) (ht : Tab W) (a : Int) (ha : (Lit.int .u8 a).wf = true) (b : Int) (hb : (Lit.int .u8 b).wf = true) (g : Bool) : Calls Tryd.prog 5 #[.int .u8 a, .int .u8 b, .bool g] W (fun e w' => e = .returned (.bool true) ∧ Ext W w') := by
  have h1 := u8_of_wf ha
  have h2 := u8_of_wf hb
  clear ha hb
  obtain ⟨r, hr⟩ : ∃ r : Nat, a % 3 = (r : Int) := ⟨(a % 3).toNat, by omega⟩
  obtain ⟨c, hc⟩ : ∃ c : Nat, b % 9 = (c : Int) := ⟨(b % 9).toNat, by omega⟩
  have hc9 : c < 9 := by omega
  obtain ⟨n, h0, hn⟩ := M.long_dec hc9 (358 + r)
  obtain ⟨s, hs⟩ : ∃ s, M.long c (358 + r) = s := ⟨_, rfl⟩
  have hl : s.length = 359 + r := by rw [← hs, M.long_length]; omega
  rw [hs] at hn
  have hd : Lib.nDigits n = 359 + r := by rw [← M.dec_length, hn]; exact hl
  have hnu : M.numeral s = true := by rw [← hn]; exact M.numeral_dec n
  have hnz : M.numeral (48 :: s) = false := M.numeral_nought (by rw [← hn]; exact M.dec_ne n)
  rcases (by omega : r < 2 ∨ r = 2) with h | h
  · have hle : Lib.nDigits n ≤ 360 := by omega
    cases g
    · have k := M.parse_out (n := n) hle
      rw [hn] at k
      exact digitsLong_ps W ht a b h1.1 h2.1 r c hr hc hc9 h s hs hl (n : Int) k.2 k.1 (by rw [M.print, if_neg (by omega), show ((n : Int)).natAbs = n by omega]; exact hn) (by simp) hnu hnz
    · have k := M.parse_in (n := n) h0 hle
      rw [hn] at k
      exact digitsLong_ns W ht a b h1.1 h2.1 r c hr hc hc9 h s hs hl (-(n : Int)) k.2 k.1 (by rw [M.print, if_pos (by omega), show (-(n : Int)).natAbs = n by omega, hn]; rfl) (by simp; omega) hnu hnz
  · have hle : 360 < Lib.nDigits n := by omega
    cases g
    · have k := M.long_out (n := n) hle
      rw [hn] at k
      exact digitsLong_pl W ht a b h1.1 h2.1 r c hr hc hc9 h s hs hl 0 k.2 k.1 rfl
    · have k := M.long_in (n := n) h0 hle
      rw [hn] at k
      exact digitsLong_nl W ht a b h1.1 h2.1 r c hr hc hc9 h s hs hl 0 k.2 k.1 rfl

set_option maxRecDepth 100000 in
theorem digitsLong_lifted (os : Os) (started : os.Started) (H : Type) (enc : TypeId × Value → H) :
    ReturnsInHanded {} Tryd.checked os 5 .any (fun w args => (Rows.digitsLongSpec.pre enc Tryd.prog Tryd.f5 [] false w args ∧ laidMetH Tryd.prog laid3 w) ∧ sizedMet enc Tryd.prog Tryd.f5 (OpenSpec.ofChange Rows.digitsLongSpec) false w args)
      (Rows.digitsLongSpec.post enc Tryd.prog Tryd.f5 false true false false) := by
  refine returnsInHanded_of_change_and (C := Tryd.checked) (X := fun w _ => laidMetH Tryd.prog laid3 w) (fun _ _ _ hh h => h.of_heap hh) own started (by kernel_rfl) Tryd.func5
    (ChangeSpec.witness_shaped (enc := enc) (C := Tryd.checked) (os := os) (X := fun w _ => laidMetH Tryd.prog laid3 w) false (World.doorLaid Tryd.prog 400 os) #[.int .u8 0, .int .u8 0, .bool false] 8 rfl (World.shaped_of_RefB (by kernel_rfl) (by kernel_rfl)) (by kernel_rfl) (by kernel_rfl) (by kernel_rfl) (door_met os _)) ?_
  intro W base args ds gs before hval0 hW _ _ hL _
  have hval : ∀ (j : Nat) t v, Tryd.f5.params[j]? = some t → args[j]? = some v → Value.okWide Tryd.prog W .any base t v := hval0
  have hW' := hW
  obtain ⟨p, q, hA0, hV, rfl, hfz, hnd⟩ := hW
  have hA : DataW.TrodAll enc Tryd.prog W 0 (fun _ => true) true Tryd.f5.params.toList args.toList ds p := hA0
  rw [Tryd.params5] at hA hval
  obtain ⟨v0, vs0, d0, ds0, p0, q0, hargs, rfl, rfl, h0, r0⟩ := trodAll_cons hA
  obtain ⟨v1, vs1, d1, ds1, p1, q1, rfl, rfl, rfl, h1, r1⟩ := trodAll_cons r0
  obtain ⟨v2, vs2, d2, ds2, p2, q2, rfl, rfl, rfl, h2, r2⟩ := trodAll_cons r1
  obtain ⟨rfl, rfl, rfl⟩ := trodAll_nil r2
  obtain rfl : args = #[v0, v1, v2] := by cases args; simp_all
  obtain ⟨rfl, rfl⟩ := trodVars_none hV
  obtain ⟨a0, rfl, -, -, w0⟩ := open_int Tryd.underlying5 (hval 0 5 v0 rfl rfl) h0
  obtain ⟨a1, rfl, -, -, w1⟩ := open_int Tryd.underlying5 (hval 1 5 v1 rfl rfl) h1
  obtain ⟨b2, rfl, -, -⟩ := open_bool Tryd.underlying4 (hval 2 4 v2 rfl rfl) h2
  have hT := tab_of_laid hL
  clear hA0 hval0 hL
  refine (digitsLong_walk W hT a0 w0 a1 w1 b2).mono fun e W' ⟨he, hg⟩ => ?_
  subst he
  exact ⟨_, rfl, law_post hW' rfl rfl (by kernel_rfl) (by kernel_rfl) hg⟩

theorem digitsLong_over : Rows.DigitsLongSaid :=
  OpenClaim.holds_of_wide 5 Tryd.f5 rfl rfl rfl rfl rfl rfl rfl ⟨rfl, rfl, rfl, rfl, rfl⟩ rfl rfl rfl rfl rfl (by kernel_rfl) Tryd.func5 (by kernel_rfl)
    (of_decide_eq_true (by kernel_rfl)) (by unfold Func.isWrapper; first | (rw [if_pos (by decide +kernel)]; kernel_rfl) | (rw [if_neg (by decide +kernel)]; exact ⟨rfl, rfl⟩))
    (fun os started H enc _ => digitsLong_lifted os started H enc)

theorem digitsLong_card : Rows.DigitsLongCardSaid :=
  Claim7.holds_tied_plain_at .later [] [.data, .data, .data] true Rows.digitsLongCard.stood.harness false
    digitsLong_over (fun _ h => by cases h) (by kernel_rfl) (fun _ h => by cases h) digitsLong_row_tie rfl ⟨rfl, rfl⟩ (by kernel_rfl) rfl
    (fun f fn hf hfn => by
      obtain rfl : f = 5 := Option.some.inj ((show Tryd.prog.funcNamed "mullion/mullionlaw3.DigitsLong" = some 5 by kernel_rfl).symm.trans hf) |>.symm
      obtain rfl : fn = Tryd.f5 := (Option.some.inj (Tryd.func5.symm.trans hfn)).symm
      exact ⟨by kernel_rfl, fun j t ht => by
        rw [Tryd.params5] at ht
        have hm : t ∈ [5, 5, 4] := by simpa using Array.mem_of_getElem? ht
        have hall : ([5, 5, 4].all fun u => !Tryd.prog.wantsStandIn u) = true := by kernel_rfl
        exact (show Tryd.prog.wantsStandIn t = false by simpa using List.all_eq_true.1 hall t hm)⟩)
    (by kernel_rfl)

end Go.Proofs.YthlafkbldlmmaaaDoor
