/-
  What stands for a number below 0, and what doesn't, in mathematics.
-/
import Derived.Test.YthlafkbldlmmaaaDoorTOrdM
namespace Go.Proofs.YthlafkbldlmmaaaDoor
set_option linter.unusedSimpArgs false
set_option linter.unusedVariables false
open Go.RowKit
namespace M
open Go.Lib (decDigits nDigits)
theorem inside_no {l : List UInt8} (h : Lib.hasPrefix l [40, 45, 32] = false) : inside l = (l, false) := by
  unfold inside; rw [h]; rfl
theorem prefix_yes (m : List UInt8) : Lib.hasPrefix (40 :: 45 :: 32 :: m) [40, 45, 32] = true := by simp [Lib.hasPrefix]
theorem trim_yes (m : List UInt8) : Lib.trimPrefix (40 :: 45 :: 32 :: m) [40, 45, 32] = m := by simp [Lib.trimPrefix, prefix_yes]
theorem suffix_yes (m : List UInt8) : Lib.hasSuffix (m ++ [41]) [41] = true := by simp [Lib.hasSuffix]
theorem inside_in (m : List UInt8) : inside (40 :: 45 :: 32 :: (m ++ [41])) = (m, true) := by
  unfold inside
  rw [prefix_yes, trim_yes, suffix_yes, Lib.trimSuffix, suffix_yes]
  simp
theorem inside_open {m : List UInt8} (h : (41 : UInt8) ∉ m) : inside (40 :: 45 :: 32 :: m) = (40 :: 45 :: 32 :: m, false) := by
  have hs : Lib.hasSuffix m [41] = false := by
    rw [Bool.eq_false_iff]
    intro hh
    unfold Lib.hasSuffix at hh
    rw [List.isSuffixOf_iff_suffix] at hh
    obtain ⟨t, rfl⟩ := hh
    exact h (by simp)
  unfold inside
  rw [prefix_yes, trim_yes, hs]; rfl
theorem numeral_bad {b : UInt8} {r : List UInt8} (h : digit b = false) : numeral (b :: r) = false := by
  have hb : b.toNat ≠ 48 := by intro e; unfold digit at h; rw [e] at h; simp at h
  simp only [numeral, if_neg hb, List.all_cons, h, Bool.false_and]
theorem perr_bad {l : List UInt8} (h : numeral (inside l).1 = false) : perr l = 10 := by
  have hb : bad l = true := by unfold bad; rw [h]; rfl
  unfold perr; rw [if_pos hb]
theorem no_41 {s : List UInt8} (h : s.all digit = true) : (41 : UInt8) ∉ s := fun hm => by
  have := List.all_eq_true.1 h 41 hm
  revert this; decide
/-- The digits of a number above 0 and what is put round them. -/
theorem form0 (s : List UInt8) : perr (45 :: s) = 10 := perr_bad (by rw [inside_no (by unfold Lib.hasPrefix; rfl)]; exact numeral_bad (by decide))
theorem form6 (s : List UInt8) : perr (43 :: s) = 10 := perr_bad (by rw [inside_no (by unfold Lib.hasPrefix; rfl)]; exact numeral_bad (by decide))
theorem form4 (s : List UInt8) : perr (40 :: 32 :: 45 :: 32 :: s) = 10 := perr_bad (by rw [inside_no (by unfold Lib.hasPrefix; rfl)]; exact numeral_bad (by decide))
theorem form1 {b : UInt8} {r : List UInt8} (hb : b ≠ 32) : perr (40 :: 45 :: b :: r) = 10 := by
  have h32 : ((32 : UInt8) == b) = false := by rw [beq_eq_false_iff_ne]; exact fun h => hb h.symm
  have hp : Lib.hasPrefix (40 :: 45 :: b :: r) [40, 45, 32] = false := by
    unfold Lib.hasPrefix
    show ((40 : UInt8) == 40 && ((45 : UInt8) == 45 && ((32 : UInt8) == b && List.isPrefixOf [] r))) = false
    rw [h32]; rfl
  refine perr_bad ?_
  rw [inside_no hp]
  exact numeral_bad (by decide)
theorem form2 {s : List UInt8} (h : (41 : UInt8) ∉ s) : perr (40 :: 45 :: 32 :: s) = 10 := perr_bad (by rw [inside_open h]; exact numeral_bad (by decide))
theorem form3 : perr [40, 45, 32, 48, 41] = 10 := by decide +kernel
theorem form5 {b : UInt8} {r : List UInt8} (hb : b.toNat ≠ 48) : perr (40 :: 45 :: 32 :: ((b :: r) ++ [32, 41])) = 10 := by
  have e : (b :: r) ++ [32, 41] = ((b :: r) ++ [32]) ++ [41] := by simp
  refine perr_bad ?_
  rw [e, inside_in]
  show numeral (b :: (r ++ [32])) = false
  simp only [numeral, if_neg hb]
  rw [Bool.eq_false_iff]
  intro h
  have := List.all_eq_true.1 h 32 (by simp)
  revert this; decide
theorem form7 (s : List UInt8) : perr (40 :: 45 :: 32 :: (40 :: 45 :: 32 :: (s ++ [41, 41]))) = 10 := by
  have e : (40 :: 45 :: 32 :: (s ++ [41, 41]) : List UInt8) = (40 :: 45 :: 32 :: (s ++ [41])) ++ [41] := by simp
  refine perr_bad ?_
  rw [e, inside_in]
  exact numeral_bad (by decide)
theorem parse_in {n : Nat} (hn : 0 < n) (hl : nDigits n ≤ 360) : perr (40 :: 45 :: 32 :: (decDigits n ++ [41])) = 0 ∧ pval (40 :: 45 :: 32 :: (decDigits n ++ [41])) = -(n : Int) := by
  have hz : (decDigits n == [48]) = false := by rw [dec_zero]; simp; omega
  have hb : bad (40 :: 45 :: 32 :: (decDigits n ++ [41])) = false := by unfold bad; rw [inside_in]; simp only [numeral_dec, hz]; rfl
  have hle : ¬ 360 < (decDigits n).length := by rw [dec_length]; omega
  constructor
  · unfold perr; rw [hb, inside_in]; simp [hle]
  · unfold pval; rw [hb, inside_in]; simp only [num_dec]; simp [hle]
theorem parse_out {n : Nat} (hl : nDigits n ≤ 360) : perr (decDigits n) = 0 ∧ pval (decDigits n) = (n : Int) := by
  have hi : inside (decDigits n) = (decDigits n, false) := inside_no (by
    rw [Bool.eq_false_iff]
    intro hh
    unfold Lib.hasPrefix at hh
    rw [List.isPrefixOf_iff_prefix] at hh
    obtain ⟨t, ht⟩ := hh
    have := List.all_eq_true.1 (dec_all n) 40 (by rw [← ht]; simp)
    revert this; decide)
  have hb : bad (decDigits n) = false := by unfold bad; rw [hi]; simp only [numeral_dec]; rfl
  have hle : ¬ 360 < (decDigits n).length := by rw [dec_length]; omega
  constructor
  · unfold perr; rw [hb, hi]; simp [hle]
  · unfold pval; rw [hb, hi]; simp only [num_dec]; simp [hle]
/-- What is printed is read. -/
theorem parse_print (Z : Int) (hl : nDigits Z.natAbs ≤ 360) : perr (print Z) = 0 ∧ pval (print Z) = Z := by
  unfold print
  by_cases hz : Z < 0
  · rw [if_pos hz]
    have h := parse_in (n := Z.natAbs) (by omega) hl
    exact ⟨h.1, h.2.trans (by omega)⟩
  · rw [if_neg hz]
    have h := parse_out (n := Z.natAbs) hl
    exact ⟨h.1, h.2.trans (by omega)⟩
end M
theorem str_cat (a b : List UInt8) : (⟨a.toArray⟩ : ByteArray) ++ ⟨b.toArray⟩ = ⟨(a ++ b).toArray⟩ := by
  exact ByteArray.mk_append_mk a b
theorem add_str (a b c : List UInt8) (h : a ++ b = c) (hl : c.length ≤ 1000000000000) (w : World) : (binOp .add 9 (str a) (str b)).run Tryd.prog w = .ok (str c) w := by
  subst h
  have hle : ¬ 9223372036854775807 < a.length + b.length := by simp at hl; omega
  go_simp
  exact str_cat a b
end Go.Proofs.YthlafkbldlmmaaaDoor
