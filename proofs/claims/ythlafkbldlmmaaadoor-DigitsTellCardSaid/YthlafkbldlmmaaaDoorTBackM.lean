/-
  What is printed, and a digit or a space behind it, in mathematics.
-/
import Derived.Test.YthlafkbldlmmaaaDoorTLongM
namespace Go.Proofs.YthlafkbldlmmaaaDoor
set_option linter.unusedSimpArgs false
set_option linter.unusedVariables false
open Go.RowKit
namespace M
open Go.Lib (decDigits nDigits)
theorem no_suffix {x : List UInt8} {b : UInt8} (h : b ≠ 41) : Lib.hasSuffix (x ++ [b]) [41] = false := by
  rw [Bool.eq_false_iff]
  intro hh
  unfold Lib.hasSuffix at hh
  rw [List.isSuffixOf_iff_suffix] at hh
  obtain ⟨t, ht⟩ := hh
  have := congrArg List.getLast? ht
  simp at this
  exact h this.symm
theorem inside_nosuf {m : List UInt8} (h : Lib.hasSuffix m [41] = false) : inside (40 :: 45 :: 32 :: m) = (40 :: 45 :: 32 :: m, false) := by
  unfold inside
  rw [prefix_yes, trim_yes, h]; rfl
/-- No digits and a space are a number. -/
theorem perr_space (Z : Int) : perr (print Z ++ [32]) = 10 := by
  unfold print
  by_cases hz : Z < 0
  · rw [if_pos hz]
    have e : ([40, 45, 32] ++ (decDigits Z.natAbs ++ [41]) ++ [32] : List UInt8) = 40 :: 45 :: 32 :: ((decDigits Z.natAbs ++ [41]) ++ [32]) := by simp
    refine perr_bad ?_
    rw [e, inside_nosuf (no_suffix (by decide))]
    exact numeral_bad (by decide)
  · rw [if_neg hz]
    have ha := dec_all Z.natAbs
    refine perr_bad ?_
    cases hd : decDigits Z.natAbs with
    | nil => exact absurd hd (dec_ne _)
    | cons b r =>
      rw [hd] at ha
      have hb : digit b = true := by simp at ha; exact ha.1
      rw [List.cons_append, inside_no (by
        rw [Bool.eq_false_iff]
        intro hh
        unfold Lib.hasPrefix at hh
        rw [List.isPrefixOf_iff_prefix] at hh
        obtain ⟨t, ht⟩ := hh
        simp at ht
        rw [← ht.1] at hb
        revert hb; decide)]
      show numeral (b :: (r ++ [32])) = false
      by_cases h48 : b.toNat = 48
      · simp only [numeral, if_pos h48]
        cases r <;> rfl
      · simp only [numeral, if_neg h48]
        rw [Bool.eq_false_iff]
        intro h
        have := List.all_eq_true.1 h 32 (by simp)
        revert this; decide
/-- A digit behind a number's digits. -/
theorem parse_step {n d : Nat} (hn : 0 < n) (hd : d < 10) (hl : nDigits n ≤ 359) : perr (decDigits n ++ [UInt8.ofNat (48 + d)]) = 0 ∧ pval (decDigits n ++ [UInt8.ofNat (48 + d)]) = (n : Int) * 10 + (d : Int) := by
  rw [← dec_step hn hd]
  have hl2 : nDigits (n * 10 + d) ≤ 360 := by
    rw [← dec_length, dec_step hn hd, List.length_append, dec_length]
    simp; omega
  have h := parse_out (n := n * 10 + d) hl2
  exact ⟨h.1, h.2.trans (by push_cast; rfl)⟩
theorem perr_step0 (b : UInt8) : perr (decDigits 0 ++ [b]) = 10 := by
  rw [dec_small (by decide)]
  refine perr_bad ?_
  show numeral (inside (48 :: [b])).1 = false
  rw [inside_no (by unfold Lib.hasPrefix; rfl)]
  rfl
/-- Of twenty limbs: no more than 180 digits. -/
theorem dec_twenty {l : List Nat} (h : l.length ≤ 20) (hn : isNat l = true) : nDigits (val l) ≤ 180 := by
  refine nDigits_le (by decide) ?_
  have h1 := val_lt (isNat_iff.1 hn).1
  have h2 : (1000000000 : Nat) ^ l.length ≤ 1000000000 ^ 20 := Nat.pow_le_pow_right (by decide) h
  exact Nat.lt_of_lt_of_le h1 (Nat.le_trans h2 (by decide))
end M
end Go.Proofs.YthlafkbldlmmaaaDoor
