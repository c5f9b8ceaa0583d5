/-
  Long runs of digits, and a digit behind a number's digits, in mathematics.
-/
import Derived.Test.YthlafkbldlmmaaaDoorTSignM
namespace Go.Proofs.YthlafkbldlmmaaaDoor
set_option linter.unusedSimpArgs false
set_option linter.unusedVariables false
open Go.RowKit
namespace M
open Go.Lib (decDigits nDigits)
theorem dec_step {n d : Nat} (hn : 0 < n) (hd : d < 10) : decDigits (n * 10 + d) = decDigits n ++ [UInt8.ofNat (48 + d)] := by
  rw [dec_big (by omega), show (n * 10 + d) / 10 = n by omega, show (n * 10 + d) % 10 = d by omega]
/-- A digit from 1 on, and the digits 1, 2, .. behind it. -/
def long (c : Nat) : Nat → List UInt8
  | 0 => [UInt8.ofNat (49 + c)]
  | j + 1 => long c j ++ [UInt8.ofNat (48 + (j + 1) % 10)]
theorem long_length (c : Nat) : ∀ j, (long c j).length = j + 1
  | 0 => rfl
  | j + 1 => by rw [long, List.length_append, long_length c j]; rfl
theorem long_dec {c : Nat} (hc : c < 9) : ∀ j, ∃ n, 0 < n ∧ decDigits n = long c j
  | 0 => ⟨c + 1, by omega, by rw [dec_small (by omega), show 48 + (c + 1) = 49 + c by omega]; rfl⟩
  | j + 1 => by
    obtain ⟨n, h0, h⟩ := long_dec hc j
    exact ⟨n * 10 + (j + 1) % 10, by omega, by rw [dec_step h0 (by omega), h]; rfl⟩
theorem inside_dec (n : Nat) : inside (decDigits n) = (decDigits n, false) := inside_no (by
  rw [Bool.eq_false_iff]
  intro hh
  unfold Lib.hasPrefix at hh
  rw [List.isPrefixOf_iff_prefix] at hh
  obtain ⟨t, ht⟩ := hh
  have := List.all_eq_true.1 (dec_all n) 40 (by rw [← ht]; simp)
  revert this; decide)
theorem long_out {n : Nat} (hl : 360 < nDigits n) : perr (decDigits n) = 11 ∧ pval (decDigits n) = 0 := by
  have hb : bad (decDigits n) = false := by unfold bad; rw [inside_dec]; simp only [numeral_dec]; rfl
  have hle : 360 < (decDigits n).length := by rw [dec_length]; omega
  constructor
  · unfold perr; rw [hb, inside_dec]; simp [hle]
  · unfold pval; rw [hb, inside_dec]; simp [hle]
theorem long_in {n : Nat} (hn : 0 < n) (hl : 360 < nDigits n) : perr (40 :: 45 :: 32 :: (decDigits n ++ [41])) = 11 ∧ pval (40 :: 45 :: 32 :: (decDigits n ++ [41])) = 0 := by
  have hz : (decDigits n == [48]) = false := by rw [dec_zero]; simp; omega
  have hb : bad (40 :: 45 :: 32 :: (decDigits n ++ [41])) = false := by unfold bad; rw [inside_in]; simp only [numeral_dec, hz]; rfl
  have hle : 360 < (decDigits n).length := by rw [dec_length]; omega
  constructor
  · unfold perr; rw [hb, inside_in]; simp [hle]
  · unfold pval; rw [hb, inside_in]; simp [hle]
theorem numeral_nought {s : List UInt8} (h : s ≠ []) : numeral (48 :: s) = false := by
  simp only [numeral]
  rw [if_pos (by decide)]
  cases s with
  | nil => exact absurd rfl h
  | cons _ _ => rfl
end M
/-- One byte, told as text. -/
theorem byte_text (x : Nat) (hx : x < 256) (g : Nat) (w : World) (T : TypeId) (hb : Box w g #[.int .u8 (x : Int)] T) :
    (convert 37 9 (.slice (some ⟨g, 0, none⟩) 1 1)).run Tryd.prog w = .ok (str [UInt8.ofNat x]) w := by
  have h := run_convert_bytes_back (P := Tryd.prog) w 37 9 5 ⟨g, 0, none⟩ 1 [UInt8.ofNat x] Tryd.underlying37 Tryd.underlying5 Tryd.underlying9 (fun j hj => by
    obtain rfl : j = 0 := by simpa using hj
    have := hb.cell (o := 0) (v := .int .u8 (x : Int)) rfl
    have e : (UInt8.ofNat x).toNat = x := by simp [Nat.mod_eq_of_lt hx]
    simpa [Addr.add, e] using this)
  exact h
end Go.Proofs.YthlafkbldlmmaaaDoor
