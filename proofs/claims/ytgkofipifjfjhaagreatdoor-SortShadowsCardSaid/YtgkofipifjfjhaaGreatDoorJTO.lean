/-
  Contract of package digits: Print.
-/
import Derived.Test.YtgkofipifjfjhaaGreatDoorJTN
namespace Go.Proofs.YtgkofipifjfjhaaGreatDoor
open Go.RowKit
set_option linter.unusedSimpArgs false
set_option linter.unusedVariables false

end Go.Proofs.YtgkofipifjfjhaaGreatDoor

/-
  Decimal texts and their numbers, in mathematics: the order; what is printed is read.
-/
namespace Go.Proofs.YtgkofipifjfjhaaGreatDoor
set_option linter.unusedSimpArgs false
set_option linter.unusedVariables false
namespace M
open Go.Lib (decDigits nDigits)
theorem digit_of {x : Nat} (h : x < 10) : (UInt8.ofNat (48 + x)).toNat = 48 + x := by
 rw [UInt8.toNat_ofNat']; omega
theorem digit_ofNat {x : Nat} (h : x < 10) : digit (UInt8.ofNat (48 + x)) = true := by
 unfold digit; rw [digit_of h]; simp; omega
theorem num_dec (n : Nat) : num (decDigits n) = n := by
 induction n using Nat.strongRecOn with
 | _ n ih =>
  by_cases h : n < 10
  ·rw [dec_small h]
   show 0 * 10 + ((UInt8.ofNat (48 + n)).toNat - 48) = n
   rw [digit_of h]; omega
  ·rw [dec_big h, num_snoc, ih (n / 10) (by omega), digit_of (by omega)]; omega
theorem dec_all (n : Nat) : (decDigits n).all digit = true := by
 induction n using Nat.strongRecOn with
 | _ n ih =>
  by_cases h : n < 10
  ·rw [dec_small h, List.all_cons, digit_ofNat h]; rfl
  ·rw [dec_big h, List.all_append, ih (n / 10) (by omega), List.all_cons, digit_ofNat (by omega)]; rfl
theorem dec_head {n : Nat} (h : 0 < n) : ∃ b r, decDigits n = b :: r ∧ b.toNat ≠ 48 := by
 induction n using Nat.strongRecOn with
 | _ n ih =>
  by_cases h1 : n < 10
  ·exact ⟨_, [], dec_small h1, by rw [digit_of h1]; omega⟩
  ·obtain ⟨b, r, e, hb⟩ := ih (n / 10) (by omega) (by omega)
   exact ⟨b, r ++ [UInt8.ofNat (48 + n % 10)], by rw [dec_big h1, e]; rfl, hb⟩
theorem numeral_dec (n : Nat) : numeral (decDigits n) = true := by
 rcases Nat.eq_zero_or_pos n with h | h
 ·subst h; rw [dec_small (by decide)]; rfl
 ·obtain ⟨b, r, e, hb⟩ := dec_head h
  have ha := dec_all n
  rw [e] at ha ⊢
  simp only [numeral, if_neg hb]
  exact ha
theorem dec_zero {n : Nat} : (decDigits n == [48]) = decide (n = 0) := by
 rw [Bool.eq_iff_iff]
 simp only [beq_iff_eq, decide_eq_true_eq]
 constructor
 ·intro h
  have := num_dec n
  rw [h] at this
  exact this.symm
 ·rintro rfl; exact dec_small (by decide)
end M
end Go.Proofs.YtgkofipifjfjhaaGreatDoor

/-
  What stands for a number below 0, and what doesn't, in mathematics.
-/
namespace Go.Proofs.YtgkofipifjfjhaaGreatDoor
set_option linter.unusedSimpArgs false
set_option linter.unusedVariables false
open Go.RowKit
namespace M
open Go.Lib (decDigits nDigits)
theorem inside_no {l : List UInt8} (h : Lib.hasPrefix l [40, 45, 32] = false) : inside l = (l, false) := by
 unfold inside; rw [h]; rfl
theorem prefix_yes (m : List UInt8) : Lib.hasPrefix (40 :: 45 :: 32 :: m) [40, 45, 32] = true := by simp [Lib.hasPrefix]
theorem trim_yes (m : List UInt8) : Lib.trimPrefix (40 :: 45 :: 32 :: m) [40, 45, 32] = m := by simp [Lib.trimPrefix, prefix_yes]
theorem suffix_yes (m : List UInt8) : Lib.hasSuffix (m ++ [41]) [41] = true := by simp [Lib.hasSuffix]
theorem inside_in (m : List UInt8) : inside (40 :: 45 :: 32 :: (m ++ [41])) = (m, true) := by
 unfold inside
 rw [prefix_yes, trim_yes, suffix_yes, Lib.trimSuffix, suffix_yes]
 simp
theorem parse_in {n : Nat} (hn : 0 < n) (hl : nDigits n ≤ 360) : perr (40 :: 45 :: 32 :: (decDigits n ++ [41])) = 0 ∧ pval (40 :: 45 :: 32 :: (decDigits n ++ [41])) = -(n : Int) := by
 have hz : (decDigits n == [48]) = false := by rw [dec_zero]; simp; omega
 have hb : bad (40 :: 45 :: 32 :: (decDigits n ++ [41])) = false := by unfold bad; rw [inside_in]; simp only [numeral_dec, hz]; rfl
 have hle : ¬ 360 < (decDigits n).length := by rw [dec_length]; omega
 constructor
 ·unfold perr; rw [hb, inside_in]; simp [hle]
 ·unfold pval; rw [hb, inside_in]; simp only [num_dec]; simp [hle]
theorem parse_out {n : Nat} (hl : nDigits n ≤ 360) : perr (decDigits n) = 0 ∧ pval (decDigits n) = (n : Int) := by
 have hi : inside (decDigits n) = (decDigits n, false) := inside_no (by
  rw [Bool.eq_false_iff]
  intro hh
  unfold Lib.hasPrefix at hh
  rw [List.isPrefixOf_iff_prefix] at hh
  obtain ⟨t, ht⟩ := hh
  have := List.all_eq_true.1 (dec_all n) 40 (by rw [← ht]; simp)
  revert this; decide)
 have hb : bad (decDigits n) = false := by unfold bad; rw [hi]; simp only [numeral_dec]; rfl
 have hle : ¬ 360 < (decDigits n).length := by rw [dec_length]; omega
 constructor
 ·unfold perr; rw [hb, hi]; simp [hle]
 ·unfold pval; rw [hb, hi]; simp only [num_dec]; simp [hle]
/-- What is printed is read. -/
theorem parse_print (Z : Int) (hl : nDigits Z.natAbs ≤ 360) : perr (print Z) = 0 ∧ pval (print Z) = Z := by
 unfold print
 by_cases hz : Z < 0
 ·rw [if_pos hz]
  have h := parse_in (n := Z.natAbs) (by omega) hl
  exact ⟨h.1, h.2.trans (by omega)⟩
 ·rw [if_neg hz]
  have h := parse_out (n := Z.natAbs) hl
  exact ⟨h.1, h.2.trans (by omega)⟩
end M
theorem str_cat (a b : List UInt8) : (⟨a.toArray⟩ : ByteArray) ++ ⟨b.toArray⟩ = ⟨(a ++ b).toArray⟩ := by
 exact ByteArray.mk_append_mk a b
end Go.Proofs.YtgkofipifjfjhaaGreatDoor

/-
  Long runs of digits, and a digit behind a number's digits, in mathematics.
-/
namespace Go.Proofs.YtgkofipifjfjhaaGreatDoor
set_option linter.unusedSimpArgs false
set_option linter.unusedVariables false
open Go.RowKit
namespace M
open Go.Lib (decDigits nDigits)
end M
/-- One byte, told as text. -/
theorem byte_text (x : Nat) (hx : x < 256) (g : Nat) (w : World) (T : TypeId) (hb : Box w g #[.int .u8 (x : Int)] T) :
 (convert 52 9 (.slice (some ⟨g, 0, none⟩) 1 1)).run Tryz.prog w = .ok (str [UInt8.ofNat x]) w := by
 have h := run_convert_bytes_back (P := Tryz.prog) w 52 9 5 ⟨g, 0, none⟩ 1 [UInt8.ofNat x] Tryz.underlying52 Tryz.underlying5 Tryz.underlying9 (fun j hj => by
  obtain rfl : j = 0 := by simpa using hj
  have := hb.cell (o := 0) (v := .int .u8 (x : Int)) rfl
  have e : (UInt8.ofNat x).toNat = x := by simp [Nat.mod_eq_of_lt hx]
  simpa [Addr.add, e] using this)
 exact h
end Go.Proofs.YtgkofipifjfjhaaGreatDoor

/-
  What is printed, and a digit or a space behind it, in mathematics.
-/
namespace Go.Proofs.YtgkofipifjfjhaaGreatDoor
set_option linter.unusedSimpArgs false
set_option linter.unusedVariables false
open Go.RowKit
namespace M
open Go.Lib (decDigits nDigits)
end M
end Go.Proofs.YtgkofipifjfjhaaGreatDoor

