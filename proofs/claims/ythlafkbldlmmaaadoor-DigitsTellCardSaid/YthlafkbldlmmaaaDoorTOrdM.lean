/-
  Decimal texts and their numbers, in mathematics: the order; what is printed is read.
-/
import Derived.Test.YthlafkbldlmmaaaDoorTPrint
namespace Go.Proofs.YthlafkbldlmmaaaDoor
set_option linter.unusedSimpArgs false
set_option linter.unusedVariables false
namespace M
open Go.Lib (decDigits nDigits)
theorem digit_of {x : Nat} (h : x < 10) : (UInt8.ofNat (48 + x)).toNat = 48 + x := by
  rw [UInt8.toNat_ofNat']; omega
theorem digit_ofNat {x : Nat} (h : x < 10) : digit (UInt8.ofNat (48 + x)) = true := by
  unfold digit; rw [digit_of h]; simp; omega
theorem num_dec (n : Nat) : num (decDigits n) = n := by
  induction n using Nat.strongRecOn with
  | _ n ih =>
    by_cases h : n < 10
    · rw [dec_small h]
      show 0 * 10 + ((UInt8.ofNat (48 + n)).toNat - 48) = n
      rw [digit_of h]; omega
    · rw [dec_big h, num_snoc, ih (n / 10) (by omega), digit_of (by omega)]; omega
theorem dec_all (n : Nat) : (decDigits n).all digit = true := by
  induction n using Nat.strongRecOn with
  | _ n ih =>
    by_cases h : n < 10
    · rw [dec_small h, List.all_cons, digit_ofNat h]; rfl
    · rw [dec_big h, List.all_append, ih (n / 10) (by omega), List.all_cons, digit_ofNat (by omega)]; rfl
theorem dec_head {n : Nat} (h : 0 < n) : ∃ b r, decDigits n = b :: r ∧ b.toNat ≠ 48 := by
  induction n using Nat.strongRecOn with
  | _ n ih =>
    by_cases h1 : n < 10
    · exact ⟨_, [], dec_small h1, by rw [digit_of h1]; omega⟩
    · obtain ⟨b, r, e, hb⟩ := ih (n / 10) (by omega) (by omega)
      exact ⟨b, r ++ [UInt8.ofNat (48 + n % 10)], by rw [dec_big h1, e]; rfl, hb⟩
theorem numeral_dec (n : Nat) : numeral (decDigits n) = true := by
  rcases Nat.eq_zero_or_pos n with h | h
  · subst h; rw [dec_small (by decide)]; rfl
  · obtain ⟨b, r, e, hb⟩ := dec_head h
    have ha := dec_all n
    rw [e] at ha ⊢
    simp only [numeral, if_neg hb]
    exact ha
theorem dec_zero {n : Nat} : (decDigits n == [48]) = decide (n = 0) := by
  rw [Bool.eq_iff_iff]
  simp only [beq_iff_eq, decide_eq_true_eq]
  constructor
  · intro h
    have := num_dec n
    rw [h] at this
    exact this.symm
  · rintro rfl; exact dec_small (by decide)
theorem lex_num : ∀ {l m : List UInt8}, l.length = m.length → l.all digit = true → m.all digit = true → (l < m ↔ num l < num m)
  | [], [], _, _, _ => by simp [num]
  | x :: r, y :: q, h, hl, hm => by
    have h' : r.length = q.length := by simpa using h
    rw [List.all_cons, Bool.and_eq_true] at hl hm
    have ih := lex_num h' hl.2 hm.2
    have n1 := num_lt hl.2
    have n2 := num_lt hm.2
    rw [List.cons_lt_cons_iff, num_cons, num_cons, ih, h']
    rw [h'] at n1
    have d1 : 48 ≤ x.toNat ∧ x.toNat ≤ 57 := by simpa [digit] using hl.1
    have d2 : 48 ≤ y.toNat ∧ y.toNat ≤ 57 := by simpa [digit] using hm.1
    rw [UInt8.lt_iff_toNat_lt, ← UInt8.toNat_inj]
    generalize 10 ^ q.length = P at *
    rcases Nat.lt_trichotomy x.toNat y.toNat with c | c | c
    · have := Nat.mul_le_mul_right P (show x.toNat - 48 + 1 ≤ y.toNat - 48 by omega)
      rw [Nat.add_mul] at this
      constructor
      · intro _; omega
      · intro _; exact .inl c
    · rw [c]; constructor
      · rintro (h | ⟨_, h⟩) <;> omega
      · intro h; exact .inr ⟨rfl, by omega⟩
    · have := Nat.mul_le_mul_right P (show y.toNat - 48 + 1 ≤ x.toNat - 48 by omega)
      rw [Nat.add_mul] at this
      constructor
      · rintro (h | ⟨h, _⟩) <;> omega
      · intro h; omega
theorem dec_len_lt {a b : Nat} (h : (decDigits a).length < (decDigits b).length) : a < b := by
  rcases Nat.lt_or_ge a b with h1 | h1
  · exact h1
  · exfalso
    have h2 := num_lt (dec_all a)
    rw [num_dec] at h2
    have h3 := nDigits_le (u := b) (k := (decDigits a).length) (by rw [dec_length]; exact Go.Lib.nDigits_pos _) (by omega)
    rw [dec_length b] at h
    omega
theorem dec_lex {a b : Nat} (h : (decDigits a).length = (decDigits b).length) : (decDigits a < decDigits b) ↔ a < b := by
  have := lex_num h (dec_all a) (dec_all b)
  rwa [num_dec, num_dec] at this
end M
end Go.Proofs.YthlafkbldlmmaaaDoor
