/-
  Numbers as texts, in mathematics: the decimal digits of a number out of its limbs.
-/
import Derived.Test.YthlafkbldlmmaaaDoorMath
import Derived.Lib.ItoaNum
import Derived.Lib.ItoaLen
namespace Go.Proofs.YthlafkbldlmmaaaDoor
set_option linter.unusedSimpArgs false
set_option linter.unusedVariables false
namespace M
open Go.Lib (decDigits nDigits)
/-- The k last decimal digits of x, noughts ahead. -/
def pad : Nat → Nat → List UInt8
  | 0, _ => []
  | k + 1, x => pad k (x / 10) ++ [UInt8.ofNat (48 + x % 10)]
theorem pad_length : ∀ (k x : Nat), (pad k x).length = k
  | 0, _ => rfl
  | k + 1, x => by rw [pad, List.length_append, pad_length k]; rfl
theorem dec_small {u : Nat} (h : u < 10) : decDigits u = [UInt8.ofNat (48 + u)] := by rw [decDigits, dif_pos h]
theorem dec_big {u : Nat} (h : ¬ u < 10) : decDigits u = decDigits (u / 10) ++ [UInt8.ofNat (48 + u % 10)] := by rw [decDigits, dif_neg h]
theorem dec_pad : ∀ (k a b : Nat), 0 < a → b < 10 ^ k → decDigits (a * 10 ^ k + b) = decDigits a ++ pad k b
  | 0, a, b, _, hb => by
    have : b = 0 := by simpa using hb
    subst this; simp [pad]
  | k + 1, a, b, ha, hb => by
    have hp : 1 ≤ 10 ^ k := Nat.one_le_pow _ _ (by decide)
    rw [Nat.pow_succ] at hb ⊢
    have e : a * (10 ^ k * 10) = (a * 10 ^ k) * 10 := by rw [Nat.mul_assoc]
    have h1 : 1 ≤ a * 10 ^ k := Nat.mul_pos ha hp
    rw [e, dec_big (by omega), show (a * 10 ^ k * 10 + b) / 10 = a * 10 ^ k + b / 10 by omega, dec_pad k a (b / 10) ha (by omega), show (a * 10 ^ k * 10 + b) % 10 = b % 10 by omega, pad, List.append_assoc]
/-- All nine digits of a limb. -/
def nine (x : Nat) : List UInt8 := (decDigits (1000000000 + x)).drop 1
theorem nine_pad {x : Nat} (h : x < 1000000000) : nine x = pad 9 x := by
  unfold nine
  have := dec_pad 9 1 x (by decide) (by omega)
  rw [show 1 * 10 ^ 9 + x = 1000000000 + x by omega, dec_small (u := 1) (by decide)] at this
  rw [this]; rfl
theorem nine_length {x : Nat} (h : x < 1000000000) : (nine x).length = 9 := by rw [nine_pad h, pad_length]
/-- The pieces of a row of limbs: the highest as it is, the others nine digits each. -/
def pieces (l : List Nat) : List (List UInt8) := match l.getLast? with | none => [] | some x => decDigits x :: l.dropLast.reverse.map nine
theorem dec_snoc {x N : Nat} (hx : x < 1000000000) (hN : 0 < N) : decDigits (x + 1000000000 * N) = decDigits N ++ nine x := by
  rw [nine_pad hx, ← dec_pad 9 N x hN (by omega)]
  congr 1; omega
theorem dec_pieces : ∀ {l : List Nat}, small l = true → l.getLast? ≠ some 0 → l ≠ [] → (pieces l).flatten = decDigits (val l)
  | [], _, _, h => absurd rfl h
  | [x], hs, hl, _ => by simp [pieces, val]
  | x :: y :: r, hs, hl, _ => by
    rw [small_cons] at hs
    rw [last_cons (by simp)] at hl
    have ih := dec_pieces hs.2 hl (by simp)
    have hp : 0 < val (y :: r) := val_pos (by simp) hl
    rw [val, dec_snoc hs.1 hp, ← ih]
    unfold pieces
    rw [last_cons (by simp)]
    cases hg : (y :: r).getLast? with
    | none => simp at hg
    | some z => simp [List.dropLast_cons_of_ne_nil]
theorem dec_length (u : Nat) : (decDigits u).length = nDigits u := Go.Lib.decDigits_length u
theorem dec_ne (u : Nat) : decDigits u ≠ [] := by
  intro h
  have := Go.Lib.nDigits_pos u
  rw [← dec_length, h] at this
  simp at this
theorem nDigits_le {u k : Nat} (hk : 1 ≤ k) (h : u < 10 ^ k) : nDigits u ≤ k := by
  rcases Nat.lt_or_ge k (nDigits u) with hlt | hge
  · exfalso
    obtain ⟨j, hj⟩ : ∃ j, nDigits u = j + 1 := ⟨nDigits u - 1, by omega⟩
    have hlow : ∀ (j u : Nat), nDigits u = j + 1 → 0 < j → 10 ^ j ≤ u := by
      intro j
      induction j with
      | zero => intro u _ h; omega
      | succ j ih =>
        intro u h _
        by_cases hu : u < 10
        · rw [Go.Lib.nDigits_small hu] at h; omega
        · rw [Go.Lib.nDigits_big hu] at h
          rcases Nat.eq_zero_or_pos j with hj | hj
          · subst hj; omega
          · have := ih (u / 10) (by omega) hj
            rw [Nat.pow_succ]; omega
    have h1 := hlow j u hj (by omega)
    have h2 := Nat.pow_le_pow_right (show 0 < 10 by decide) (show k ≤ j by omega)
    omega
  · exact hge
end M
end Go.Proofs.YthlafkbldlmmaaaDoor
