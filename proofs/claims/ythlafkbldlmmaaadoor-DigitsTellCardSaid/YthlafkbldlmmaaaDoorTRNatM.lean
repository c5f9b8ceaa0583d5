/-
  A number's digits, told limb by limb from the lowest, in mathematics.
-/
import Derived.Test.YthlafkbldlmmaaaDoorTBackM
namespace Go.Proofs.YthlafkbldlmmaaaDoor
set_option linter.unusedSimpArgs false
set_option linter.unusedVariables false
open Go.RowKit
namespace M
open Go.Lib (decDigits nDigits)
theorem pad_add : ∀ (b a x y : Nat), y < 10 ^ b → pad (a + b) (x * 10 ^ b + y) = pad a x ++ pad b y
  | 0, a, x, y, h => by
    have : y = 0 := by simpa using h
    subst this; simp [pad]
  | b + 1, a, x, y, h => by
    rw [Nat.pow_succ] at h ⊢
    have e : x * (10 ^ b * 10) = (x * 10 ^ b) * 10 := by rw [Nat.mul_assoc]
    rw [e]
    show pad (a + b) ((x * 10 ^ b * 10 + y) / 10) ++ [UInt8.ofNat (48 + (x * 10 ^ b * 10 + y) % 10)] = _
    rw [show (x * 10 ^ b * 10 + y) / 10 = x * 10 ^ b + y / 10 by omega, pad_add b a x (y / 10) (by omega), show (x * 10 ^ b * 10 + y) % 10 = y % 10 by omega, pad, List.append_assoc]
/-- The inner rounds: k digits of the limb x are told; n is what is left. -/
def Inn (x : Nat) (last : Bool) (k n : Nat) (p : List UInt8) : Prop :=
  n = x / 10 ^ k ∧ k ≤ 9 ∧ (last = false ∨ 0 < n → p = pad k (x % 10 ^ k)) ∧ (last = true → n = 0 → p = decDigits x)
theorem Inn.start {x : Nat} {last : Bool} (h : last = true → 0 < x) : Inn x last 0 x [] :=
  ⟨by simp, by omega, fun _ => rfl, fun hl h0 => absurd h0 (by have := h hl; omega)⟩
theorem Inn.step {x : Nat} {last : Bool} {k n : Nat} {p : List UInt8} (h : Inn x last k n p) (hk : k < 9) (hc : last = false ∨ 0 < n) : Inn x last (k + 1) (n / 10) (UInt8.ofNat (48 + n % 10) :: p) := by
  obtain ⟨h1, h2, h3, h4⟩ := h
  have hp := h3 hc
  have hlt : x % 10 ^ k < 10 ^ k := Nat.mod_lt _ (Nat.pow_pos (by decide))
  have hx : x = n * 10 ^ k + x % 10 ^ k := by rw [h1]; have := Nat.div_add_mod x (10 ^ k); rw [Nat.mul_comm] at this; exact this.symm
  refine ⟨by rw [h1, Nat.div_div_eq_div_mul, Nat.pow_succ], by omega, fun _ => ?_, fun hl h0 => ?_⟩
  · have e : x % 10 ^ (k + 1) = (n % 10) * 10 ^ k + x % 10 ^ k := by
      rw [Nat.mod_pow_succ, ← h1, Nat.mul_comm, Nat.add_comm]
    rw [e, Nat.add_comm k 1, pad_add k 1 (n % 10) _ hlt, hp]
    simp [pad]
  · have hn : 0 < n := by
      rcases hc with hc | hc
      · rw [hc] at hl; cases hl
      · exact hc
    have hn10 : n < 10 := by omega
    rw [hp]
    conv => rhs; rw [hx]
    rw [dec_pad k n _ hn hlt, dec_small hn10, Nat.mod_eq_of_lt hn10]
    rfl
theorem Inn.mid {x k n : Nat} {p : List UInt8} (h : Inn x false k n p) (hk : k = 9) (hx : x < 1000000000) : p = pad 9 x := by
  subst hk
  rw [h.2.2.1 (.inl rfl), Nat.mod_eq_of_lt (by omega)]
theorem Inn.last {x k n : Nat} {p : List UInt8} (h : Inn x true k n p) (hk : k = 9 ∨ n = 0) (hx : x < 1000000000) : p = decDigits x := by
  obtain ⟨h1, h2, h3, h4⟩ := h
  refine h4 rfl ?_
  rcases hk with hk | hk
  · subst hk; rw [h1]; exact Nat.div_eq_of_lt (by omega)
  · exact hk
/-- The outer rounds: i limbs are told. -/
def Out (l : List Nat) (i : Nat) (t : List UInt8) : Prop := (i < l.length → t = pad (9 * i) (val (l.take i))) ∧ (i = l.length → t = decDigits (val l))
theorem Out.start {l : List Nat} (h : l ≠ []) : Out l 0 [] := ⟨fun _ => rfl, fun h0 => absurd (List.eq_nil_of_length_eq_zero h0.symm) h⟩
theorem Out.step {l : List Nat} (hs : small l = true) (hl : l.getLast? ≠ some 0) {i x : Nat} {t p : List UInt8} (hx : l[i]? = some x) (h : Out l i t) (hp : (i + 1 = l.length → p = decDigits x) ∧ (i + 1 < l.length → p = pad 9 x)) : Out l (i + 1) (p ++ t) := by
  obtain ⟨hlt, -⟩ := List.getElem?_eq_some_iff.1 hx
  have ht := h.1 hlt
  have hv := val_take hx
  have hb : val (l.take i) < 10 ^ (9 * i) := by
    have h1 := val_lt (l := l.take i) (small_take hs i)
    rw [List.length_take, Nat.min_eq_left (by omega)] at h1
    rw [Nat.pow_mul]; exact h1
  have he : 1000000000 ^ i * x = x * 10 ^ (9 * i) := by rw [Nat.pow_mul, Nat.mul_comm]
  rw [he] at hv
  have hv := hv.trans (Nat.add_comm _ _)
  refine ⟨fun h1 => ?_, fun h1 => ?_⟩
  · rw [hv, ht, hp.2 h1, show 9 * (i + 1) = 9 + 9 * i by omega, pad_add (9 * i) 9 x _ hb]
  · have hx0 : 0 < x := by
      rcases Nat.eq_zero_or_pos x with h0 | h0
      · exfalso; apply hl
        rw [List.getLast?_eq_getElem?, show l.length - 1 = i by omega, hx, h0]
      · exact h0
    rw [hp.1 h1, ht, ← dec_pad (9 * i) x _ hx0 hb, ← hv, List.take_of_length_le (by omega)]
end M
end Go.Proofs.YthlafkbldlmmaaaDoor
