/-
  Plain mathematics of integers as a sign and a row of limbs: 'isZ g l' (is it an integer), 'zv g l' (what it counts as), rounding down and Euclid's way by magnitudes.
-/
import Derived.Test.YtgkofipifjfjhaaGreatDoorJM
namespace Go.Proofs.YtgkofipifjfjhaaGreatDoor.M
set_option linter.unusedSimpArgs false
set_option linter.unusedVariables false

def isZ (g : Bool) (l : List Nat) : Bool := isNat l && (!g || !l.isEmpty)
def zv (g : Bool) (l : List Nat) : Int := if isZ g l = true then (if g = true then -(val l : Int) else (val l : Int)) else 0

theorem isZ_of (Z : Int) : isZ (decide (Z < 0)) (limbs Z.natAbs) = true := by
 unfold isZ
 rw [isNat_limbs, Bool.true_and]
 by_cases h : Z < 0
 ·have : limbs Z.natAbs ≠ [] := limbs_ne (by omega)
  simp [h, this]
 ·simp [h]
theorem zv_of (Z : Int) : zv (decide (Z < 0)) (limbs Z.natAbs) = Z := by
 unfold zv
 rw [if_pos (isZ_of Z), val_limbs]
 by_cases h : Z < 0
 ·rw [if_pos (by simpa using h)]; omega
 ·rw [if_neg (by simpa using h)]; omega
theorem zv_off {g : Bool} {l : List Nat} (h : isZ g l = false) : zv g l = 0 := by unfold zv; rw [if_neg (by simp [h])]
theorem isZ_nat {g : Bool} {l : List Nat} (h : isZ g l = true) : isNat l = true := by
 unfold isZ at h; simp only [Bool.and_eq_true] at h; exact h.1
theorem isZ_pos {l : List Nat} (h : isZ true l = true) : 0 < val l := by
 have h1 := isNat_iff.1 (isZ_nat h)
 unfold isZ at h
 refine val_pos ?_ h1.2
 rintro rfl; simp at h
theorem zv_neg {l : List Nat} (h : isZ true l = true) : zv true l = -(val l : Int) := by unfold zv; rw [if_pos h]; rfl
theorem zv_pos {l : List Nat} (h : isZ false l = true) : zv false l = (val l : Int) := by unfold zv; rw [if_pos h]; rfl
theorem zv_abs {g : Bool} {l : List Nat} (h : isZ g l = true) : (zv g l).natAbs = val l := by
 cases g
 ·rw [zv_pos h]; omega
 ·rw [zv_neg h]; omega
theorem zv_lt {g : Bool} {l : List Nat} (h : isZ g l = true) : decide (zv g l < 0) = g := by
 cases g
 ·rw [zv_pos h]; simp
 ·rw [zv_neg h]; have := isZ_pos h; simp; omega
theorem limbs_zv {g : Bool} {l : List Nat} (h : isZ g l = true) : limbs (zv g l).natAbs = l := by
 rw [zv_abs h]; have := isNat_iff.1 (isZ_nat h); exact limbs_val this.1 this.2
theorem isZ_empty {g : Bool} {l : List Nat} (h : isNat l = true) : isZ g l = (!g || !l.isEmpty) := by unfold isZ; rw [h]; rfl

/- a side and a size -/
theorem side_mul {s : Int} {n : Nat} (h : n ≠ 0 → s = 1 ∨ s = -1) : n ≠ 0 → (s * (n : Int)).sign = s ∧ (s * (n : Int)).natAbs = n := by
 intro hn
 rcases h hn with rfl | rfl
 ·rw [Int.one_mul]; exact ⟨Int.sign_eq_one_of_pos (by omega), by omega⟩
 ·rw [show (-1 : Int) * (n : Int) = -(n : Int) by omega]; exact ⟨Int.sign_eq_neg_one_of_neg (by omega), by omega⟩
theorem sign_cases (Z : Int) : (Z < 0 ∧ Z.sign = -1) ∨ (Z = 0 ∧ Z.sign = 0) ∨ (0 < Z ∧ Z.sign = 1) := by
 rcases (by omega : Z < 0 ∨ Z = 0 ∨ 0 < Z) with h | h | h
 ·exact .inl ⟨h, Int.sign_eq_neg_one_of_neg h⟩
 ·exact .inr (.inl ⟨h, by rw [h]; rfl⟩)
 ·exact .inr (.inr ⟨h, Int.sign_eq_one_of_pos h⟩)
theorem sign_neg (Z : Int) : Z.sign < 0 ↔ Z < 0 := by rcases sign_cases Z with ⟨h, e⟩ | ⟨h, e⟩ | ⟨h, e⟩ <;> rw [e] <;> omega
/- the order -/
/- sums by sizes -/
theorem sign_sq (Z : Int) : Z.sign * Z.sign = (Z.natAbs : Int).sign := by
 rcases sign_cases Z with ⟨h, e⟩ | ⟨h, e⟩ | ⟨h, e⟩ <;> rw [e]
 ·rw [Int.sign_eq_one_of_pos (by omega)]; rfl
 ·subst h; rfl
 ·rw [Int.sign_eq_one_of_pos (by omega)]; rfl
/- dividing -/
end Go.Proofs.YtgkofipifjfjhaaGreatDoor.M

