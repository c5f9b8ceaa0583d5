/-
  Plain mathematics of integers as a sign and a row of limbs: 'isZ g l' (is it an integer), 'zv g l' (what it counts as), rounding down and Euclid's way by magnitudes.
-/
import Derived.Test.YtkhmgdfhggejaaaGreatDoorWJM
namespace Go.Proofs.YtkhmgdfhggejaaaGreatDoor.M
set_option linter.unusedSimpArgs false
set_option linter.unusedVariables false
def isZ (g : Bool) (l : List Nat) : Bool := isNat l && (!g || !l.isEmpty)
def zv (g : Bool) (l : List Nat) : Int := if isZ g l = true then (if g = true then -(val l : Int) else (val l : Int)) else 0
theorem isZ_of (Z : Int) : isZ (decide (Z < 0)) (limbs Z.natAbs) = true := by
 unfold isZ
 rw [isNat_limbs, Bool.true_and]
 by_cases h : Z < 0
 ·have : limbs Z.natAbs ≠ [] := limbs_ne (by omega)
  simp [h, this]
 ·simp [h]
theorem zv_of (Z : Int) : zv (decide (Z < 0)) (limbs Z.natAbs) = Z := by
 unfold zv
 rw [if_pos (isZ_of Z), val_limbs]
 by_cases h : Z < 0
 ·rw [if_pos (by simpa using h)]; omega
 ·rw [if_neg (by simpa using h)]; omega
theorem zv_off {g : Bool} {l : List Nat} (h : isZ g l = false) : zv g l = 0 := by unfold zv; rw [if_neg (by simp [h])]
theorem isZ_nat {g : Bool} {l : List Nat} (h : isZ g l = true) : isNat l = true := by
 unfold isZ at h; simp only [Bool.and_eq_true] at h; exact h.1
theorem isZ_pos {l : List Nat} (h : isZ true l = true) : 0 < val l := by
 have h1 := isNat_iff.1 (isZ_nat h)
 unfold isZ at h
 refine val_pos ?_ h1.2
 rintro rfl; simp at h
theorem zv_neg {l : List Nat} (h : isZ true l = true) : zv true l = -(val l : Int) := by unfold zv; rw [if_pos h]; rfl
theorem zv_pos {l : List Nat} (h : isZ false l = true) : zv false l = (val l : Int) := by unfold zv; rw [if_pos h]; rfl
theorem zv_abs {g : Bool} {l : List Nat} (h : isZ g l = true) : (zv g l).natAbs = val l := by
 cases g
 ·rw [zv_pos h]; omega
 ·rw [zv_neg h]; omega
theorem zv_lt {g : Bool} {l : List Nat} (h : isZ g l = true) : decide (zv g l < 0) = g := by
 cases g
 ·rw [zv_pos h]; simp
 ·rw [zv_neg h]; have := isZ_pos h; simp; omega
theorem limbs_zv {g : Bool} {l : List Nat} (h : isZ g l = true) : limbs (zv g l).natAbs = l := by
 rw [zv_abs h]; have := isNat_iff.1 (isZ_nat h); exact limbs_val this.1 this.2
theorem isZ_empty {g : Bool} {l : List Nat} (h : isNat l = true) : isZ g l = (!g || !l.isEmpty) := by unfold isZ; rw [h]; rfl
/- a side and a size -/
theorem side_mul {s : Int} {n : Nat} (h : n ≠ 0 → s = 1 ∨ s = -1) : n ≠ 0 → (s * (n : Int)).sign = s ∧ (s * (n : Int)).natAbs = n := by
 intro hn
 rcases h hn with rfl | rfl
 ·rw [Int.one_mul]; exact ⟨Int.sign_eq_one_of_pos (by omega), by omega⟩
 ·rw [show (-1 : Int) * (n : Int) = -(n : Int) by omega]; exact ⟨Int.sign_eq_neg_one_of_neg (by omega), by omega⟩
theorem sign_cases (Z : Int) : (Z < 0 ∧ Z.sign = -1) ∨ (Z = 0 ∧ Z.sign = 0) ∨ (0 < Z ∧ Z.sign = 1) := by
 rcases (by omega : Z < 0 ∨ Z = 0 ∨ 0 < Z) with h | h | h
 ·exact .inl ⟨h, Int.sign_eq_neg_one_of_neg h⟩
 ·exact .inr (.inl ⟨h, by rw [h]; rfl⟩)
 ·exact .inr (.inr ⟨h, Int.sign_eq_one_of_pos h⟩)
theorem sign_neg (Z : Int) : Z.sign < 0 ↔ Z < 0 := by rcases sign_cases Z with ⟨h, e⟩ | ⟨h, e⟩ | ⟨h, e⟩ <;> rw [e] <;> omega
theorem sign_abs (Z : Int) : Z.sign * (Z.natAbs : Int) = Z := Int.sign_mul_natAbs Z
theorem sign_pm {Z : Int} (h : Z.natAbs ≠ 0) : Z.sign = 1 ∨ Z.sign = -1 := by
 rcases sign_cases Z with ⟨_, e⟩ | ⟨e, _⟩ | ⟨_, e⟩
 ·exact .inr e
 ·exact absurd (by rw [e]; rfl) h
 ·exact .inl e
/- the order -/
def zcmp (a b : Int) : Int := (a - b).sign
theorem zcmp_eq {a b : Int} : zcmp a b = 0 ↔ a = b := by unfold zcmp; rw [Int.sign_eq_zero_iff_zero]; omega
theorem zcmp_lt {a b : Int} (h : a < b) : zcmp a b = -1 := by unfold zcmp; exact Int.sign_eq_neg_one_of_neg (by omega)
theorem zcmp_gt {a b : Int} (h : b < a) : zcmp a b = 1 := by unfold zcmp; exact Int.sign_eq_one_of_pos (by omega)
theorem zcmp_same {a b : Int} (h : a = b) : zcmp a b = 0 := zcmp_eq.2 h
theorem zcmp_cast (a b : Nat) : zcmp (a : Int) (b : Int) = cmp a b := by
 unfold cmp
 split
 ·next h => exact zcmp_lt (by omega)
 ·split
  ·next h => exact zcmp_gt (by omega)
  ·exact zcmp_same (by omega)
theorem zcmp_sides {a b : Int} (h : a.sign = b.sign) : zcmp a b = a.sign * cmp a.natAbs b.natAbs := by
 rcases sign_cases a with ⟨ha, ea⟩ | ⟨ha, ea⟩ | ⟨ha, ea⟩ <;> rcases sign_cases b with ⟨hb, eb⟩ | ⟨hb, eb⟩ | ⟨hb, eb⟩ <;> rw [ea, eb] at h <;> try (exact absurd h (by decide))
 ·rw [ea, ← zcmp_cast]
  unfold zcmp
  rw [show ((a.natAbs : Int) - (b.natAbs : Int)) = -(a - b) by omega, Int.sign_neg]; omega
 ·rw [ea, ha, hb]; rfl
 ·rw [ea, ← zcmp_cast, Int.one_mul]; congr 1 <;> omega
theorem zcmp_unlike {a b : Int} (h : a.sign ≠ b.sign) : zcmp a b = zcmp a.sign b.sign := by
 rcases sign_cases a with ⟨ha, ea⟩ | ⟨ha, ea⟩ | ⟨ha, ea⟩ <;> rcases sign_cases b with ⟨hb, eb⟩ | ⟨hb, eb⟩ | ⟨hb, eb⟩ <;> rw [ea, eb] at h ⊢ <;> first | (exact absurd rfl h) | (first | (rw [zcmp_lt (by omega)]; rfl) | (rw [zcmp_gt (by omega)]; rfl))
/- sums by sizes -/
theorem plus_like {a b : Int} (h : ¬ a.sign * b.sign < 0) : ((a.natAbs + b.natAbs : Nat) : Int) = (a + b).natAbs := by
 rcases sign_cases a with ⟨ha, ea⟩ | ⟨ha, ea⟩ | ⟨ha, ea⟩ <;> rcases sign_cases b with ⟨hb, eb⟩ | ⟨hb, eb⟩ | ⟨hb, eb⟩ <;> rw [ea, eb] at h <;> first | omega | (exfalso; revert h; decide)
theorem sign_sq (Z : Int) : Z.sign * Z.sign = (Z.natAbs : Int).sign := by
 rcases sign_cases Z with ⟨h, e⟩ | ⟨h, e⟩ | ⟨h, e⟩ <;> rw [e]
 ·rw [Int.sign_eq_one_of_pos (by omega)]; rfl
 ·subst h; rfl
 ·rw [Int.sign_eq_one_of_pos (by omega)]; rfl
theorem plus_side {a b : Int} (h : ¬ a.sign * b.sign < 0) (hn : (a + b).natAbs ≠ 0) : (if a.sign = 0 then b.sign else a.sign) = (a + b).sign := by
 rcases sign_cases a with ⟨ha, ea⟩ | ⟨ha, ea⟩ | ⟨ha, ea⟩ <;> rcases sign_cases b with ⟨hb, eb⟩ | ⟨hb, eb⟩ | ⟨hb, eb⟩ <;> rw [ea, eb] at h ⊢ <;> first
 | (exfalso; revert h; decide)
 | (exfalso; omega)
 | (rw [Int.sign_eq_neg_one_of_neg (by omega)]; rfl)
 | (rw [Int.sign_eq_one_of_pos (by omega)]; rfl)
theorem plus_less {a b : Int} (h : a.sign * b.sign < 0) (hl : a.natAbs < b.natAbs) : b.natAbs - a.natAbs = (a + b).natAbs ∧ b.sign = (a + b).sign := by
 rcases sign_cases a with ⟨ha, ea⟩ | ⟨ha, ea⟩ | ⟨ha, ea⟩ <;> rcases sign_cases b with ⟨hb, eb⟩ | ⟨hb, eb⟩ | ⟨hb, eb⟩ <;> rw [ea, eb] at h <;> first
 | (exfalso; revert h; decide)
 | (refine ⟨by omega, ?_⟩; rw [eb, Int.sign_eq_neg_one_of_neg (by omega)])
 | (refine ⟨by omega, ?_⟩; rw [eb, Int.sign_eq_one_of_pos (by omega)])
theorem plus_more {a b : Int} (h : a.sign * b.sign < 0) (hl : b.natAbs ≤ a.natAbs) : a.natAbs - b.natAbs = (a + b).natAbs ∧ ((a + b).natAbs ≠ 0 → a.sign = (a + b).sign) := by
 rcases sign_cases a with ⟨ha, ea⟩ | ⟨ha, ea⟩ | ⟨ha, ea⟩ <;> rcases sign_cases b with ⟨hb, eb⟩ | ⟨hb, eb⟩ | ⟨hb, eb⟩ <;> rw [ea, eb] at h <;> first
 | (exfalso; revert h; decide)
 | (refine ⟨by omega, fun hn => ?_⟩; rw [ea, Int.sign_eq_neg_one_of_neg (by omega)])
 | (refine ⟨by omega, fun hn => ?_⟩; rw [ea, Int.sign_eq_one_of_pos (by omega)])
/- dividing -/
theorem fdiv_unique {a b q r : Int} (hb : b ≠ 0) (h : a = q * b + r) (hr : (0 < b → 0 ≤ r ∧ r < b) ∧ (b < 0 → b < r ∧ r ≤ 0)) : a.fdiv b = q ∧ a.fmod b = r := by
 have e := Int.mul_fdiv_add_fmod a b
 rcases (by omega : 0 < b ∨ b < 0) with hp | hp
 ·have h1 := hr.1 hp
  have h2 := Int.fmod_nonneg_of_pos a hp
  have h3 := Int.fmod_lt_of_pos a hp
  have hd : b * (a.fdiv b - q) = r - a.fmod b := by rw [Int.mul_sub]; rw [Int.mul_comm q b] at h; omega
  have hq : a.fdiv b - q = 0 := by
   rcases (by omega : a.fdiv b - q = 0 ∨ 1 ≤ a.fdiv b - q ∨ a.fdiv b - q ≤ -1) with h0 | h0 | h0
   ·exact h0
   ·have := Int.mul_le_mul_of_nonneg_left h0 (Int.le_of_lt hp); omega
   ·have := Int.mul_le_mul_of_nonneg_left h0 (Int.le_of_lt hp); omega
  rw [hq, Int.mul_zero] at hd
  omega
 ·have h1 := hr.2 hp
  have h2 : b < a.fmod b ∧ a.fmod b ≤ 0 := by
   have e1 : a.fmod b = -((-a).fmod (-b)) := by rw [Int.neg_fmod_neg]; omega
   have h2 := Int.fmod_nonneg_of_pos (-a) (show 0 < -b by omega)
   have h3 := Int.fmod_lt_of_pos (-a) (show 0 < -b by omega)
   omega
  have hd : (-b) * (q - a.fdiv b) = r - a.fmod b := by rw [Int.neg_mul, Int.mul_sub]; rw [Int.mul_comm q b] at h; omega
  have hq : q - a.fdiv b = 0 := by
   rcases (by omega : q - a.fdiv b = 0 ∨ 1 ≤ q - a.fdiv b ∨ q - a.fdiv b ≤ -1) with h0 | h0 | h0
   ·exact h0
   ·have := Int.mul_le_mul_of_nonneg_left h0 (show 0 ≤ -b by omega); omega
   ·have := Int.mul_le_mul_of_nonneg_left h0 (show 0 ≤ -b by omega); omega
  rw [hq, Int.mul_zero] at hd
  omega
theorem trunc_eq (a b : Int) : a = (a.sign * b.sign * ((a.natAbs / b.natAbs : Nat) : Int)) * b + a.sign * ((a.natAbs % b.natAbs : Nat) : Int) := by
 have h := Nat.div_add_mod a.natAbs b.natAbs
 have h' : ((a.natAbs : Int)) = (b.natAbs : Int) * ((a.natAbs / b.natAbs : Nat) : Int) + ((a.natAbs % b.natAbs : Nat) : Int) := by exact_mod_cast h.symm
 have hb : b.sign * b = (b.natAbs : Int) := by exact Int.sign_mul_self b
 generalize ((a.natAbs / b.natAbs : Nat) : Int) = q at *
 generalize ((a.natAbs % b.natAbs : Nat) : Int) = r at *
 conv => lhs; rw [← sign_abs a, h']
 rw [Int.mul_add, show a.sign * b.sign * q * b = a.sign * ((b.sign * b) * q) by rw [Int.mul_assoc, Int.mul_assoc, Int.mul_comm q b, ← Int.mul_assoc b.sign], hb]
theorem floor_case {a b : Int} (hb : b ≠ 0) (h : ¬ (a.sign * ((a.natAbs % b.natAbs : Nat) : Int)).sign * b.sign < 0) :
 a.fdiv b = a.sign * b.sign * ((a.natAbs / b.natAbs : Nat) : Int) ∧ a.fmod b = a.sign * ((a.natAbs % b.natAbs : Nat) : Int) := by
 refine fdiv_unique hb (trunc_eq a b) ?_
 have hm := Nat.mod_lt a.natAbs (show 0 < b.natAbs by omega)
 generalize a.natAbs % b.natAbs = r at *
 rcases sign_cases a with ⟨ha, ea⟩ | ⟨ha, ea⟩ | ⟨ha, ea⟩ <;> rcases sign_cases b with ⟨hb, eb⟩ | ⟨hb, eb⟩ | ⟨hb, eb⟩ <;> rw [ea] at h ⊢ <;> rw [eb] at h <;> try omega
 all_goals
  rcases Nat.eq_zero_or_pos r with h0 | h0
  ·subst h0; simp; try omega
  ·exfalso; apply h
   first
   | (rw [Int.sign_eq_neg_one_of_neg (by omega)]; decide)
   | (rw [Int.sign_eq_one_of_pos (by omega)]; decide)
theorem floor_step {a b : Int} (h : (a.sign * ((a.natAbs % b.natAbs : Nat) : Int)).sign * b.sign < 0) :
 a.fdiv b = a.sign * b.sign * ((a.natAbs / b.natAbs : Nat) : Int) + -1 ∧ a.fmod b = a.sign * ((a.natAbs % b.natAbs : Nat) : Int) + b := by
 have hb : b ≠ 0 := by rintro rfl; simp at h
 have ht := trunc_eq a b
 have hm := Nat.mod_lt a.natAbs (show 0 < b.natAbs by omega)
 refine fdiv_unique hb ?_ ?_
 ·rw [Int.add_mul]; omega
 ·clear ht
  generalize a.natAbs % b.natAbs = r at *
  rcases sign_cases a with ⟨ha, ea⟩ | ⟨ha, ea⟩ | ⟨ha, ea⟩ <;> rcases sign_cases b with ⟨hb, eb⟩ | ⟨hb, eb⟩ | ⟨hb, eb⟩ <;> rw [ea] at h ⊢ <;> rw [eb] at h
  all_goals
   rcases Nat.eq_zero_or_pos r with h0 | h0
   ·subst h0; exfalso; revert h; simp
   ·first
    | omega
    | (exfalso; revert h; rw [Int.sign_eq_one_of_pos (by omega)]; decide)
    | (exfalso; revert h; rw [Int.sign_eq_neg_one_of_neg (by omega)]; decide)
    | (exfalso; revert h; simp)
theorem floor_nought (a : Int) : a.fdiv 0 = a.sign * (0 : Int).sign * ((a.natAbs / (0 : Int).natAbs : Nat) : Int) ∧ a.fmod 0 = a.sign * ((a.natAbs % (0 : Int).natAbs : Nat) : Int) := by
 refine ⟨by simp, ?_⟩
 rw [show (0 : Int).natAbs = 0 from rfl, Nat.mod_zero, sign_abs, Int.fmod_zero]
theorem floor_keep {a b : Int} (h : ¬ (a.sign * ((a.natAbs % b.natAbs : Nat) : Int)).sign * b.sign < 0) :
 a.fdiv b = a.sign * b.sign * ((a.natAbs / b.natAbs : Nat) : Int) ∧ a.fmod b = a.sign * ((a.natAbs % b.natAbs : Nat) : Int) := by
 by_cases hb : b = 0
 ·subst hb; exact floor_nought a
 ·exact floor_case hb h
theorem quo_parts (a b : Int) : a.natAbs / b.natAbs = (a.sign * b.sign * ((a.natAbs / b.natAbs : Nat) : Int)).natAbs ∧ ((a.sign * b.sign * ((a.natAbs / b.natAbs : Nat) : Int)).natAbs ≠ 0 → a.sign * b.sign = (a.sign * b.sign * ((a.natAbs / b.natAbs : Nat) : Int)).sign) := by
 have hz : a.natAbs / b.natAbs ≠ 0 → a.sign * b.sign = 1 ∨ a.sign * b.sign = -1 := by
  intro hn
  have ha : a.natAbs ≠ 0 := by intro h; rw [h] at hn; simp at hn
  have hb : b.natAbs ≠ 0 := by intro h; rw [h] at hn; simp at hn
  rcases sign_pm ha with e | e <;> rcases sign_pm hb with f | f <;> rw [e, f] <;> simp
 by_cases hn : a.natAbs / b.natAbs = 0
 ·rw [hn]; simp
 ·have := side_mul hz hn
  exact ⟨this.2.symm, fun _ => this.1.symm⟩
theorem rest_parts (a b : Int) : a.natAbs % b.natAbs = (a.sign * ((a.natAbs % b.natAbs : Nat) : Int)).natAbs ∧ ((a.sign * ((a.natAbs % b.natAbs : Nat) : Int)).natAbs ≠ 0 → a.sign = (a.sign * ((a.natAbs % b.natAbs : Nat) : Int)).sign) := by
 have hz : a.natAbs % b.natAbs ≠ 0 → a.sign = 1 ∨ a.sign = -1 := by
  intro hn
  refine sign_pm ?_
  intro h; rw [h] at hn; simp at hn
 by_cases hn : a.natAbs % b.natAbs = 0
 ·rw [hn]; simp
 ·have := side_mul hz hn
  exact ⟨this.2.symm, fun _ => this.1.symm⟩
theorem euclid_of (a b : Int) : a / b = (a.fdiv b.natAbs) * b.sign ∧ a % b = a.fmod b.natAbs := by
 have h : (0 : Int) ≤ (b.natAbs : Int) := by omega
 rw [Int.fdiv_eq_ediv_of_nonneg _ h, Int.fmod_eq_emod_of_nonneg _ h]
 rcases sign_cases b with ⟨hb, eb⟩ | ⟨hb, eb⟩ | ⟨hb, eb⟩ <;> rw [eb]
 ·rw [show (b.natAbs : Int) = -b by omega, Int.ediv_neg, Int.emod_neg]; omega
 ·subst hb; simp
 ·rw [show (b.natAbs : Int) = b by omega]; omega
end Go.Proofs.YtkhmgdfhggejaaaGreatDoor.M
