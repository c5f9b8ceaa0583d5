/-
  Mathematics of fractions: what package rat reckons of the parts is what core's Rat is.
-/
import Derived.Test.YtkjfeedclaedfaaGreatJMZ
namespace Go.Proofs.YtkjfeedclaedfaaGreat
set_option linter.unusedSimpArgs false
set_option linter.unusedVariables false
namespace M
theorem frac_pos {p q : Int} (hq : 0 < q) : (Rat.divInt p q).num = p.fdiv ((Int.gcd q p : Nat) : Int) ∧ ((Rat.divInt p q).den : Int) = q.fdiv ((Int.gcd q p : Nat) : Int) := by
  have h := frac_parts (p := p) (q := q) (by omega)
  rw [Int.sign_eq_one_of_pos hq, Int.one_mul, Int.gcd_comm] at h
  exact h
theorem frac_neg {p q : Int} (hq : q < 0) : (Rat.divInt p q).num = p.fdiv (-((Int.gcd q p : Nat) : Int)) ∧ ((Rat.divInt p q).den : Int) = q.fdiv (-((Int.gcd q p : Nat) : Int)) := by
  have h := frac_parts (p := p) (q := q) (by omega)
  rw [Int.sign_eq_neg_one_of_neg hq, Int.gcd_comm, show -1 * ((Int.gcd q p : Nat) : Int) = -((Int.gcd q p : Nat) : Int) by omega] at h
  exact h
theorem frac_none {p q : Int} (hq : q = 0) : (Rat.divInt p q) = 0 := by rw [hq]; exact Rat.divInt_zero p
theorem den_ne (x : Rat) : (x.den : Int) ≠ 0 := by have := x.den_nz; omega
theorem den_pos (x : Rat) : 0 < (x.den : Int) := by have := x.den_nz; omega
theorem of_add (x y : Rat) : Rat.divInt (x.num * (y.den : Int) + y.num * (x.den : Int)) ((x.den : Int) * (y.den : Int)) = x + y := by
  rw [← Rat.divInt_add_divInt _ _ (den_ne x) (den_ne y), Rat.num_divInt_den, Rat.num_divInt_den]
theorem of_sub (x y : Rat) : Rat.divInt (x.num * (y.den : Int) - y.num * (x.den : Int)) ((x.den : Int) * (y.den : Int)) = x - y := by
  rw [← Rat.divInt_sub_divInt _ _ (den_ne x) (den_ne y), Rat.num_divInt_den, Rat.num_divInt_den]
theorem of_mul (x y : Rat) : Rat.divInt (x.num * y.num) ((x.den : Int) * (y.den : Int)) = x * y := by
  rw [← Rat.divInt_mul_divInt, Rat.num_divInt_den, Rat.num_divInt_den]
theorem of_div (x y : Rat) : Rat.divInt (x.num * (y.den : Int)) ((x.den : Int) * y.num) = x / y := by
  rw [Rat.div_def, Rat.inv_def, ← Rat.divInt_mul_divInt, Rat.num_divInt_den]
theorem of_int (Z : Int) : Rat.divInt Z 1 = (Z : Rat) := by
  rw [show (1 : Int) = (((Z : Rat)).den : Int) from rfl, show Z = ((Z : Rat)).num from rfl]; exact Rat.num_divInt_den _
/-- How two fractions stand, by their parts. -/
def rcmp (x y : Rat) : Int := zcmp (x.num * (y.den : Int)) (y.num * (x.den : Int))
theorem rcmp_eq {x y : Rat} : rcmp x y = 0 ↔ x = y := by
  unfold rcmp
  rw [zcmp_eq]
  constructor
  · intro h
    exact Rat.le_antisymm ((Rat.le_iff x y).2 (by omega)) ((Rat.le_iff y x).2 (by omega))
  · rintro rfl; rfl
theorem rcmp_lt {x y : Rat} (h : x < y) : rcmp x y = -1 := zcmp_lt ((Rat.lt_iff x y).1 h)
theorem rcmp_gt {x y : Rat} (h : y < x) : rcmp x y = 1 := zcmp_gt ((Rat.lt_iff y x).1 h)
theorem rcmp_same {x y : Rat} (h : x = y) : rcmp x y = 0 := rcmp_eq.2 h
theorem rcmp_swap (x y : Rat) : rcmp y x = - rcmp x y := zcmp_swap _ _
theorem rcmp_neg (x y : Rat) : rcmp (-x) (-y) = - rcmp x y := by
  unfold rcmp zcmp
  rw [Rat.neg_num, Rat.neg_num, Rat.neg_den, Rat.neg_den, ← Int.sign_neg, Int.neg_mul, Int.neg_mul]
  congr 1; omega
theorem mul_sign {a b : Int} (hb : 0 < b) : (a * b).sign = a.sign := by rw [Int.sign_mul, Int.sign_eq_one_of_pos hb, Int.mul_one]
theorem rcmp_unlike {x y : Rat} (h : x.num.sign ≠ y.num.sign) : zcmp x.num y.num = rcmp x y := by
  have e1 := mul_sign (a := x.num) (den_pos y)
  have e2 := mul_sign (a := y.num) (den_pos x)
  unfold rcmp
  rw [zcmp_unlike (a := x.num * _) (by rw [e1, e2]; exact h), e1, e2, zcmp_unlike h]
theorem rcmp_range (x y : Rat) : -1 ≤ rcmp x y ∧ rcmp x y ≤ 1 := zcmp_range _ _
theorem whole_eq (x : Rat) : zcmp (x.den : Int) 1 = 0 ↔ x.den = 1 := by rw [zcmp_eq]; omega
theorem floor_of (x : Rat) : x.num.fdiv (x.den : Int) = x.floor := by rw [Rat.floor_def, Int.fdiv_eq_ediv_of_nonneg _ (Int.natCast_nonneg _)]
theorem ceil_of (x : Rat) : -((-x.num).fdiv (x.den : Int)) = x.ceil := by
  rw [Rat.ceil_eq_neg_floor_neg, ← floor_of]; rfl
/-- Whether it is one: as package rat asks. -/
theorem isR_bad {g : Bool} {l d : List Nat} (h : isZ g l = false) : isR g l d = false := by unfold isR; rw [h]; rfl
theorem isR_bad2 {g : Bool} {l d : List Nat} (h : isNat d = false) : isR g l d = false := by unfold isR; rw [h, Bool.and_comm]; rfl
theorem isR_bad3 {g : Bool} {l : List Nat} : isR g l [] = false := by
  unfold isR; simp
theorem isR_by {g : Bool} {l d : List Nat} (h1 : isZ g l = true) (h2 : isNat d = true) (h3 : d ≠ []) : isR g l d = decide (((Int.gcd (zv g l) (val d) : Nat) : Int) = 1) := by
  rw [Bool.eq_iff_iff, isR_iff, decide_eq_true_iff]
  constructor
  · rintro ⟨_, _, _, h⟩; omega
  · intro h; exact ⟨h1, h2, h3, by omega⟩
end M
end Go.Proofs.YtkjfeedclaedfaaGreat
