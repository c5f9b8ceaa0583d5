/-
  Mathematics of the laws over fractions.
-/
import Derived.Test.YtkjfeedclaedfaaGreatRMat
namespace Go.Proofs.YtkjfeedclaedfaaGreat
namespace M
theorem half : Rat.divInt 1 2 = 1 / 2 := by decide +kernel
theorem mid_lt {x y : Rat} (h : x < y) : x < (x + y) * Rat.divInt 1 2 ∧ (x + y) * Rat.divInt 1 2 < y := by
  rw [half]; constructor <;> grind
theorem mid_same {x y : Rat} (h : x = y) : x = (x + y) * Rat.divInt 1 2 ∧ (x + y) * Rat.divInt 1 2 = y := by
  rw [half]; constructor <;> grind
theorem mid_cmp (x y : Rat) : rcmp x ((x + y) * Rat.divInt 1 2) = rcmp x y ∧ rcmp ((x + y) * Rat.divInt 1 2) y = rcmp x y := by
  rcases (by grind : x < y ∨ x = y ∨ y < x) with h | h | h
  · obtain ⟨h1, h2⟩ := mid_lt h
    rw [rcmp_lt h, rcmp_lt h1, rcmp_lt h2]; exact ⟨rfl, rfl⟩
  · obtain ⟨h1, h2⟩ := mid_same h
    rw [rcmp_same h, rcmp_same h1, rcmp_same h2]; exact ⟨rfl, rfl⟩
  · obtain ⟨h1, h2⟩ := mid_lt h
    rw [Rat.add_comm y x] at h1 h2
    rw [rcmp_gt h, rcmp_gt h1, rcmp_gt h2]; exact ⟨rfl, rfl⟩
theorem whole_mod {p q : Int} (hq : q ≠ 0) : (Rat.divInt p q).den = 1 ↔ p.tmod q = 0 := by
  rw [Rat.den_divInt, if_neg hq]
  have hd : Int.gcd q p ∣ q.natAbs := Nat.gcd_dvd_left _ _
  have hp : 0 < Int.gcd q p := Int.gcd_pos_of_ne_zero_left _ hq
  constructor
  · intro h
    have e : q.natAbs = Int.gcd q p := by have := Nat.div_mul_cancel hd; rw [h] at this; omega
    have h2 : ((q.natAbs : Nat) : Int) ∣ p := by rw [e]; exact Int.gcd_dvd_right _ _
    exact Int.tmod_eq_zero_of_dvd (Int.natAbs_dvd.1 h2)
  · intro h
    have h2 : q ∣ p := Int.dvd_of_tmod_eq_zero h
    have e : Int.gcd q p = q.natAbs := Nat.gcd_eq_left (Int.natAbs_dvd_natAbs.2 h2)
    rw [e]; exact Nat.div_self (by omega)
theorem frac_times {p q c : Int} (hc : c ≠ 0) : Rat.divInt p q = Rat.divInt (p * c) (q * c) := (Rat.divInt_mul_right hc).symm
theorem sub_zero_cmp (x y : Rat) : rcmp (x - y) ((0 : Int) : Rat) = rcmp x y := by
  rcases (by grind : x < y ∨ x = y ∨ y < x) with h | h | h
  · rw [rcmp_lt h, rcmp_lt (show x - y < ((0 : Int) : Rat) by have : ((0 : Int) : Rat) = 0 := rfl; rw [this]; grind)]
  · rw [rcmp_same h, rcmp_same (show x - y = ((0 : Int) : Rat) by have : ((0 : Int) : Rat) = 0 := rfl; rw [this]; grind)]
  · rw [rcmp_gt h, rcmp_gt (show ((0 : Int) : Rat) < x - y by have : ((0 : Int) : Rat) = 0 := rfl; rw [this]; grind)]
theorem one_rat : ((1 : Int) : Rat) = 1 := rfl
theorem floor_le1 (x : Rat) : ((x.floor : Int) : Rat) ≤ x := Rat.floor_le x
theorem floor_lt1 (x : Rat) : x < ((x.floor : Int) : Rat) + ((1 : Int) : Rat) := by
  have := Rat.lt_floor (x := x)
  rw [one_rat]; grind
theorem ceil_ge1 (x : Rat) : x ≤ ((x.ceil : Int) : Rat) := Rat.le_ceil
theorem ceil_lt1 (x : Rat) : ((x.ceil : Int) : Rat) - ((1 : Int) : Rat) < x := by
  have h := floor_lt1 (-x)
  rw [one_rat] at *
  rw [Rat.ceil_eq_neg_floor_neg]
  have : (((-(-x).floor : Int)) : Rat) = -(((-x).floor : Int) : Rat) := Rat.intCast_neg _
  rw [this]; grind
theorem rcmp_le {x y : Rat} {z : Int} (h : rcmp x y = z) (hxy : x ≤ y) : decide (z ≤ 0) = true := by
  subst h
  rcases (by grind : x < y ∨ x = y) with h | h
  · rw [rcmp_lt h]; rfl
  · rw [rcmp_same h]; rfl
theorem rcmp_ge {x y : Rat} {z : Int} (h : rcmp x y = z) (hxy : y ≤ x) : decide (0 ≤ z) = true := by
  subst h
  rcases (by grind : y < x ∨ x = y) with h | h
  · rw [rcmp_gt h]; rfl
  · rw [rcmp_same h]; rfl
theorem ends_same (x : Rat) : (((x.floor : Int) : Rat) = ((x.ceil : Int) : Rat)) ↔ x.den = 1 := by
  constructor
  · intro h
    have e : x = ((x.floor : Int) : Rat) := by have := floor_le1 x; have := ceil_ge1 x; grind
    rw [e]; rfl
  · intro h
    have e : x = ((x.num : Int) : Rat) := Rat.ext rfl h
    rw [e, Rat.floor_intCast, Rat.ceil_intCast]
theorem add_sub_self (x y : Rat) : x + y - y = x := by grind
theorem add_times (x y u : Rat) : (x + y) * u = x * u + y * u := Rat.add_mul x y u
theorem add_neg_self (x : Rat) : x + -x = ((0 : Int) : Rat) := by
  have : ((0 : Int) : Rat) = 0 := rfl
  rw [this]; grind
theorem div_times {x y : Rat} (h : y ≠ 0) : x / y * y = x := Rat.div_mul_cancel h
theorem div_none {x y : Rat} (h : y = 0) : x / y = 0 := by rw [h, Rat.div_def, Rat.inv_zero, Rat.mul_zero]
end M
end Go.Proofs.YtkjfeedclaedfaaGreat
