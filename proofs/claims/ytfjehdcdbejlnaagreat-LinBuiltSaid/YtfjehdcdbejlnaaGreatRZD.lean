/-
  Contracts of the reference's integers, over what values are worth.
-/
import Derived.Test.YtfjehdcdbejlnaaGreatRZC
namespace Go.Proofs.YtfjehdcdbejlnaaGreat
open Go.RowKit
set_option linter.unusedSimpArgs false
set_option linter.unusedVariables false

namespace M
theorem ref_rest (Z Y : Int) : Z - Z.fdiv Y * Y = Z.fmod Y := by
  have := Int.mul_fdiv_add_fmod Z Y
  rw [Int.mul_comm] at this; omega
theorem sign_nn {Z : Int} (h : 0 ≤ Z) : 0 ≤ Z.sign := by rcases sign_cases Z with ⟨_, e⟩ | ⟨_, e⟩ | ⟨_, e⟩ <;> omega
theorem ref_step {Z Y : Int} (hY : Y ≠ 0) (hd : (decide (Z < 0) != decide (Y < 0)) = true) (hr : Z.natAbs % Y.natAbs ≠ 0) : Z.natAbs / Y.natAbs + 1 = (Z.fdiv Y).natAbs ∧ Z.fdiv Y < 0 := by
  have hz : Z ≠ 0 := by rintro rfl; simp at hr
  have h : Z.sign * Y.sign = -1 ∧ (Z.sign * ((Z.natAbs % Y.natAbs : Nat) : Int)).sign * Y.sign < 0 := by
    by_cases ha : Z < 0 <;> by_cases hb : Y < 0 <;> simp [ha, hb] at hd
    · have e := Int.sign_eq_neg_one_of_neg ha
      have f := Int.sign_eq_one_of_pos (show 0 < Y by omega)
      rw [e, f, Int.sign_eq_neg_one_of_neg (show -1 * ((Z.natAbs % Y.natAbs : Nat) : Int) < 0 by omega)]
      decide
    · have e := Int.sign_eq_one_of_pos (show 0 < Z by omega)
      have f := Int.sign_eq_neg_one_of_neg hb
      rw [e, f, Int.sign_eq_one_of_pos (show 0 < 1 * ((Z.natAbs % Y.natAbs : Nat) : Int) by omega)]
      decide
  have := (floor_step h.2).1
  rw [h.1] at this
  generalize Z.natAbs / Y.natAbs = q at *
  omega
theorem ref_keep {Z Y : Int} (hY : Y ≠ 0) {d : Bool} (hd : (decide (Z < 0) != decide (Y < 0)) = d) (h : d = false ∨ Z.natAbs % Y.natAbs = 0) : Z.natAbs / Y.natAbs = (Z.fdiv Y).natAbs ∧ (Z.natAbs / Y.natAbs ≠ 0 → d = decide (Z.fdiv Y < 0)) := by
  have hk : ¬ (Z.sign * ((Z.natAbs % Y.natAbs : Nat) : Int)).sign * Y.sign < 0 := by
    rcases h with h | h
    · subst h
      by_cases ha : Z < 0 <;> by_cases hb : Y < 0 <;> simp [ha, hb] at hd
      · have e := Int.sign_eq_neg_one_of_neg ha
        have f := Int.sign_eq_neg_one_of_neg hb
        rw [e, f]
        rcases Nat.eq_zero_or_pos (Z.natAbs % Y.natAbs) with h0 | h0
        · rw [h0]; decide
        · rw [Int.sign_eq_neg_one_of_neg (show -1 * ((Z.natAbs % Y.natAbs : Nat) : Int) < 0 by omega)]; decide
      · have f := Int.sign_eq_one_of_pos (show 0 < Y by omega)
        rw [f]
        have : 0 ≤ Z.sign * ((Z.natAbs % Y.natAbs : Nat) : Int) := Int.mul_nonneg (sign_nn (by omega)) (by omega)
        have := sign_nn this
        omega
    · rw [h]; simp
  have e := (floor_keep hk).1
  have q := quo_parts Z Y
  rw [← e] at q
  refine ⟨q.1, fun hn => ?_⟩
  rw [q.1] at hn
  have hs := q.2 hn
  have hz : Z ≠ 0 := by rintro rfl; simp at hn
  have hx := M.sign_neg (Z.fdiv Y)
  rw [← hs] at hx
  subst hd
  by_cases ha : Z < 0 <;> by_cases hb : Y < 0
  · rw [Int.sign_eq_neg_one_of_neg ha, Int.sign_eq_neg_one_of_neg hb] at hx
    rw [decide_eq_true ha, decide_eq_true hb, decide_eq_false (fun h => absurd (hx.2 h) (by decide))]; rfl
  · rw [Int.sign_eq_neg_one_of_neg ha, Int.sign_eq_one_of_pos (show 0 < Y by omega)] at hx
    rw [decide_eq_true ha, decide_eq_false hb, decide_eq_true (hx.1 (by decide))]; rfl
  · rw [Int.sign_eq_one_of_pos (show 0 < Z by omega), Int.sign_eq_neg_one_of_neg hb] at hx
    rw [decide_eq_false ha, decide_eq_true hb, decide_eq_true (hx.1 (by decide))]; rfl
  · rw [Int.sign_eq_one_of_pos (show 0 < Z by omega), Int.sign_eq_one_of_pos (show 0 < Y by omega)] at hx
    rw [decide_eq_false ha, decide_eq_false hb, decide_eq_false (fun h => absurd (hx.2 h) (by decide))]; rfl
end M
theorem Box.row1 {w : World} {g : Nat} {t : TypeId} (h : Box w g #[.int .u32 1] t) : IsN w (.slice (some ⟨g, 0, none⟩) 1 1) 1 1 := by
  have e : M.limbs 1 = [1] := by rw [M.limbs_pos (by decide), show 1 / 1000000000 = 0 from rfl, M.limbs_zero]
  refine ⟨?_, by rw [e]; decide⟩
  rw [e]
  refine ⟨_, 1, 1, rfl, rfl, Nat.le_refl _, by unfold maxLen; omega, by simp, fun _ => ⟨_, rfl, h.lt, fun i x hx => ?_⟩⟩
  rcases i with _ | i
  · simp at hx; subst hx; rw [Addr.add_lit]; exact h.cell (o := 0) rfl
  · simp at hx

end Go.Proofs.YtfjehdcdbejlnaaGreat
