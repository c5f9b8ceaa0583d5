/-
  Contracts of the reference's integers, over what values are worth.
-/
import Derived.Test.YtklmnmkmpkobhaaGreatRZA
namespace Go.Proofs.YtklmnmkmpkobhaaGreat
open Go.RowKit
set_option linter.unusedSimpArgs false
set_option linter.unusedVariables false

theorem M.zcmp_neg {a b : Int} (ha : a < 0) (hb : b < 0) : M.cmp b.natAbs a.natAbs = M.zcmp a b := by
 rcases (by omega : a < b ∨ b < a ∨ a = b) with h | h | h
 ·rw [M.zcmp_lt h, M.cmp_lt (by omega)]
 ·rw [M.zcmp_gt h, M.cmp_gt (by omega)]
 ·subst h; rw [M.zcmp_same rfl, M.cmp_self]
theorem M.zcmp_pos {a b : Int} (ha : ¬ a < 0) (hb : ¬ b < 0) : M.cmp a.natAbs b.natAbs = M.zcmp a b := by
 rcases (by omega : a < b ∨ b < a ∨ a = b) with h | h | h
 ·rw [M.zcmp_lt h, M.cmp_lt (by omega)]
 ·rw [M.zcmp_gt h, M.cmp_gt (by omega)]
 ·subst h; rw [M.zcmp_same rfl, M.cmp_self]
end Go.Proofs.YtklmnmkmpkobhaaGreat
