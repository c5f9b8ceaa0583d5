/-
  The shape of what is worth a number; Euclid's parts.
-/
import Derived.Test.YtaoboilkpgphaaaDoorZInner
namespace Go.Proofs.YtaoboilkpgphaaaDoor
set_option linter.unusedSimpArgs false
set_option linter.unusedVariables false
open Go.RowKit
namespace M
theorem euclid_parts (a b : Int) : (a.fdiv b.natAbs).natAbs = (a / b).natAbs ∧ ((a / b).natAbs ≠ 0 → (a.fdiv b.natAbs).sign * b.sign = (a / b).sign) := by
 rw [(euclid_of a b).1]
 rcases sign_cases b with ⟨hb, eb⟩ | ⟨hb, eb⟩ | ⟨hb, eb⟩
 ·rw [eb]
  exact ⟨by rw [Int.natAbs_mul]; simp, fun _ => by rw [Int.sign_mul]; rfl⟩
 ·subst hb; simp
 ·rw [eb]
  exact ⟨by rw [Int.natAbs_mul]; simp, fun _ => by rw [Int.sign_mul]; rfl⟩
end M
theorem Worth.shape {w : World} {v : Value} {Z : Int} {k : Nat} (h : Worth w v Z k) : ∃ g A n c, v = .agg #[.bool g, .slice A n c] := by
 obtain ⟨g, A, n, c, _, e, _⟩ := h
 exact ⟨g, A, n, c, e⟩
theorem Worth.wide {w : World} {v : Value} {Z : Int} {j k : Nat} (h : Worth w v Z j) (hk : j ≤ k) : Worth w v Z k := by
 obtain ⟨g, A, n, c, l, h1, h2, h3, h4⟩ := h; exact ⟨g, A, n, c, l, h1, h2, Nat.le_trans h3 hk, h4⟩
end Go.Proofs.YtaoboilkpgphaaaDoor

