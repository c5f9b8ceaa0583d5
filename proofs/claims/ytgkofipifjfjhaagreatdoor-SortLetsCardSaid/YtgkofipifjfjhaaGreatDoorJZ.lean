/-
  Contracts of package whole: a number of 64 bits as an integer; rounding down.
-/
import Derived.Test.YtgkofipifjfjhaaGreatDoorJZI
namespace Go.Proofs.YtgkofipifjfjhaaGreatDoor
open Go.RowKit
set_option linter.unusedSimpArgs false
set_option linter.unusedVariables false

end Go.Proofs.YtgkofipifjfjhaaGreatDoor

/-
  The shape of what is worth a number; Euclid's parts.
-/
namespace Go.Proofs.YtgkofipifjfjhaaGreatDoor
set_option linter.unusedSimpArgs false
set_option linter.unusedVariables false
open Go.RowKit
namespace M
end M
theorem Worth.shape {w : World} {v : Value} {Z : Int} {k : Nat} (h : Worth w v Z k) : ∃ g A n c, v = .agg #[.bool g, .slice A n c] := by
 obtain ⟨g, A, n, c, _, e, _⟩ := h
 exact ⟨g, A, n, c, e⟩
theorem Worth.wide {w : World} {v : Value} {Z : Int} {j k : Nat} (h : Worth w v Z j) (hk : j ≤ k) : Worth w v Z k := by
 obtain ⟨g, A, n, c, l, h1, h2, h3, h4⟩ := h; exact ⟨g, A, n, c, l, h1, h2, Nat.le_trans h3 hk, h4⟩
end Go.Proofs.YtgkofipifjfjhaaGreatDoor

