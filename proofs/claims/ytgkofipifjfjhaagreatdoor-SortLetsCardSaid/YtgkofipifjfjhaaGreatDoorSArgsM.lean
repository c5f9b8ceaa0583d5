/-
  Layer 11's laws, mathematics: what is said of SortArgs' trees.
-/
import Derived.Test.YtgkofipifjfjhaaGreatDoorJSF
namespace Go.Proofs.YtgkofipifjfjhaaGreatDoor.Q
set_option linter.unusedSimpArgs false
set_option linter.unusedVariables false
open Go.RowKit
namespace M
theorem rTerm_ok (hb : List UInt8 → Bool) (l : List Sg) (t : T) : okR (rTerm hb l t) := by
 unfold rTerm
 split
 ·exact rd_ok _ _ _ _ _ goodB_nil
 ·exact okR_err (by decide)
/- SortWords: the operators' words, by number. -/
end M
end Go.Proofs.YtgkofipifjfjhaaGreatDoor.Q
