/-
  Layer 10, the reference: Sigs.
-/
import Derived.Test.YtaoboilkpgphaaaGreatDoorKNames
namespace Go.Proofs.YtaoboilkpgphaaaGreatDoor.Q
set_option linter.unusedSimpArgs false
set_option linter.unusedVariables false
open Go.RowKit

namespace M
/-- A term's names. -/
def kSigs (t : Tm) : List Sg × Bool := ksigs t ([], true)
theorem kSigs_len (t : Tm) : (kSigs t).1.length ≤ kcnt t := by
 have := ksigs_len t ([], true)
 simpa [kSigs] using this
end M
end Go.Proofs.YtaoboilkpgphaaaGreatDoor.Q
