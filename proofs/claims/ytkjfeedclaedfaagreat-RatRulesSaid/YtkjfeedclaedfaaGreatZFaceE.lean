/-
  Contracts of package whole's face, over what values are worth.
-/
import Derived.Test.YtkjfeedclaedfaaGreatJZ
namespace Go.Proofs.YtkjfeedclaedfaaGreat
open Go.RowKit
set_option linter.unusedSimpArgs false
set_option linter.unusedVariables false

end Go.Proofs.YtkjfeedclaedfaaGreat
