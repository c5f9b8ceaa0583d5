/-
  Contracts of package whole's face, over what values are worth.
-/
import Derived.Test.YtklmnmkmpkobhaaGreatJZ
namespace Go.Proofs.YtklmnmkmpkobhaaGreat
open Go.RowKit
set_option linter.unusedSimpArgs false
set_option linter.unusedVariables false

end Go.Proofs.YtklmnmkmpkobhaaGreat
