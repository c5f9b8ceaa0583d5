/-
  Contracts of package whole's face, over what values are worth.
-/
import Derived.Test.YtfjehdcdbejlnaaGreatJZ
namespace Go.Proofs.YtfjehdcdbejlnaaGreat
open Go.RowKit
set_option linter.unusedSimpArgs false
set_option linter.unusedVariables false

end Go.Proofs.YtfjehdcdbejlnaaGreat
