/-
  Layer 11's laws: SortLets, with the reference's calls.
-/
import Derived.Test.YtgkofipifjfjhaaGreatDoorSLLets
import Derived.Test.YtgkofipifjfjhaaGreatDoorSOpen
import Derived.Test.YtgkofipifjfjhaaGreatDoorSTOpen
import Derived.Test.YtgkofipifjfjhaaGreatDoorQTIs
import Derived.Test.YtgkofipifjfjhaaGreatDoorQVForm
import Derived.Test.YtgkofipifjfjhaaGreatDoorJQC
import Derived.Test.YtgkofipifjfjhaaGreatDoorJKF
namespace Go.Proofs.YtgkofipifjfjhaaGreatDoor.Q
set_option linter.unusedSimpArgs false
set_option linter.unusedVariables false
open Go.RowKit

theorem letsC : LetsC where
 count := fun t {_} {_} h => rCount_n t h
 is_ := fun t {_} {_} h hx => M.isT_isU t ▸ rIs_n t h hx
 same := fun t {_} {_} {_} h h' => rkSame_t h h'
end Go.Proofs.YtgkofipifjfjhaaGreatDoor.Q
