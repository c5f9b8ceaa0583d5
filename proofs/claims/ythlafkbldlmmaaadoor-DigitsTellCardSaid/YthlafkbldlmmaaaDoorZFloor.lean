/-
  Contracts of package whole: a number of 64 bits as an integer; rounding down.
-/
import Derived.Test.YthlafkbldlmmaaaDoorZInner
namespace Go.Proofs.YthlafkbldlmmaaaDoor
open Go.RowKit
set_option linter.unusedSimpArgs false
set_option linter.unusedVariables false

def GivesI2 (w : World) (X : Int) (j : Nat) (Y : Int) (k : Nat) (e : Ending) (w' : World) : Prop := ∃ u v, e = .returned (.tuple #[u, v]) ∧ InZ w' u X j ∧ InZ w' v Y k ∧ Ext w w'
def GivesZ2 (w : World) (X : Int) (j : Nat) (Y : Int) (k : Nat) (e : Ending) (w' : World) : Prop := ∃ u v, e = .returned (.tuple #[u, v]) ∧ IsZ w' u X j ∧ IsZ w' v Y k ∧ Ext w w'

end Go.Proofs.YthlafkbldlmmaaaDoor
