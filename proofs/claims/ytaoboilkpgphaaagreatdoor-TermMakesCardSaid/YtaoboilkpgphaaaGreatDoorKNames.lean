/-
  Layer 10, the reference: a term's names.
-/
import Derived.Test.YtaoboilkpgphaaaGreatDoorJKD
import Derived.Test.YtaoboilkpgphaaaGreatDoorJKD
namespace Go.Proofs.YtaoboilkpgphaaaGreatDoor.Q
set_option linter.unusedSimpArgs false
set_option linter.unusedVariables false
open Go.RowKit

theorem Ext.trans_below {a b c : World} (h : Ext a b) (k : Below a.heap.size b c) : Ext a c := Below.trans (B := a.heap.size) h k
/-- What the search keeps. -/
def RoundP (w1 : World) (nm : List UInt8) (B : Option Addr) (m bd : Nat) (so : Int) (l : List M.Sg) (k : Nat) (wr : World) : Prop :=
 M.kPre nm l k ∧ Box wr w1.heap.size #[str nm, .slice B m bd, .int .i64 so] 24 ∧ Ext w1 wr
end Go.Proofs.YtaoboilkpgphaaaGreatDoor.Q
