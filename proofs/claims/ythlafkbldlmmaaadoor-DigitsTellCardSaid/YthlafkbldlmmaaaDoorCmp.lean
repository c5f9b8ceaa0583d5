/-
  Contracts: which of two rows is greater.
-/
import Derived.Test.YthlafkbldlmmaaaDoorOf
namespace Go.Proofs.YthlafkbldlmmaaaDoor
set_option linter.unusedSimpArgs false
set_option linter.unusedVariables false
open Go.RowKit

theorem quiet_add_left {P : Program} {f : FuncId} {args : Array Value} {w : World} {a n : Nat} {v : Value}
    (h : Calls P f args (w.drewN (a + n)) fun e w' => e = .returned v ∧ w.drewN (a + n) = w') :
    Calls P f args (w.drewN (a + n)) fun e w'' => e = .returned v ∧ ∃ m, w'' = w.drewN (a + m) :=
  h.mono fun _ _ ⟨he, hm⟩ => ⟨he, n, hm.symm⟩
theorem drew3 (w : World) (p q r : Nat) : ∃ k, ((w.drewN p).drewN q).drewN r = w.drewN k := ⟨p + q + r, by rw [World.drewN_drewN, World.drewN_drewN, Nat.add_assoc]⟩
end Go.Proofs.YthlafkbldlmmaaaDoor
