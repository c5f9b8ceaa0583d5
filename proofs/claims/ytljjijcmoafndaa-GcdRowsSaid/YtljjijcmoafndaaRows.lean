/-
  No cell of these rows narrows 'for every input' (looked for: loops, veiled, ifaces, maps, wideKeys, modest, calm, conditions, laid).
  DERIVED. THE GIVEN ROWS OF THIS SEAT. 5 by the template 'for every input the law returns true; each argument reads behind the call as it read before'; 0 by the template 'total and deterministic' (their statements: YtljjijcmoafndaaTotals.lean).
  GIVEN WITH THE SEED: the statements are not yours to turn. If you find one false, say at which input.
  Laid BY PROGRAM, IN A SANDBOX (cutbox-rows.mjs): the forced cells as the released guide's own fill.sh prints them over the translation 9274b3c4785a4fbd… (all of the seat's roots in one cut). By AI agents, Wed Nov 11 2026. No macro, syntax, notation, axiom, sorry.
-/
import Derived.Test.YtljjijcmoafndaaChecked
import GoSem.Claim
import GoSem.ClaimJoined
import GoSem.ClaimMapViews
import Derived.JoinedTies
import Derived.KernelRfl
namespace Go.Proofs.Ytljjijcmoafndaa
/- THE CELL 'sum', in the pinned program and in every row, IS THE sha256 OF THE DUMP (.gsa) THAT YtljjijcmoafndaaProg.lean LOADS. Nothing in Lean hashes anything: it is a label: what it is worth is what the hold of that sum in a sandbox is worth. -/
noncomputable def Try.pinned : Pinned := { name := "ytljjijcmoafndaa", sum := "9274b3c4785a4fbd56652d14a028a0eb2a37c7784bca6d6feb846772e70677f9", checked := Try.checked }
namespace Rows
def none {H : Type} : Left H := { results := [], args := [] }

/-- 'mullionlaw4.GcdTells': WHATEVER THE INPUT: true; the input reads as it did. -/
def gcdTellsSpec : ChangeSpec := { name := "gcdTells", fn := fun _ => fun
  | [d1, d2, d3] => { results := [.lit (.bool true)], args := [d1, d2, d3] }
  | _ => none }
def gcdTellsRow : OpenClaim := { program := "ytljjijcmoafndaa", sum := "9274b3c4785a4fbd56652d14a028a0eb2a37c7784bca6d6feb846772e70677f9", func := "mullion/mullionlaw4.GcdTells", spec := "gcdTells", inPlace := ["math/bits.Add64"], recurses := true, named := ["math/bits.divideError", "math/bits.overflowError"], apart := false }
def GcdTellsSaid : Prop := gcdTellsRow.holds Try.pinned (OpenSpec.ofChange gcdTellsSpec)

/-- ITS FALSE NEIGHBOUR: 'it returns false'. Refute it at one input. -/
def gcdTellsWrong : ChangeSpec := { name := "gcdTells", fn := fun _ => fun
  | [d1, d2, d3] => { results := [.lit (.bool false)], args := [d1, d2, d3] }
  | _ => none }
def GcdTellsWrongFalsely : Prop := gcdTellsRow.holds Try.pinned (OpenSpec.ofChange gcdTellsWrong)

/-- 'mullionlaw4.GcdExt': WHATEVER THE INPUT: true; the input reads as it did. -/
def gcdExtSpec : ChangeSpec := { name := "gcdExt", fn := fun _ => fun
  | [d1, d2] => { results := [.lit (.bool true)], args := [d1, d2] }
  | _ => none }
def gcdExtRow : OpenClaim := { program := "ytljjijcmoafndaa", sum := "9274b3c4785a4fbd56652d14a028a0eb2a37c7784bca6d6feb846772e70677f9", func := "mullion/mullionlaw4.GcdExt", spec := "gcdExt", inPlace := ["math/bits.Add64"], recurses := true, named := ["math/bits.divideError", "math/bits.overflowError"], apart := false }
def GcdExtSaid : Prop := gcdExtRow.holds Try.pinned (OpenSpec.ofChange gcdExtSpec)

/-- ITS FALSE NEIGHBOUR: 'it returns false'. Refute it at one input. -/
def gcdExtWrong : ChangeSpec := { name := "gcdExt", fn := fun _ => fun
  | [d1, d2] => { results := [.lit (.bool false)], args := [d1, d2] }
  | _ => none }
def GcdExtWrongFalsely : Prop := gcdExtRow.holds Try.pinned (OpenSpec.ofChange gcdExtWrong)

/-- 'mullionlaw4.GcdDivides': WHATEVER THE INPUT: true; the input reads as it did. -/
def gcdDividesSpec : ChangeSpec := { name := "gcdDivides", fn := fun _ => fun
  | [d1, d2, d3] => { results := [.lit (.bool true)], args := [d1, d2, d3] }
  | _ => none }
def gcdDividesRow : OpenClaim := { program := "ytljjijcmoafndaa", sum := "9274b3c4785a4fbd56652d14a028a0eb2a37c7784bca6d6feb846772e70677f9", func := "mullion/mullionlaw4.GcdDivides", spec := "gcdDivides", inPlace := ["math/bits.Add64"], recurses := true, named := ["math/bits.divideError", "math/bits.overflowError"], apart := false }
def GcdDividesSaid : Prop := gcdDividesRow.holds Try.pinned (OpenSpec.ofChange gcdDividesSpec)

/-- ITS FALSE NEIGHBOUR: 'it returns false'. Refute it at one input. -/
def gcdDividesWrong : ChangeSpec := { name := "gcdDivides", fn := fun _ => fun
  | [d1, d2, d3] => { results := [.lit (.bool false)], args := [d1, d2, d3] }
  | _ => none }
def GcdDividesWrongFalsely : Prop := gcdDividesRow.holds Try.pinned (OpenSpec.ofChange gcdDividesWrong)

/-- 'mullionlaw4.GcdSteps': WHATEVER THE INPUT: true; the input reads as it did. -/
def gcdStepsSpec : ChangeSpec := { name := "gcdSteps", fn := fun _ => fun
  | [d1, d2, d3] => { results := [.lit (.bool true)], args := [d1, d2, d3] }
  | _ => none }
def gcdStepsRow : OpenClaim := { program := "ytljjijcmoafndaa", sum := "9274b3c4785a4fbd56652d14a028a0eb2a37c7784bca6d6feb846772e70677f9", func := "mullion/mullionlaw4.GcdSteps", spec := "gcdSteps", inPlace := ["math/bits.Add64"], recurses := true, named := ["math/bits.divideError", "math/bits.overflowError"], apart := false }
def GcdStepsSaid : Prop := gcdStepsRow.holds Try.pinned (OpenSpec.ofChange gcdStepsSpec)

/-- ITS FALSE NEIGHBOUR: 'it returns false'. Refute it at one input. -/
def gcdStepsWrong : ChangeSpec := { name := "gcdSteps", fn := fun _ => fun
  | [d1, d2, d3] => { results := [.lit (.bool false)], args := [d1, d2, d3] }
  | _ => none }
def GcdStepsWrongFalsely : Prop := gcdStepsRow.holds Try.pinned (OpenSpec.ofChange gcdStepsWrong)

/-- 'mullionlaw4.GcdRows': WHATEVER THE INPUT: true; the input reads as it did. -/
def gcdRowsSpec : ChangeSpec := { name := "gcdRows", fn := fun _ => fun
  | [d1, d2] => { results := [.lit (.bool true)], args := [d1, d2] }
  | _ => none }
def gcdRowsRow : OpenClaim := { program := "ytljjijcmoafndaa", sum := "9274b3c4785a4fbd56652d14a028a0eb2a37c7784bca6d6feb846772e70677f9", func := "mullion/mullionlaw4.GcdRows", spec := "gcdRows", inPlace := ["math/bits.Add64"], recurses := true, named := ["math/bits.divideError", "math/bits.overflowError"], apart := false }
def GcdRowsSaid : Prop := gcdRowsRow.holds Try.pinned (OpenSpec.ofChange gcdRowsSpec)

/-- ITS FALSE NEIGHBOUR: 'it returns false'. Refute it at one input. -/
def gcdRowsWrong : ChangeSpec := { name := "gcdRows", fn := fun _ => fun
  | [d1, d2] => { results := [.lit (.bool false)], args := [d1, d2] }
  | _ => none }
def GcdRowsWrongFalsely : Prop := gcdRowsRow.holds Try.pinned (OpenSpec.ofChange gcdRowsWrong)

/- THE SECOND FORM. 'bulk': how many values and letters a reading holds, each counted each time it is reached (what is shared counts as often as it is met; a slice's spare places count too). A statement '..UptoSaid' is the law's where the arguments, and the package variables that the reading takes, are together of bulk at most 1048576: NARROWER than '..Said'. Prove '..Said' where nothing that the law and all that it calls make is longer than what came in: it says more and counts as full. Else prove '..UptoSaid'. A law counts once. -/
mutual
def uptoBulk {H : Type} : DataW H → Nat
  | .lit (.string bytes) => bytes.length + 1
  | .lit _ => 1
  | .nil => 1
  | .ptr d => uptoBulk d + 1
  | .slice elems spare => uptoBulkAll elems + uptoBulkAll spare + 1
  | .agg parts => uptoBulkAll parts + 1
  | .iface _ d => uptoBulk d + 1
  | .map entries => uptoBulkEntries entries + 1
  | .held _ => 1
def uptoBulkAll {H : Type} : List (DataW H) → Nat
  | [] => 0
  | d :: r => uptoBulk d + uptoBulkAll r
def uptoBulkEntries {H : Type} : List (Lit × DataW H) → Nat
  | [] => 0
  | x :: r => uptoBulkEntry x + uptoBulkEntries r
def uptoBulkEntry {H : Type} : Lit × DataW H → Nat
  | (.string bytes, d) => bytes.length + uptoBulk d + 1
  | (_, d) => uptoBulk d + 1
 end
def uptoSmall : (H : Type) → List (DataW H) → Bool := fun _ ds => decide (uptoBulkAll ds ≤ 1048576)
def OpenSpec.upto (s : _root_.Go.ChangeSpec) : _root_.Go.OpenSpec := { _root_.Go.OpenSpec.ofChange s with cond := some uptoSmall }

/-- 'mullionlaw4.GcdTells', WHERE WHAT IT READS IS OF BULK AT MOST 1048576: true; the input reads as it did. -/
def gcdTellsUptoRow : OpenClaim := { program := "ytljjijcmoafndaa", sum := "9274b3c4785a4fbd56652d14a028a0eb2a37c7784bca6d6feb846772e70677f9", func := "mullion/mullionlaw4.GcdTells", spec := "gcdTells", inPlace := ["math/bits.Add64"], recurses := true, named := ["math/bits.divideError", "math/bits.overflowError"], apart := false, narrowed := true }
def GcdTellsUptoSaid : Prop := gcdTellsUptoRow.holds Try.pinned (OpenSpec.upto gcdTellsSpec)

/-- 'mullionlaw4.GcdExt', WHERE WHAT IT READS IS OF BULK AT MOST 1048576: true; the input reads as it did. -/
def gcdExtUptoRow : OpenClaim := { program := "ytljjijcmoafndaa", sum := "9274b3c4785a4fbd56652d14a028a0eb2a37c7784bca6d6feb846772e70677f9", func := "mullion/mullionlaw4.GcdExt", spec := "gcdExt", inPlace := ["math/bits.Add64"], recurses := true, named := ["math/bits.divideError", "math/bits.overflowError"], apart := false, narrowed := true }
def GcdExtUptoSaid : Prop := gcdExtUptoRow.holds Try.pinned (OpenSpec.upto gcdExtSpec)

/-- 'mullionlaw4.GcdDivides', WHERE WHAT IT READS IS OF BULK AT MOST 1048576: true; the input reads as it did. -/
def gcdDividesUptoRow : OpenClaim := { program := "ytljjijcmoafndaa", sum := "9274b3c4785a4fbd56652d14a028a0eb2a37c7784bca6d6feb846772e70677f9", func := "mullion/mullionlaw4.GcdDivides", spec := "gcdDivides", inPlace := ["math/bits.Add64"], recurses := true, named := ["math/bits.divideError", "math/bits.overflowError"], apart := false, narrowed := true }
def GcdDividesUptoSaid : Prop := gcdDividesUptoRow.holds Try.pinned (OpenSpec.upto gcdDividesSpec)

/-- 'mullionlaw4.GcdSteps', WHERE WHAT IT READS IS OF BULK AT MOST 1048576: true; the input reads as it did. -/
def gcdStepsUptoRow : OpenClaim := { program := "ytljjijcmoafndaa", sum := "9274b3c4785a4fbd56652d14a028a0eb2a37c7784bca6d6feb846772e70677f9", func := "mullion/mullionlaw4.GcdSteps", spec := "gcdSteps", inPlace := ["math/bits.Add64"], recurses := true, named := ["math/bits.divideError", "math/bits.overflowError"], apart := false, narrowed := true }
def GcdStepsUptoSaid : Prop := gcdStepsUptoRow.holds Try.pinned (OpenSpec.upto gcdStepsSpec)

/-- 'mullionlaw4.GcdRows', WHERE WHAT IT READS IS OF BULK AT MOST 1048576: true; the input reads as it did. -/
def gcdRowsUptoRow : OpenClaim := { program := "ytljjijcmoafndaa", sum := "9274b3c4785a4fbd56652d14a028a0eb2a37c7784bca6d6feb846772e70677f9", func := "mullion/mullionlaw4.GcdRows", spec := "gcdRows", inPlace := ["math/bits.Add64"], recurses := true, named := ["math/bits.divideError", "math/bits.overflowError"], apart := false, narrowed := true }
def GcdRowsUptoSaid : Prop := gcdRowsUptoRow.holds Try.pinned (OpenSpec.upto gcdRowsSpec)

end Rows
end Go.Proofs.Ytljjijcmoafndaa
