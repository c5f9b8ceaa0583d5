/-
  No cell of these rows narrows 'for every input' (looked for: loops, veiled, ifaces, maps, wideKeys, modest, calm, conditions, laid).
  DERIVED. THE GIVEN ROWS OF THIS SEAT. 6 by the template 'for every input the law returns true; each argument reads behind the call as it read before'; 0 by the template 'total and deterministic' (their statements: YtklmnmkmpkobhaaGreatTotals.lean).
  GIVEN WITH THE SEED: the statements are not yours to turn. If you find one false, say at which input.
  Laid BY PROGRAM, IN A SANDBOX (cutbox-rows.mjs): the forced cells as the released guide's own fill.sh prints them over the translation b2242ccfad1bebaa… (all of the seat's roots in one cut). By AI agents, Wed Nov 11 2026. No macro, syntax, notation, axiom, sorry.
-/
import Derived.Test.YtklmnmkmpkobhaaGreatChecked
import GoSem.Claim
import GoSem.ClaimJoined
import GoSem.ClaimMapViews
import Derived.JoinedTies
import Derived.KernelRfl
namespace Go.Proofs.YtklmnmkmpkobhaaGreat
/- THE CELL 'sum', in the pinned program and in every row, IS THE sha256 OF THE DUMP (.gsa) THAT YtklmnmkmpkobhaaGreatProg.lean LOADS. Nothing in Lean hashes anything: it is a label: what it is worth is what the hold of that sum in a sandbox is worth. -/
noncomputable def Tryz.pinned : Pinned := { name := "ytklmnmkmpkobhaagreat", sum := "b2242ccfad1bebaa1b9f7faee00deac3fa6a29d72db96a149063b368d4c75177", checked := Tryz.checked }
namespace Rows
def none {H : Type} : Left H := { results := [], args := [] }

/-- 'mullionlaw6.LinTells': WHATEVER THE INPUT: true; the input reads as it did. -/
def linTellsSpec : ChangeSpec := { name := "linTells", fn := fun _ => fun
  | [d1, d2, d3, d4, d5] => { results := [.lit (.bool true)], args := [d1, d2, d3, d4, d5] }
  | _ => none }
def linTellsRow : OpenClaim := { program := "ytklmnmkmpkobhaagreat", sum := "b2242ccfad1bebaa1b9f7faee00deac3fa6a29d72db96a149063b368d4c75177", func := "mullion/mullionlaw6.LinTells", spec := "linTells", inPlace := ["math/bits.Add64"], unfollowed := true, recurses := true, named := ["math/bits.divideError", "math/bits.overflowError"], apart := false }
def LinTellsSaid : Prop := linTellsRow.holds Tryz.pinned (OpenSpec.ofChange linTellsSpec)

/-- ITS FALSE NEIGHBOUR: 'it returns false'. Refute it at one input. -/
def linTellsWrong : ChangeSpec := { name := "linTells", fn := fun _ => fun
  | [d1, d2, d3, d4, d5] => { results := [.lit (.bool false)], args := [d1, d2, d3, d4, d5] }
  | _ => none }
def LinTellsWrongFalsely : Prop := linTellsRow.holds Tryz.pinned (OpenSpec.ofChange linTellsWrong)

/-- 'mullionlaw6.LinValues': WHATEVER THE INPUT: true; the input reads as it did. -/
def linValuesSpec : ChangeSpec := { name := "linValues", fn := fun _ => fun
  | [d1, d2, d3, d4, d5] => { results := [.lit (.bool true)], args := [d1, d2, d3, d4, d5] }
  | _ => none }
def linValuesRow : OpenClaim := { program := "ytklmnmkmpkobhaagreat", sum := "b2242ccfad1bebaa1b9f7faee00deac3fa6a29d72db96a149063b368d4c75177", func := "mullion/mullionlaw6.LinValues", spec := "linValues", inPlace := ["math/bits.Add64"], unfollowed := true, recurses := true, named := ["math/bits.divideError", "math/bits.overflowError"], apart := false }
def LinValuesSaid : Prop := linValuesRow.holds Tryz.pinned (OpenSpec.ofChange linValuesSpec)

/-- ITS FALSE NEIGHBOUR: 'it returns false'. Refute it at one input. -/
def linValuesWrong : ChangeSpec := { name := "linValues", fn := fun _ => fun
  | [d1, d2, d3, d4, d5] => { results := [.lit (.bool false)], args := [d1, d2, d3, d4, d5] }
  | _ => none }
def LinValuesWrongFalsely : Prop := linValuesRow.holds Tryz.pinned (OpenSpec.ofChange linValuesWrong)

/-- 'mullionlaw7.BelowTells': WHATEVER THE INPUT: true; the input reads as it did. -/
def belowTellsSpec : ChangeSpec := { name := "belowTells", fn := fun _ => fun
  | [d1, d2, d3] => { results := [.lit (.bool true)], args := [d1, d2, d3] }
  | _ => none }
def belowTellsRow : OpenClaim := { program := "ytklmnmkmpkobhaagreat", sum := "b2242ccfad1bebaa1b9f7faee00deac3fa6a29d72db96a149063b368d4c75177", func := "mullion/mullionlaw7.BelowTells", spec := "belowTells", inPlace := ["math/bits.Add64"], unfollowed := true, recurses := true, named := ["math/bits.divideError", "math/bits.overflowError"], apart := false }
def BelowTellsSaid : Prop := belowTellsRow.holds Tryz.pinned (OpenSpec.ofChange belowTellsSpec)

/-- ITS FALSE NEIGHBOUR: 'it returns false'. Refute it at one input. -/
def belowTellsWrong : ChangeSpec := { name := "belowTells", fn := fun _ => fun
  | [d1, d2, d3] => { results := [.lit (.bool false)], args := [d1, d2, d3] }
  | _ => none }
def BelowTellsWrongFalsely : Prop := belowTellsRow.holds Tryz.pinned (OpenSpec.ofChange belowTellsWrong)

/-- 'mullionlaw7.BelowSame': WHATEVER THE INPUT: true; the input reads as it did. -/
def belowSameSpec : ChangeSpec := { name := "belowSame", fn := fun _ => fun
  | [d1, d2] => { results := [.lit (.bool true)], args := [d1, d2] }
  | _ => none }
def belowSameRow : OpenClaim := { program := "ytklmnmkmpkobhaagreat", sum := "b2242ccfad1bebaa1b9f7faee00deac3fa6a29d72db96a149063b368d4c75177", func := "mullion/mullionlaw7.BelowSame", spec := "belowSame", inPlace := ["math/bits.Add64"], unfollowed := true, recurses := true, named := ["math/bits.divideError", "math/bits.overflowError"], apart := false }
def BelowSameSaid : Prop := belowSameRow.holds Tryz.pinned (OpenSpec.ofChange belowSameSpec)

/-- ITS FALSE NEIGHBOUR: 'it returns false'. Refute it at one input. -/
def belowSameWrong : ChangeSpec := { name := "belowSame", fn := fun _ => fun
  | [d1, d2] => { results := [.lit (.bool false)], args := [d1, d2] }
  | _ => none }
def BelowSameWrongFalsely : Prop := belowSameRow.holds Tryz.pinned (OpenSpec.ofChange belowSameWrong)

/-- 'mullionlaw7.BelowRounds': WHATEVER THE INPUT: true; the input reads as it did. -/
def belowRoundsSpec : ChangeSpec := { name := "belowRounds", fn := fun _ => fun
  | [d1, d2] => { results := [.lit (.bool true)], args := [d1, d2] }
  | _ => none }
def belowRoundsRow : OpenClaim := { program := "ytklmnmkmpkobhaagreat", sum := "b2242ccfad1bebaa1b9f7faee00deac3fa6a29d72db96a149063b368d4c75177", func := "mullion/mullionlaw7.BelowRounds", spec := "belowRounds", inPlace := ["math/bits.Add64"], unfollowed := true, recurses := true, named := ["math/bits.divideError", "math/bits.overflowError"], apart := false }
def BelowRoundsSaid : Prop := belowRoundsRow.holds Tryz.pinned (OpenSpec.ofChange belowRoundsSpec)

/-- ITS FALSE NEIGHBOUR: 'it returns false'. Refute it at one input. -/
def belowRoundsWrong : ChangeSpec := { name := "belowRounds", fn := fun _ => fun
  | [d1, d2] => { results := [.lit (.bool false)], args := [d1, d2] }
  | _ => none }
def BelowRoundsWrongFalsely : Prop := belowRoundsRow.holds Tryz.pinned (OpenSpec.ofChange belowRoundsWrong)

/-- 'mullionlaw7.BelowBoth': WHATEVER THE INPUT: true; the input reads as it did. -/
def belowBothSpec : ChangeSpec := { name := "belowBoth", fn := fun _ => fun
  | [d1, d2] => { results := [.lit (.bool true)], args := [d1, d2] }
  | _ => none }
def belowBothRow : OpenClaim := { program := "ytklmnmkmpkobhaagreat", sum := "b2242ccfad1bebaa1b9f7faee00deac3fa6a29d72db96a149063b368d4c75177", func := "mullion/mullionlaw7.BelowBoth", spec := "belowBoth", inPlace := ["math/bits.Add64"], unfollowed := true, recurses := true, named := ["math/bits.divideError", "math/bits.overflowError"], apart := false }
def BelowBothSaid : Prop := belowBothRow.holds Tryz.pinned (OpenSpec.ofChange belowBothSpec)

/-- ITS FALSE NEIGHBOUR: 'it returns false'. Refute it at one input. -/
def belowBothWrong : ChangeSpec := { name := "belowBoth", fn := fun _ => fun
  | [d1, d2] => { results := [.lit (.bool false)], args := [d1, d2] }
  | _ => none }
def BelowBothWrongFalsely : Prop := belowBothRow.holds Tryz.pinned (OpenSpec.ofChange belowBothWrong)

/- THE SECOND FORM. 'bulk': how many values and letters a reading holds, each counted each time it is reached (what is shared counts as often as it is met; a slice's spare places count too). A statement '..UptoSaid' is the law's where the arguments, and the package variables that the reading takes, are together of bulk at most 1048576: NARROWER than '..Said'. Prove '..Said' where nothing that the law and all that it calls make is longer than what came in: it says more and counts as full. Else prove '..UptoSaid'. A law counts once. -/
mutual
def uptoBulk {H : Type} : DataW H → Nat
  | .lit (.string bytes) => bytes.length + 1
  | .lit _ => 1
  | .nil => 1
  | .ptr d => uptoBulk d + 1
  | .slice elems spare => uptoBulkAll elems + uptoBulkAll spare + 1
  | .agg parts => uptoBulkAll parts + 1
  | .iface _ d => uptoBulk d + 1
  | .map entries => uptoBulkEntries entries + 1
  | .held _ => 1
def uptoBulkAll {H : Type} : List (DataW H) → Nat
  | [] => 0
  | d :: r => uptoBulk d + uptoBulkAll r
def uptoBulkEntries {H : Type} : List (Lit × DataW H) → Nat
  | [] => 0
  | x :: r => uptoBulkEntry x + uptoBulkEntries r
def uptoBulkEntry {H : Type} : Lit × DataW H → Nat
  | (.string bytes, d) => bytes.length + uptoBulk d + 1
  | (_, d) => uptoBulk d + 1
 end
def uptoSmall : (H : Type) → List (DataW H) → Bool := fun _ ds => decide (uptoBulkAll ds ≤ 1048576)
def OpenSpec.upto (s : _root_.Go.ChangeSpec) : _root_.Go.OpenSpec := { _root_.Go.OpenSpec.ofChange s with cond := some uptoSmall }

/-- 'mullionlaw6.LinTells', WHERE WHAT IT READS IS OF BULK AT MOST 1048576: true; the input reads as it did. -/
def linTellsUptoRow : OpenClaim := { program := "ytklmnmkmpkobhaagreat", sum := "b2242ccfad1bebaa1b9f7faee00deac3fa6a29d72db96a149063b368d4c75177", func := "mullion/mullionlaw6.LinTells", spec := "linTells", inPlace := ["math/bits.Add64"], unfollowed := true, recurses := true, named := ["math/bits.divideError", "math/bits.overflowError"], apart := false, narrowed := true }
def LinTellsUptoSaid : Prop := linTellsUptoRow.holds Tryz.pinned (OpenSpec.upto linTellsSpec)

/-- 'mullionlaw6.LinValues', WHERE WHAT IT READS IS OF BULK AT MOST 1048576: true; the input reads as it did. -/
def linValuesUptoRow : OpenClaim := { program := "ytklmnmkmpkobhaagreat", sum := "b2242ccfad1bebaa1b9f7faee00deac3fa6a29d72db96a149063b368d4c75177", func := "mullion/mullionlaw6.LinValues", spec := "linValues", inPlace := ["math/bits.Add64"], unfollowed := true, recurses := true, named := ["math/bits.divideError", "math/bits.overflowError"], apart := false, narrowed := true }
def LinValuesUptoSaid : Prop := linValuesUptoRow.holds Tryz.pinned (OpenSpec.upto linValuesSpec)

/-- 'mullionlaw7.BelowTells', WHERE WHAT IT READS IS OF BULK AT MOST 1048576: true; the input reads as it did. -/
def belowTellsUptoRow : OpenClaim := { program := "ytklmnmkmpkobhaagreat", sum := "b2242ccfad1bebaa1b9f7faee00deac3fa6a29d72db96a149063b368d4c75177", func := "mullion/mullionlaw7.BelowTells", spec := "belowTells", inPlace := ["math/bits.Add64"], unfollowed := true, recurses := true, named := ["math/bits.divideError", "math/bits.overflowError"], apart := false, narrowed := true }
def BelowTellsUptoSaid : Prop := belowTellsUptoRow.holds Tryz.pinned (OpenSpec.upto belowTellsSpec)

/-- 'mullionlaw7.BelowSame', WHERE WHAT IT READS IS OF BULK AT MOST 1048576: true; the input reads as it did. -/
def belowSameUptoRow : OpenClaim := { program := "ytklmnmkmpkobhaagreat", sum := "b2242ccfad1bebaa1b9f7faee00deac3fa6a29d72db96a149063b368d4c75177", func := "mullion/mullionlaw7.BelowSame", spec := "belowSame", inPlace := ["math/bits.Add64"], unfollowed := true, recurses := true, named := ["math/bits.divideError", "math/bits.overflowError"], apart := false, narrowed := true }
def BelowSameUptoSaid : Prop := belowSameUptoRow.holds Tryz.pinned (OpenSpec.upto belowSameSpec)

/-- 'mullionlaw7.BelowRounds', WHERE WHAT IT READS IS OF BULK AT MOST 1048576: true; the input reads as it did. -/
def belowRoundsUptoRow : OpenClaim := { program := "ytklmnmkmpkobhaagreat", sum := "b2242ccfad1bebaa1b9f7faee00deac3fa6a29d72db96a149063b368d4c75177", func := "mullion/mullionlaw7.BelowRounds", spec := "belowRounds", inPlace := ["math/bits.Add64"], unfollowed := true, recurses := true, named := ["math/bits.divideError", "math/bits.overflowError"], apart := false, narrowed := true }
def BelowRoundsUptoSaid : Prop := belowRoundsUptoRow.holds Tryz.pinned (OpenSpec.upto belowRoundsSpec)

/-- 'mullionlaw7.BelowBoth', WHERE WHAT IT READS IS OF BULK AT MOST 1048576: true; the input reads as it did. -/
def belowBothUptoRow : OpenClaim := { program := "ytklmnmkmpkobhaagreat", sum := "b2242ccfad1bebaa1b9f7faee00deac3fa6a29d72db96a149063b368d4c75177", func := "mullion/mullionlaw7.BelowBoth", spec := "belowBoth", inPlace := ["math/bits.Add64"], unfollowed := true, recurses := true, named := ["math/bits.divideError", "math/bits.overflowError"], apart := false, narrowed := true }
def BelowBothUptoSaid : Prop := belowBothUptoRow.holds Tryz.pinned (OpenSpec.upto belowBothSpec)

end Rows
end Go.Proofs.YtklmnmkmpkobhaaGreat
