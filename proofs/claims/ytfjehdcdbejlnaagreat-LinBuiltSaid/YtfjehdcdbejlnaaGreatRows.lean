/-
  No cell of these rows narrows 'for every input' (looked for: loops, veiled, ifaces, maps, wideKeys, modest, calm, conditions, laid).
  DERIVED. THE GIVEN ROWS OF THIS SEAT. 4 by the template 'for every input the law returns true; each argument reads behind the call as it read before'; 0 by the template 'total and deterministic' (their statements: YtfjehdcdbejlnaaGreatTotals.lean).
  GIVEN WITH THE SEED: the statements are not yours to turn. If you find one false, say at which input.
  Laid BY PROGRAM, IN A SANDBOX (cutbox-rows.mjs): the forced cells as the released guide's own fill.sh prints them over the translation d75be57c97fa3e4b… (all of the seat's roots in one cut). By AI agents, Wed Nov 11 2026. No macro, syntax, notation, axiom, sorry.
-/
import Derived.Test.YtfjehdcdbejlnaaGreatChecked
import GoSem.Claim
import GoSem.ClaimJoined
import GoSem.ClaimMapViews
import Derived.JoinedTies
import Derived.KernelRfl
namespace Go.Proofs.YtfjehdcdbejlnaaGreat
/- THE CELL 'sum', in the pinned program and in every row, IS THE sha256 OF THE DUMP (.gsa) THAT YtfjehdcdbejlnaaGreatProg.lean LOADS. Nothing in Lean hashes anything: it is a label: what it is worth is what the hold of that sum in a sandbox is worth. -/
noncomputable def Tryz.pinned : Pinned := { name := "ytfjehdcdbejlnaagreat", sum := "d75be57c97fa3e4b9e97358981e54af2056bd53d2efc9da0b73ff00e01f1f6d3", checked := Tryz.checked }
namespace Rows
def none {H : Type} : Left H := { results := [], args := [] }

/-- 'mullionlaw6.LinTells': WHATEVER THE INPUT: true; the input reads as it did. -/
def linTellsSpec : ChangeSpec := { name := "linTells", fn := fun _ => fun
  | [d1, d2, d3, d4, d5] => { results := [.lit (.bool true)], args := [d1, d2, d3, d4, d5] }
  | _ => none }
def linTellsRow : OpenClaim := { program := "ytfjehdcdbejlnaagreat", sum := "d75be57c97fa3e4b9e97358981e54af2056bd53d2efc9da0b73ff00e01f1f6d3", func := "mullion/mullionlaw6.LinTells", spec := "linTells", inPlace := ["math/bits.Add64"], unfollowed := true, recurses := true, named := ["math/bits.divideError", "math/bits.overflowError"], apart := false }
def LinTellsSaid : Prop := linTellsRow.holds Tryz.pinned (OpenSpec.ofChange linTellsSpec)

/-- ITS FALSE NEIGHBOUR: 'it returns false'. Refute it at one input. -/
def linTellsWrong : ChangeSpec := { name := "linTells", fn := fun _ => fun
  | [d1, d2, d3, d4, d5] => { results := [.lit (.bool false)], args := [d1, d2, d3, d4, d5] }
  | _ => none }
def LinTellsWrongFalsely : Prop := linTellsRow.holds Tryz.pinned (OpenSpec.ofChange linTellsWrong)

/-- 'mullionlaw6.LinValues': WHATEVER THE INPUT: true; the input reads as it did. -/
def linValuesSpec : ChangeSpec := { name := "linValues", fn := fun _ => fun
  | [d1, d2, d3, d4, d5] => { results := [.lit (.bool true)], args := [d1, d2, d3, d4, d5] }
  | _ => none }
def linValuesRow : OpenClaim := { program := "ytfjehdcdbejlnaagreat", sum := "d75be57c97fa3e4b9e97358981e54af2056bd53d2efc9da0b73ff00e01f1f6d3", func := "mullion/mullionlaw6.LinValues", spec := "linValues", inPlace := ["math/bits.Add64"], unfollowed := true, recurses := true, named := ["math/bits.divideError", "math/bits.overflowError"], apart := false }
def LinValuesSaid : Prop := linValuesRow.holds Tryz.pinned (OpenSpec.ofChange linValuesSpec)

/-- ITS FALSE NEIGHBOUR: 'it returns false'. Refute it at one input. -/
def linValuesWrong : ChangeSpec := { name := "linValues", fn := fun _ => fun
  | [d1, d2, d3, d4, d5] => { results := [.lit (.bool false)], args := [d1, d2, d3, d4, d5] }
  | _ => none }
def LinValuesWrongFalsely : Prop := linValuesRow.holds Tryz.pinned (OpenSpec.ofChange linValuesWrong)

/-- 'mullionlaw6.LinBuilt': WHATEVER THE INPUT: true; the input reads as it did. -/
def linBuiltSpec : ChangeSpec := { name := "linBuilt", fn := fun _ => fun
  | [d1, d2, d3] => { results := [.lit (.bool true)], args := [d1, d2, d3] }
  | _ => none }
def linBuiltRow : OpenClaim := { program := "ytfjehdcdbejlnaagreat", sum := "d75be57c97fa3e4b9e97358981e54af2056bd53d2efc9da0b73ff00e01f1f6d3", func := "mullion/mullionlaw6.LinBuilt", spec := "linBuilt", inPlace := ["math/bits.Add64"], unfollowed := true, recurses := true, named := ["math/bits.divideError", "math/bits.overflowError"], apart := false }
def LinBuiltSaid : Prop := linBuiltRow.holds Tryz.pinned (OpenSpec.ofChange linBuiltSpec)

/-- ITS FALSE NEIGHBOUR: 'it returns false'. Refute it at one input. -/
def linBuiltWrong : ChangeSpec := { name := "linBuilt", fn := fun _ => fun
  | [d1, d2, d3] => { results := [.lit (.bool false)], args := [d1, d2, d3] }
  | _ => none }
def LinBuiltWrongFalsely : Prop := linBuiltRow.holds Tryz.pinned (OpenSpec.ofChange linBuiltWrong)

/-- 'mullionlaw6.LinGone': WHATEVER THE INPUT: true; the input reads as it did. -/
def linGoneSpec : ChangeSpec := { name := "linGone", fn := fun _ => fun
  | [d1, d2, d3] => { results := [.lit (.bool true)], args := [d1, d2, d3] }
  | _ => none }
def linGoneRow : OpenClaim := { program := "ytfjehdcdbejlnaagreat", sum := "d75be57c97fa3e4b9e97358981e54af2056bd53d2efc9da0b73ff00e01f1f6d3", func := "mullion/mullionlaw6.LinGone", spec := "linGone", inPlace := ["math/bits.Add64"], unfollowed := true, recurses := true, named := ["math/bits.divideError", "math/bits.overflowError"], apart := false }
def LinGoneSaid : Prop := linGoneRow.holds Tryz.pinned (OpenSpec.ofChange linGoneSpec)

/-- ITS FALSE NEIGHBOUR: 'it returns false'. Refute it at one input. -/
def linGoneWrong : ChangeSpec := { name := "linGone", fn := fun _ => fun
  | [d1, d2, d3] => { results := [.lit (.bool false)], args := [d1, d2, d3] }
  | _ => none }
def LinGoneWrongFalsely : Prop := linGoneRow.holds Tryz.pinned (OpenSpec.ofChange linGoneWrong)

/- THE SECOND FORM. 'bulk': how many values and letters a reading holds, each counted each time it is reached (what is shared counts as often as it is met; a slice's spare places count too). A statement '..UptoSaid' is the law's where the arguments, and the package variables that the reading takes, are together of bulk at most 1048576: NARROWER than '..Said'. Prove '..Said' where nothing that the law and all that it calls make is longer than what came in: it says more and counts as full. Else prove '..UptoSaid'. A law counts once. -/
mutual
def uptoBulk {H : Type} : DataW H → Nat
  | .lit (.string bytes) => bytes.length + 1
  | .lit _ => 1
  | .nil => 1
  | .ptr d => uptoBulk d + 1
  | .slice elems spare => uptoBulkAll elems + uptoBulkAll spare + 1
  | .agg parts => uptoBulkAll parts + 1
  | .iface _ d => uptoBulk d + 1
  | .map entries => uptoBulkEntries entries + 1
  | .held _ => 1
def uptoBulkAll {H : Type} : List (DataW H) → Nat
  | [] => 0
  | d :: r => uptoBulk d + uptoBulkAll r
def uptoBulkEntries {H : Type} : List (Lit × DataW H) → Nat
  | [] => 0
  | x :: r => uptoBulkEntry x + uptoBulkEntries r
def uptoBulkEntry {H : Type} : Lit × DataW H → Nat
  | (.string bytes, d) => bytes.length + uptoBulk d + 1
  | (_, d) => uptoBulk d + 1
 end
def uptoSmall : (H : Type) → List (DataW H) → Bool := fun _ ds => decide (uptoBulkAll ds ≤ 1048576)
def OpenSpec.upto (s : _root_.Go.ChangeSpec) : _root_.Go.OpenSpec := { _root_.Go.OpenSpec.ofChange s with cond := some uptoSmall }

/-- 'mullionlaw6.LinTells', WHERE WHAT IT READS IS OF BULK AT MOST 1048576: true; the input reads as it did. -/
def linTellsUptoRow : OpenClaim := { program := "ytfjehdcdbejlnaagreat", sum := "d75be57c97fa3e4b9e97358981e54af2056bd53d2efc9da0b73ff00e01f1f6d3", func := "mullion/mullionlaw6.LinTells", spec := "linTells", inPlace := ["math/bits.Add64"], unfollowed := true, recurses := true, named := ["math/bits.divideError", "math/bits.overflowError"], apart := false, narrowed := true }
def LinTellsUptoSaid : Prop := linTellsUptoRow.holds Tryz.pinned (OpenSpec.upto linTellsSpec)

/-- 'mullionlaw6.LinValues', WHERE WHAT IT READS IS OF BULK AT MOST 1048576: true; the input reads as it did. -/
def linValuesUptoRow : OpenClaim := { program := "ytfjehdcdbejlnaagreat", sum := "d75be57c97fa3e4b9e97358981e54af2056bd53d2efc9da0b73ff00e01f1f6d3", func := "mullion/mullionlaw6.LinValues", spec := "linValues", inPlace := ["math/bits.Add64"], unfollowed := true, recurses := true, named := ["math/bits.divideError", "math/bits.overflowError"], apart := false, narrowed := true }
def LinValuesUptoSaid : Prop := linValuesUptoRow.holds Tryz.pinned (OpenSpec.upto linValuesSpec)

/-- 'mullionlaw6.LinBuilt', WHERE WHAT IT READS IS OF BULK AT MOST 1048576: true; the input reads as it did. -/
def linBuiltUptoRow : OpenClaim := { program := "ytfjehdcdbejlnaagreat", sum := "d75be57c97fa3e4b9e97358981e54af2056bd53d2efc9da0b73ff00e01f1f6d3", func := "mullion/mullionlaw6.LinBuilt", spec := "linBuilt", inPlace := ["math/bits.Add64"], unfollowed := true, recurses := true, named := ["math/bits.divideError", "math/bits.overflowError"], apart := false, narrowed := true }
def LinBuiltUptoSaid : Prop := linBuiltUptoRow.holds Tryz.pinned (OpenSpec.upto linBuiltSpec)

/-- 'mullionlaw6.LinGone', WHERE WHAT IT READS IS OF BULK AT MOST 1048576: true; the input reads as it did. -/
def linGoneUptoRow : OpenClaim := { program := "ytfjehdcdbejlnaagreat", sum := "d75be57c97fa3e4b9e97358981e54af2056bd53d2efc9da0b73ff00e01f1f6d3", func := "mullion/mullionlaw6.LinGone", spec := "linGone", inPlace := ["math/bits.Add64"], unfollowed := true, recurses := true, named := ["math/bits.divideError", "math/bits.overflowError"], apart := false, narrowed := true }
def LinGoneUptoSaid : Prop := linGoneUptoRow.holds Tryz.pinned (OpenSpec.upto linGoneSpec)

end Rows
end Go.Proofs.YtfjehdcdbejlnaaGreat
