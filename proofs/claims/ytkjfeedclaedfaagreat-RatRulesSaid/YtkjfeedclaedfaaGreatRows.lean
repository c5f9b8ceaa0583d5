/-
  No cell of these rows narrows 'for every input' (looked for: loops, veiled, ifaces, maps, wideKeys, modest, calm, conditions, laid).
  DERIVED. THE GIVEN ROWS OF THIS SEAT. 4 by the template 'for every input the law returns true; each argument reads behind the call as it read before'; 0 by the template 'total and deterministic' (their statements: YtkjfeedclaedfaaGreatTotals.lean).
  GIVEN WITH THE SEED: the statements are not yours to turn. If you find one false, say at which input.
  Laid BY PROGRAM, IN A SANDBOX (cutbox-rows.mjs): the forced cells as the released guide's own fill.sh prints them over the translation 67e080f5c221ee1a… (all of the seat's roots in one cut). By AI agents, Wed Nov 11 2026. No macro, syntax, notation, axiom, sorry.
-/
import Derived.Test.YtkjfeedclaedfaaGreatChecked
import GoSem.Claim
import GoSem.ClaimJoined
import GoSem.ClaimMapViews
import Derived.JoinedTies
import Derived.KernelRfl
namespace Go.Proofs.YtkjfeedclaedfaaGreat
/- THE CELL 'sum', in the pinned program and in every row, IS THE sha256 OF THE DUMP (.gsa) THAT YtkjfeedclaedfaaGreatProg.lean LOADS. Nothing in Lean hashes anything: it is a label: what it is worth is what the hold of that sum in a sandbox is worth. -/
noncomputable def Tryz.pinned : Pinned := { name := "ytkjfeedclaedfaagreat", sum := "67e080f5c221ee1a7fa7cb87f7d9ac82135ca27d63ff78a92eed37814444bb9a", checked := Tryz.checked }
namespace Rows
def none {H : Type} : Left H := { results := [], args := [] }

/-- 'mullionlaw5.RatTells': WHATEVER THE INPUT: true; the input reads as it did. -/
def ratTellsSpec : ChangeSpec := { name := "ratTells", fn := fun _ => fun
  | [d1, d2, d3, d4] => { results := [.lit (.bool true)], args := [d1, d2, d3, d4] }
  | _ => none }
def ratTellsRow : OpenClaim := { program := "ytkjfeedclaedfaagreat", sum := "67e080f5c221ee1a7fa7cb87f7d9ac82135ca27d63ff78a92eed37814444bb9a", func := "mullion/mullionlaw5.RatTells", spec := "ratTells", inPlace := ["math/bits.Add64"], recurses := true, named := ["math/bits.divideError", "math/bits.overflowError"], apart := false }
def RatTellsSaid : Prop := ratTellsRow.holds Tryz.pinned (OpenSpec.ofChange ratTellsSpec)

/-- ITS FALSE NEIGHBOUR: 'it returns false'. Refute it at one input. -/
def ratTellsWrong : ChangeSpec := { name := "ratTells", fn := fun _ => fun
  | [d1, d2, d3, d4] => { results := [.lit (.bool false)], args := [d1, d2, d3, d4] }
  | _ => none }
def RatTellsWrongFalsely : Prop := ratTellsRow.holds Tryz.pinned (OpenSpec.ofChange ratTellsWrong)

/-- 'mullionlaw5.RatRules': WHATEVER THE INPUT: true; the input reads as it did. -/
def ratRulesSpec : ChangeSpec := { name := "ratRules", fn := fun _ => fun
  | [d1, d2, d3] => { results := [.lit (.bool true)], args := [d1, d2, d3] }
  | _ => none }
def ratRulesRow : OpenClaim := { program := "ytkjfeedclaedfaagreat", sum := "67e080f5c221ee1a7fa7cb87f7d9ac82135ca27d63ff78a92eed37814444bb9a", func := "mullion/mullionlaw5.RatRules", spec := "ratRules", inPlace := ["math/bits.Add64"], recurses := true, named := ["math/bits.divideError", "math/bits.overflowError"], apart := false }
def RatRulesSaid : Prop := ratRulesRow.holds Tryz.pinned (OpenSpec.ofChange ratRulesSpec)

/-- ITS FALSE NEIGHBOUR: 'it returns false'. Refute it at one input. -/
def ratRulesWrong : ChangeSpec := { name := "ratRules", fn := fun _ => fun
  | [d1, d2, d3] => { results := [.lit (.bool false)], args := [d1, d2, d3] }
  | _ => none }
def RatRulesWrongFalsely : Prop := ratRulesRow.holds Tryz.pinned (OpenSpec.ofChange ratRulesWrong)

/-- 'mullionlaw5.RatShort': WHATEVER THE INPUT: true; the input reads as it did. -/
def ratShortSpec : ChangeSpec := { name := "ratShort", fn := fun _ => fun
  | [d1, d2, d3] => { results := [.lit (.bool true)], args := [d1, d2, d3] }
  | _ => none }
def ratShortRow : OpenClaim := { program := "ytkjfeedclaedfaagreat", sum := "67e080f5c221ee1a7fa7cb87f7d9ac82135ca27d63ff78a92eed37814444bb9a", func := "mullion/mullionlaw5.RatShort", spec := "ratShort", inPlace := ["math/bits.Add64"], recurses := true, named := ["math/bits.divideError", "math/bits.overflowError"], apart := false }
def RatShortSaid : Prop := ratShortRow.holds Tryz.pinned (OpenSpec.ofChange ratShortSpec)

/-- ITS FALSE NEIGHBOUR: 'it returns false'. Refute it at one input. -/
def ratShortWrong : ChangeSpec := { name := "ratShort", fn := fun _ => fun
  | [d1, d2, d3] => { results := [.lit (.bool false)], args := [d1, d2, d3] }
  | _ => none }
def RatShortWrongFalsely : Prop := ratShortRow.holds Tryz.pinned (OpenSpec.ofChange ratShortWrong)

/-- 'mullionlaw5.RatBetween': WHATEVER THE INPUT: true; the input reads as it did. -/
def ratBetweenSpec : ChangeSpec := { name := "ratBetween", fn := fun _ => fun
  | [d1, d2] => { results := [.lit (.bool true)], args := [d1, d2] }
  | _ => none }
def ratBetweenRow : OpenClaim := { program := "ytkjfeedclaedfaagreat", sum := "67e080f5c221ee1a7fa7cb87f7d9ac82135ca27d63ff78a92eed37814444bb9a", func := "mullion/mullionlaw5.RatBetween", spec := "ratBetween", inPlace := ["math/bits.Add64"], recurses := true, named := ["math/bits.divideError", "math/bits.overflowError"], apart := false }
def RatBetweenSaid : Prop := ratBetweenRow.holds Tryz.pinned (OpenSpec.ofChange ratBetweenSpec)

/-- ITS FALSE NEIGHBOUR: 'it returns false'. Refute it at one input. -/
def ratBetweenWrong : ChangeSpec := { name := "ratBetween", fn := fun _ => fun
  | [d1, d2] => { results := [.lit (.bool false)], args := [d1, d2] }
  | _ => none }
def RatBetweenWrongFalsely : Prop := ratBetweenRow.holds Tryz.pinned (OpenSpec.ofChange ratBetweenWrong)

/- THE SECOND FORM. 'bulk': how many values and letters a reading holds, each counted each time it is reached (what is shared counts as often as it is met; a slice's spare places count too). A statement '..UptoSaid' is the law's where the arguments, and the package variables that the reading takes, are together of bulk at most 1048576: NARROWER than '..Said'. Prove '..Said' where nothing that the law and all that it calls make is longer than what came in: it says more and counts as full. Else prove '..UptoSaid'. A law counts once. -/
mutual
def uptoBulk {H : Type} : DataW H → Nat
  | .lit (.string bytes) => bytes.length + 1
  | .lit _ => 1
  | .nil => 1
  | .ptr d => uptoBulk d + 1
  | .slice elems spare => uptoBulkAll elems + uptoBulkAll spare + 1
  | .agg parts => uptoBulkAll parts + 1
  | .iface _ d => uptoBulk d + 1
  | .map entries => uptoBulkEntries entries + 1
  | .held _ => 1
def uptoBulkAll {H : Type} : List (DataW H) → Nat
  | [] => 0
  | d :: r => uptoBulk d + uptoBulkAll r
def uptoBulkEntries {H : Type} : List (Lit × DataW H) → Nat
  | [] => 0
  | x :: r => uptoBulkEntry x + uptoBulkEntries r
def uptoBulkEntry {H : Type} : Lit × DataW H → Nat
  | (.string bytes, d) => bytes.length + uptoBulk d + 1
  | (_, d) => uptoBulk d + 1
 end
def uptoSmall : (H : Type) → List (DataW H) → Bool := fun _ ds => decide (uptoBulkAll ds ≤ 1048576)
def OpenSpec.upto (s : _root_.Go.ChangeSpec) : _root_.Go.OpenSpec := { _root_.Go.OpenSpec.ofChange s with cond := some uptoSmall }

/-- 'mullionlaw5.RatTells', WHERE WHAT IT READS IS OF BULK AT MOST 1048576: true; the input reads as it did. -/
def ratTellsUptoRow : OpenClaim := { program := "ytkjfeedclaedfaagreat", sum := "67e080f5c221ee1a7fa7cb87f7d9ac82135ca27d63ff78a92eed37814444bb9a", func := "mullion/mullionlaw5.RatTells", spec := "ratTells", inPlace := ["math/bits.Add64"], recurses := true, named := ["math/bits.divideError", "math/bits.overflowError"], apart := false, narrowed := true }
def RatTellsUptoSaid : Prop := ratTellsUptoRow.holds Tryz.pinned (OpenSpec.upto ratTellsSpec)

/-- 'mullionlaw5.RatRules', WHERE WHAT IT READS IS OF BULK AT MOST 1048576: true; the input reads as it did. -/
def ratRulesUptoRow : OpenClaim := { program := "ytkjfeedclaedfaagreat", sum := "67e080f5c221ee1a7fa7cb87f7d9ac82135ca27d63ff78a92eed37814444bb9a", func := "mullion/mullionlaw5.RatRules", spec := "ratRules", inPlace := ["math/bits.Add64"], recurses := true, named := ["math/bits.divideError", "math/bits.overflowError"], apart := false, narrowed := true }
def RatRulesUptoSaid : Prop := ratRulesUptoRow.holds Tryz.pinned (OpenSpec.upto ratRulesSpec)

/-- 'mullionlaw5.RatShort', WHERE WHAT IT READS IS OF BULK AT MOST 1048576: true; the input reads as it did. -/
def ratShortUptoRow : OpenClaim := { program := "ytkjfeedclaedfaagreat", sum := "67e080f5c221ee1a7fa7cb87f7d9ac82135ca27d63ff78a92eed37814444bb9a", func := "mullion/mullionlaw5.RatShort", spec := "ratShort", inPlace := ["math/bits.Add64"], recurses := true, named := ["math/bits.divideError", "math/bits.overflowError"], apart := false, narrowed := true }
def RatShortUptoSaid : Prop := ratShortUptoRow.holds Tryz.pinned (OpenSpec.upto ratShortSpec)

/-- 'mullionlaw5.RatBetween', WHERE WHAT IT READS IS OF BULK AT MOST 1048576: true; the input reads as it did. -/
def ratBetweenUptoRow : OpenClaim := { program := "ytkjfeedclaedfaagreat", sum := "67e080f5c221ee1a7fa7cb87f7d9ac82135ca27d63ff78a92eed37814444bb9a", func := "mullion/mullionlaw5.RatBetween", spec := "ratBetween", inPlace := ["math/bits.Add64"], recurses := true, named := ["math/bits.divideError", "math/bits.overflowError"], apart := false, narrowed := true }
def RatBetweenUptoSaid : Prop := ratBetweenUptoRow.holds Tryz.pinned (OpenSpec.upto ratBetweenSpec)

end Rows
end Go.Proofs.YtkjfeedclaedfaaGreat
