/-
  NARROWER THAN 'FOR EVERY INPUT', by the rows' own cells (each row's printed sentence says how): SortTells: loops, laid · SortLets: loops, laid · SortWords: laid · SortShadows: laid · SortArgs: laid · ValueRules: loops, laid · ValueLocal: loops, laid · ValuePuts: laid · ValueTables: laid.
  DERIVED. THE GIVEN ROWS OF THIS SEAT. 9 by the template 'for every input the law returns true; each argument reads behind the call as it read before'; 0 by the template 'total and deterministic' (their statements: YtgkofipifjfjhaaGreatDoorTotals.lean).
  GIVEN WITH THE SEED: the statements are not yours to turn. If you find one false, say at which input.
  Laid BY PROGRAM, IN A SANDBOX (cutbox-rows.mjs): the forced cells as the released guide's own fill.sh prints them over the translation ffe09ba6ecc2fa4f… (all of the seat's roots in one cut). By AI agents, Wed Nov 11 2026. No macro, syntax, notation, axiom, sorry.
-/
import Derived.Test.YtgkofipifjfjhaaGreatDoorChecked
import GoSem.Claim
import GoSem.ClaimJoined
import GoSem.ClaimMapViews
import Derived.JoinedTies
import Derived.KernelRfl
namespace Go.Proofs.YtgkofipifjfjhaaGreatDoor
/- THE CELL 'sum', in the pinned program and in every row, IS THE sha256 OF THE DUMP (.gsa) THAT YtgkofipifjfjhaaGreatDoorProg.lean LOADS. Nothing in Lean hashes anything: it is a label: what it is worth is what the hold of that sum in a sandbox is worth. -/
noncomputable def Tryz.pinned : Pinned := { name := "ytgkofipifjfjhaagreatdoor", sum := "ffe09ba6ecc2fa4f0f565cd7814cab908cdf720a430383fdeb7f945f7e6a6fb9", checked := Tryz.checked }
namespace Rows
def none {H : Type} : Left H := { results := [], args := [] }

/- WHAT THE LISTED PACKAGE-LEVEL VARIABLES READ AS WHEN THE CALL BEGINS. Each datum BY PROGRAM (the guide's laid-datum.mjs) off the statement by which the dump's own 'gosem.cut.vars' lays the variable. In a bare row this is a premise. The card (YtgkofipifjfjhaaGreatDoorCards.lean) ties it to the program's text. -/
def laid_math_bits_deBruijn32tab {H : Type} : DataW H := .agg [.lit (.int .u8 0), .lit (.int .u8 1), .lit (.int .u8 28), .lit (.int .u8 2), .lit (.int .u8 29), .lit (.int .u8 14), .lit (.int .u8 24), .lit (.int .u8 3), .lit (.int .u8 30), .lit (.int .u8 22), .lit (.int .u8 20), .lit (.int .u8 15), .lit (.int .u8 25), .lit (.int .u8 17), .lit (.int .u8 4), .lit (.int .u8 8), .lit (.int .u8 31), .lit (.int .u8 27), .lit (.int .u8 13), .lit (.int .u8 23), .lit (.int .u8 21), .lit (.int .u8 19), .lit (.int .u8 16), .lit (.int .u8 7), .lit (.int .u8 26), .lit (.int .u8 12), .lit (.int .u8 18), .lit (.int .u8 6), .lit (.int .u8 11), .lit (.int .u8 5), .lit (.int .u8 10), .lit (.int .u8 9)]
def laid_math_bits_deBruijn64tab {H : Type} : DataW H := .agg [.lit (.int .u8 0), .lit (.int .u8 1), .lit (.int .u8 56), .lit (.int .u8 2), .lit (.int .u8 57), .lit (.int .u8 49), .lit (.int .u8 28), .lit (.int .u8 3), .lit (.int .u8 61), .lit (.int .u8 58), .lit (.int .u8 42), .lit (.int .u8 50), .lit (.int .u8 38), .lit (.int .u8 29), .lit (.int .u8 17), .lit (.int .u8 4), .lit (.int .u8 62), .lit (.int .u8 47), .lit (.int .u8 59), .lit (.int .u8 36), .lit (.int .u8 45), .lit (.int .u8 43), .lit (.int .u8 51), .lit (.int .u8 22), .lit (.int .u8 53), .lit (.int .u8 39), .lit (.int .u8 33), .lit (.int .u8 30), .lit (.int .u8 24), .lit (.int .u8 18), .lit (.int .u8 12), .lit (.int .u8 5), .lit (.int .u8 63), .lit (.int .u8 55), .lit (.int .u8 48), .lit (.int .u8 27), .lit (.int .u8 60), .lit (.int .u8 41), .lit (.int .u8 37), .lit (.int .u8 16), .lit (.int .u8 46), .lit (.int .u8 35), .lit (.int .u8 44), .lit (.int .u8 21), .lit (.int .u8 52), .lit (.int .u8 32), .lit (.int .u8 23), .lit (.int .u8 11), .lit (.int .u8 54), .lit (.int .u8 26), .lit (.int .u8 40), .lit (.int .u8 15), .lit (.int .u8 34), .lit (.int .u8 20), .lit (.int .u8 31), .lit (.int .u8 10), .lit (.int .u8 25), .lit (.int .u8 14), .lit (.int .u8 19), .lit (.int .u8 9), .lit (.int .u8 13), .lit (.int .u8 8), .lit (.int .u8 7), .lit (.int .u8 6)]
def laid_internal_strconv_uint64pow10 {H : Type} : DataW H := .agg [.lit (.int .u64 1), .lit (.int .u64 10), .lit (.int .u64 100), .lit (.int .u64 1000), .lit (.int .u64 10000), .lit (.int .u64 100000), .lit (.int .u64 1000000), .lit (.int .u64 10000000), .lit (.int .u64 100000000), .lit (.int .u64 1000000000), .lit (.int .u64 10000000000), .lit (.int .u64 100000000000), .lit (.int .u64 1000000000000), .lit (.int .u64 10000000000000), .lit (.int .u64 100000000000000), .lit (.int .u64 1000000000000000), .lit (.int .u64 10000000000000000), .lit (.int .u64 100000000000000000), .lit (.int .u64 1000000000000000000), .lit (.int .u64 10000000000000000000)]
def laid_mullion_term_rules {H : Type} : DataW H := .agg [.agg [.lit (.int .i64 0), .lit (.int .i64 0), .lit (.int .i64 0), .lit (.int .i64 0), .lit (.int .i64 0)], .agg [.lit (.int .i64 0), .lit (.int .i64 0), .lit (.int .i64 0), .lit (.int .i64 0), .lit (.int .i64 0)], .agg [.lit (.int .i64 0), .lit (.int .i64 0), .lit (.int .i64 0), .lit (.int .i64 0), .lit (.int .i64 0)], .agg [.lit (.int .i64 0), .lit (.int .i64 0), .lit (.int .i64 0), .lit (.int .i64 0), .lit (.int .i64 0)], .agg [.lit (.int .i64 0), .lit (.int .i64 0), .lit (.int .i64 0), .lit (.int .i64 0), .lit (.int .i64 0)], .agg [.lit (.int .i64 1), .lit (.int .i64 1), .lit (.int .i64 1), .lit (.int .i64 1), .lit (.int .i64 1)], .agg [.lit (.int .i64 1), .lit (.int .i64 9223372036854775807), .lit (.int .i64 1), .lit (.int .i64 1), .lit (.int .i64 1)], .agg [.lit (.int .i64 1), .lit (.int .i64 9223372036854775807), .lit (.int .i64 1), .lit (.int .i64 1), .lit (.int .i64 1)], .agg [.lit (.int .i64 2), .lit (.int .i64 2), .lit (.int .i64 1), .lit (.int .i64 1), .lit (.int .i64 1)], .agg [.lit (.int .i64 2), .lit (.int .i64 2), .lit (.int .i64 1), .lit (.int .i64 1), .lit (.int .i64 1)], .agg [.lit (.int .i64 2), .lit (.int .i64 2), .lit (.int .i64 0), .lit (.int .i64 0), .lit (.int .i64 1)], .agg [.lit (.int .i64 1), .lit (.int .i64 9223372036854775807), .lit (.int .i64 0), .lit (.int .i64 0), .lit (.int .i64 1)], .agg [.lit (.int .i64 3), .lit (.int .i64 3), .lit (.int .i64 1), .lit (.int .i64 0), .lit (.int .i64 0)], .agg [.lit (.int .i64 1), .lit (.int .i64 9223372036854775807), .lit (.int .i64 2), .lit (.int .i64 2), .lit (.int .i64 2)], .agg [.lit (.int .i64 1), .lit (.int .i64 9223372036854775807), .lit (.int .i64 2), .lit (.int .i64 2), .lit (.int .i64 2)], .agg [.lit (.int .i64 2), .lit (.int .i64 2), .lit (.int .i64 2), .lit (.int .i64 2), .lit (.int .i64 2)], .agg [.lit (.int .i64 2), .lit (.int .i64 2), .lit (.int .i64 2), .lit (.int .i64 2), .lit (.int .i64 2)], .agg [.lit (.int .i64 2), .lit (.int .i64 2), .lit (.int .i64 2), .lit (.int .i64 2), .lit (.int .i64 2)], .agg [.lit (.int .i64 1), .lit (.int .i64 1), .lit (.int .i64 2), .lit (.int .i64 2), .lit (.int .i64 2)], .agg [.lit (.int .i64 2), .lit (.int .i64 2), .lit (.int .i64 2), .lit (.int .i64 2), .lit (.int .i64 1)], .agg [.lit (.int .i64 2), .lit (.int .i64 2), .lit (.int .i64 2), .lit (.int .i64 2), .lit (.int .i64 1)], .agg [.lit (.int .i64 2), .lit (.int .i64 2), .lit (.int .i64 2), .lit (.int .i64 2), .lit (.int .i64 1)], .agg [.lit (.int .i64 2), .lit (.int .i64 2), .lit (.int .i64 2), .lit (.int .i64 2), .lit (.int .i64 1)]]
def laid_mullion_sort_words {H : Type} : DataW H := .agg [.lit (.string []), .lit (.string []), .lit (.string []), .lit (.string []), .lit (.string []), .lit (.string [110, 111, 116]), .lit (.string [97, 110, 100]), .lit (.string [111, 114]), .lit (.string [120, 111, 114]), .lit (.string [61, 62]), .lit (.string [61]), .lit (.string [100, 105, 115, 116, 105, 110, 99, 116]), .lit (.string [105, 116, 101]), .lit (.string [43]), .lit (.string [45]), .lit (.string [42]), .lit (.string [100, 105, 118]), .lit (.string [109, 111, 100]), .lit (.string [97, 98, 115]), .lit (.string [60, 61]), .lit (.string [60]), .lit (.string [62, 61]), .lit (.string [62])]

/-- 'mullionlaw11.SortTells': WHATEVER THE INPUT: true; the input reads as it did. -/
def sortTellsSpec : ChangeSpec := { name := "sortTells", fn := fun _ => fun
  | [d1, d2, d3, d4] => { results := [.lit (.bool true)], args := [d1, d2, d3, d4] }
  | _ => none }
def sortTellsRow : OpenClaim := { program := "ytgkofipifjfjhaagreatdoor", sum := "ffe09ba6ecc2fa4f0f565cd7814cab908cdf720a430383fdeb7f945f7e6a6fb9", func := "mullion/mullionlaw11.SortTells", spec := "sortTells", inPlace := ["internal/abi.NoEscape", "internal/bytealg.IndexByteString", "internal/bytealg.IndexString", "internal/bytealg.MakeNoZero"], unfollowed := true, recurses := true, named := ["internal/bytealg.MaxLen", "mullion/sort.words", "mullion/term.rules", "internal/strconv.uint64pow10", "math/bits.deBruijn32tab", "math/bits.deBruijn64tab"], loops := true, apart := false, laid := [("math/bits.deBruijn32tab", laid_math_bits_deBruijn32tab), ("math/bits.deBruijn64tab", laid_math_bits_deBruijn64tab), ("internal/strconv.uint64pow10", laid_internal_strconv_uint64pow10), ("mullion/term.rules", laid_mullion_term_rules), ("mullion/sort.words", laid_mullion_sort_words)] }
def SortTellsSaid : Prop := sortTellsRow.holds Tryz.pinned (OpenSpec.ofChange sortTellsSpec)

/-- ITS FALSE NEIGHBOUR: 'it returns false'. Refute it at one input. -/
def sortTellsWrong : ChangeSpec := { name := "sortTells", fn := fun _ => fun
  | [d1, d2, d3, d4] => { results := [.lit (.bool false)], args := [d1, d2, d3, d4] }
  | _ => none }
def SortTellsWrongFalsely : Prop := sortTellsRow.holds Tryz.pinned (OpenSpec.ofChange sortTellsWrong)

/-- 'mullionlaw11.SortLets': WHATEVER THE INPUT: true; the input reads as it did. -/
def sortLetsSpec : ChangeSpec := { name := "sortLets", fn := fun _ => fun
  | [d1, d2, d3, d4] => { results := [.lit (.bool true)], args := [d1, d2, d3, d4] }
  | _ => none }
def sortLetsRow : OpenClaim := { program := "ytgkofipifjfjhaagreatdoor", sum := "ffe09ba6ecc2fa4f0f565cd7814cab908cdf720a430383fdeb7f945f7e6a6fb9", func := "mullion/mullionlaw11.SortLets", spec := "sortLets", inPlace := ["internal/abi.NoEscape", "internal/bytealg.IndexByteString", "internal/bytealg.IndexString", "internal/bytealg.MakeNoZero"], unfollowed := true, recurses := true, named := ["internal/bytealg.MaxLen", "mullion/sort.words", "mullion/term.rules", "internal/strconv.uint64pow10", "math/bits.deBruijn32tab", "math/bits.deBruijn64tab"], loops := true, apart := false, laid := [("math/bits.deBruijn32tab", laid_math_bits_deBruijn32tab), ("math/bits.deBruijn64tab", laid_math_bits_deBruijn64tab), ("internal/strconv.uint64pow10", laid_internal_strconv_uint64pow10), ("mullion/term.rules", laid_mullion_term_rules), ("mullion/sort.words", laid_mullion_sort_words)] }
def SortLetsSaid : Prop := sortLetsRow.holds Tryz.pinned (OpenSpec.ofChange sortLetsSpec)

/-- ITS FALSE NEIGHBOUR: 'it returns false'. Refute it at one input. -/
def sortLetsWrong : ChangeSpec := { name := "sortLets", fn := fun _ => fun
  | [d1, d2, d3, d4] => { results := [.lit (.bool false)], args := [d1, d2, d3, d4] }
  | _ => none }
def SortLetsWrongFalsely : Prop := sortLetsRow.holds Tryz.pinned (OpenSpec.ofChange sortLetsWrong)

/-- 'mullionlaw11.SortWords': WHATEVER THE INPUT: true; the input reads as it did. -/
def sortWordsSpec : ChangeSpec := { name := "sortWords", fn := fun _ => fun
  | [d] => { results := [.lit (.bool true)], args := [d] }
  | _ => none }
def sortWordsRow : OpenClaim := { program := "ytgkofipifjfjhaagreatdoor", sum := "ffe09ba6ecc2fa4f0f565cd7814cab908cdf720a430383fdeb7f945f7e6a6fb9", func := "mullion/mullionlaw11.SortWords", spec := "sortWords", inPlace := ["internal/abi.NoEscape", "internal/bytealg.IndexByteString", "internal/bytealg.IndexString", "internal/bytealg.MakeNoZero"], unfollowed := true, recurses := true, named := ["internal/bytealg.MaxLen", "mullion/sort.words", "mullion/term.rules", "internal/strconv.uint64pow10", "math/bits.deBruijn32tab", "math/bits.deBruijn64tab"], apart := false, laid := [("math/bits.deBruijn32tab", laid_math_bits_deBruijn32tab), ("math/bits.deBruijn64tab", laid_math_bits_deBruijn64tab), ("internal/strconv.uint64pow10", laid_internal_strconv_uint64pow10), ("mullion/term.rules", laid_mullion_term_rules), ("mullion/sort.words", laid_mullion_sort_words)] }
def SortWordsSaid : Prop := sortWordsRow.holds Tryz.pinned (OpenSpec.ofChange sortWordsSpec)

/-- ITS FALSE NEIGHBOUR: 'it returns false'. Refute it at one input. -/
def sortWordsWrong : ChangeSpec := { name := "sortWords", fn := fun _ => fun
  | [d] => { results := [.lit (.bool false)], args := [d] }
  | _ => none }
def SortWordsWrongFalsely : Prop := sortWordsRow.holds Tryz.pinned (OpenSpec.ofChange sortWordsWrong)

/-- 'mullionlaw11.SortShadows': WHATEVER THE INPUT: true; the input reads as it did. -/
def sortShadowsSpec : ChangeSpec := { name := "sortShadows", fn := fun _ => fun
  | [d1, d2] => { results := [.lit (.bool true)], args := [d1, d2] }
  | _ => none }
def sortShadowsRow : OpenClaim := { program := "ytgkofipifjfjhaagreatdoor", sum := "ffe09ba6ecc2fa4f0f565cd7814cab908cdf720a430383fdeb7f945f7e6a6fb9", func := "mullion/mullionlaw11.SortShadows", spec := "sortShadows", inPlace := ["internal/abi.NoEscape", "internal/bytealg.IndexByteString", "internal/bytealg.IndexString", "internal/bytealg.MakeNoZero"], unfollowed := true, recurses := true, named := ["internal/bytealg.MaxLen", "mullion/sort.words", "mullion/term.rules", "internal/strconv.uint64pow10", "math/bits.deBruijn32tab", "math/bits.deBruijn64tab"], apart := false, laid := [("math/bits.deBruijn32tab", laid_math_bits_deBruijn32tab), ("math/bits.deBruijn64tab", laid_math_bits_deBruijn64tab), ("internal/strconv.uint64pow10", laid_internal_strconv_uint64pow10), ("mullion/term.rules", laid_mullion_term_rules), ("mullion/sort.words", laid_mullion_sort_words)] }
def SortShadowsSaid : Prop := sortShadowsRow.holds Tryz.pinned (OpenSpec.ofChange sortShadowsSpec)

/-- ITS FALSE NEIGHBOUR: 'it returns false'. Refute it at one input. -/
def sortShadowsWrong : ChangeSpec := { name := "sortShadows", fn := fun _ => fun
  | [d1, d2] => { results := [.lit (.bool false)], args := [d1, d2] }
  | _ => none }
def SortShadowsWrongFalsely : Prop := sortShadowsRow.holds Tryz.pinned (OpenSpec.ofChange sortShadowsWrong)

/-- 'mullionlaw11.SortArgs': WHATEVER THE INPUT: true; the input reads as it did. -/
def sortArgsSpec : ChangeSpec := { name := "sortArgs", fn := fun _ => fun
  | [d1, d2, d3] => { results := [.lit (.bool true)], args := [d1, d2, d3] }
  | _ => none }
def sortArgsRow : OpenClaim := { program := "ytgkofipifjfjhaagreatdoor", sum := "ffe09ba6ecc2fa4f0f565cd7814cab908cdf720a430383fdeb7f945f7e6a6fb9", func := "mullion/mullionlaw11.SortArgs", spec := "sortArgs", inPlace := ["internal/abi.NoEscape", "internal/bytealg.IndexByteString", "internal/bytealg.IndexString", "internal/bytealg.MakeNoZero"], unfollowed := true, recurses := true, named := ["internal/bytealg.MaxLen", "mullion/sort.words", "mullion/term.rules", "internal/strconv.uint64pow10", "math/bits.deBruijn32tab", "math/bits.deBruijn64tab"], apart := false, laid := [("math/bits.deBruijn32tab", laid_math_bits_deBruijn32tab), ("math/bits.deBruijn64tab", laid_math_bits_deBruijn64tab), ("internal/strconv.uint64pow10", laid_internal_strconv_uint64pow10), ("mullion/term.rules", laid_mullion_term_rules), ("mullion/sort.words", laid_mullion_sort_words)] }
def SortArgsSaid : Prop := sortArgsRow.holds Tryz.pinned (OpenSpec.ofChange sortArgsSpec)

/-- ITS FALSE NEIGHBOUR: 'it returns false'. Refute it at one input. -/
def sortArgsWrong : ChangeSpec := { name := "sortArgs", fn := fun _ => fun
  | [d1, d2, d3] => { results := [.lit (.bool false)], args := [d1, d2, d3] }
  | _ => none }
def SortArgsWrongFalsely : Prop := sortArgsRow.holds Tryz.pinned (OpenSpec.ofChange sortArgsWrong)

/-- 'mullionlaw12.ValueRules': WHATEVER THE INPUT: true; the input reads as it did. -/
def valueRulesSpec : ChangeSpec := { name := "valueRules", fn := fun _ => fun
  | [d1, d2, d3, d4, d5, d6] => { results := [.lit (.bool true)], args := [d1, d2, d3, d4, d5, d6] }
  | _ => none }
def valueRulesRow : OpenClaim := { program := "ytgkofipifjfjhaagreatdoor", sum := "ffe09ba6ecc2fa4f0f565cd7814cab908cdf720a430383fdeb7f945f7e6a6fb9", func := "mullion/mullionlaw12.ValueRules", spec := "valueRules", inPlace := ["internal/bytealg.IndexByteString", "internal/bytealg.abigen_runtime_cmpstring", "math/bits.Add64"], unfollowed := true, recurses := true, named := ["mullion/term.rules", "math/bits.divideError", "math/bits.overflowError"], loops := true, apart := false, laid := [("mullion/term.rules", laid_mullion_term_rules)] }
def ValueRulesSaid : Prop := valueRulesRow.holds Tryz.pinned (OpenSpec.ofChange valueRulesSpec)

/-- ITS FALSE NEIGHBOUR: 'it returns false'. Refute it at one input. -/
def valueRulesWrong : ChangeSpec := { name := "valueRules", fn := fun _ => fun
  | [d1, d2, d3, d4, d5, d6] => { results := [.lit (.bool false)], args := [d1, d2, d3, d4, d5, d6] }
  | _ => none }
def ValueRulesWrongFalsely : Prop := valueRulesRow.holds Tryz.pinned (OpenSpec.ofChange valueRulesWrong)

/-- 'mullionlaw12.ValueLocal': WHATEVER THE INPUT: true; the input reads as it did. -/
def valueLocalSpec : ChangeSpec := { name := "valueLocal", fn := fun _ => fun
  | [d1, d2, d3, d4] => { results := [.lit (.bool true)], args := [d1, d2, d3, d4] }
  | _ => none }
def valueLocalRow : OpenClaim := { program := "ytgkofipifjfjhaagreatdoor", sum := "ffe09ba6ecc2fa4f0f565cd7814cab908cdf720a430383fdeb7f945f7e6a6fb9", func := "mullion/mullionlaw12.ValueLocal", spec := "valueLocal", inPlace := ["internal/bytealg.IndexByteString", "internal/bytealg.abigen_runtime_cmpstring", "math/bits.Add64"], unfollowed := true, recurses := true, named := ["mullion/term.rules", "math/bits.divideError", "math/bits.overflowError"], loops := true, apart := false, laid := [("mullion/term.rules", laid_mullion_term_rules)] }
def ValueLocalSaid : Prop := valueLocalRow.holds Tryz.pinned (OpenSpec.ofChange valueLocalSpec)

/-- ITS FALSE NEIGHBOUR: 'it returns false'. Refute it at one input. -/
def valueLocalWrong : ChangeSpec := { name := "valueLocal", fn := fun _ => fun
  | [d1, d2, d3, d4] => { results := [.lit (.bool false)], args := [d1, d2, d3, d4] }
  | _ => none }
def ValueLocalWrongFalsely : Prop := valueLocalRow.holds Tryz.pinned (OpenSpec.ofChange valueLocalWrong)

/-- 'mullionlaw12.ValuePuts': WHATEVER THE INPUT: true; the input reads as it did. -/
def valuePutsSpec : ChangeSpec := { name := "valuePuts", fn := fun _ => fun
  | [d1, d2, d3, d4] => { results := [.lit (.bool true)], args := [d1, d2, d3, d4] }
  | _ => none }
def valuePutsRow : OpenClaim := { program := "ytgkofipifjfjhaagreatdoor", sum := "ffe09ba6ecc2fa4f0f565cd7814cab908cdf720a430383fdeb7f945f7e6a6fb9", func := "mullion/mullionlaw12.ValuePuts", spec := "valuePuts", inPlace := ["internal/bytealg.IndexByteString", "internal/bytealg.abigen_runtime_cmpstring", "math/bits.Add64"], unfollowed := true, recurses := true, named := ["mullion/term.rules", "math/bits.divideError", "math/bits.overflowError"], apart := false, laid := [("mullion/term.rules", laid_mullion_term_rules)] }
def ValuePutsSaid : Prop := valuePutsRow.holds Tryz.pinned (OpenSpec.ofChange valuePutsSpec)

/-- ITS FALSE NEIGHBOUR: 'it returns false'. Refute it at one input. -/
def valuePutsWrong : ChangeSpec := { name := "valuePuts", fn := fun _ => fun
  | [d1, d2, d3, d4] => { results := [.lit (.bool false)], args := [d1, d2, d3, d4] }
  | _ => none }
def ValuePutsWrongFalsely : Prop := valuePutsRow.holds Tryz.pinned (OpenSpec.ofChange valuePutsWrong)

/-- 'mullionlaw12.ValueTables': WHATEVER THE INPUT: true; the input reads as it did. -/
def valueTablesSpec : ChangeSpec := { name := "valueTables", fn := fun _ => fun
  | [d1, d2, d3] => { results := [.lit (.bool true)], args := [d1, d2, d3] }
  | _ => none }
def valueTablesRow : OpenClaim := { program := "ytgkofipifjfjhaagreatdoor", sum := "ffe09ba6ecc2fa4f0f565cd7814cab908cdf720a430383fdeb7f945f7e6a6fb9", func := "mullion/mullionlaw12.ValueTables", spec := "valueTables", inPlace := ["internal/bytealg.IndexByteString", "internal/bytealg.abigen_runtime_cmpstring", "math/bits.Add64"], unfollowed := true, recurses := true, named := ["mullion/term.rules", "math/bits.divideError", "math/bits.overflowError"], apart := false, laid := [("mullion/term.rules", laid_mullion_term_rules)] }
def ValueTablesSaid : Prop := valueTablesRow.holds Tryz.pinned (OpenSpec.ofChange valueTablesSpec)

/-- ITS FALSE NEIGHBOUR: 'it returns false'. Refute it at one input. -/
def valueTablesWrong : ChangeSpec := { name := "valueTables", fn := fun _ => fun
  | [d1, d2, d3] => { results := [.lit (.bool false)], args := [d1, d2, d3] }
  | _ => none }
def ValueTablesWrongFalsely : Prop := valueTablesRow.holds Tryz.pinned (OpenSpec.ofChange valueTablesWrong)

/- THE SECOND FORM. 'bulk': how many values and letters a reading holds, each counted each time it is reached (what is shared counts as often as it is met; a slice's spare places count too). A statement '..UptoSaid' is the law's where the arguments, and the package variables that the reading takes, are together of bulk at most 1048576: NARROWER than '..Said'. Prove '..Said' where nothing that the law and all that it calls make is longer than what came in: it says more and counts as full. Else prove '..UptoSaid'. A law counts once. -/
mutual
def uptoBulk {H : Type} : DataW H → Nat
  | .lit (.string bytes) => bytes.length + 1
  | .lit _ => 1
  | .nil => 1
  | .ptr d => uptoBulk d + 1
  | .slice elems spare => uptoBulkAll elems + uptoBulkAll spare + 1
  | .agg parts => uptoBulkAll parts + 1
  | .iface _ d => uptoBulk d + 1
  | .map entries => uptoBulkEntries entries + 1
  | .held _ => 1
def uptoBulkAll {H : Type} : List (DataW H) → Nat
  | [] => 0
  | d :: r => uptoBulk d + uptoBulkAll r
def uptoBulkEntries {H : Type} : List (Lit × DataW H) → Nat
  | [] => 0
  | x :: r => uptoBulkEntry x + uptoBulkEntries r
def uptoBulkEntry {H : Type} : Lit × DataW H → Nat
  | (.string bytes, d) => bytes.length + uptoBulk d + 1
  | (_, d) => uptoBulk d + 1
 end
def uptoSmall : (H : Type) → List (DataW H) → Bool := fun _ ds => decide (uptoBulkAll ds ≤ 1048576)
def OpenSpec.upto (s : _root_.Go.ChangeSpec) : _root_.Go.OpenSpec := { _root_.Go.OpenSpec.ofChange s with cond := some uptoSmall }

/-- 'mullionlaw11.SortTells', WHERE WHAT IT READS IS OF BULK AT MOST 1048576: true; the input reads as it did. -/
def sortTellsUptoRow : OpenClaim := { program := "ytgkofipifjfjhaagreatdoor", sum := "ffe09ba6ecc2fa4f0f565cd7814cab908cdf720a430383fdeb7f945f7e6a6fb9", func := "mullion/mullionlaw11.SortTells", spec := "sortTells", inPlace := ["internal/abi.NoEscape", "internal/bytealg.IndexByteString", "internal/bytealg.IndexString", "internal/bytealg.MakeNoZero"], unfollowed := true, recurses := true, named := ["internal/bytealg.MaxLen", "mullion/sort.words", "mullion/term.rules", "internal/strconv.uint64pow10", "math/bits.deBruijn32tab", "math/bits.deBruijn64tab"], loops := true, apart := false, laid := [("math/bits.deBruijn32tab", laid_math_bits_deBruijn32tab), ("math/bits.deBruijn64tab", laid_math_bits_deBruijn64tab), ("internal/strconv.uint64pow10", laid_internal_strconv_uint64pow10), ("mullion/term.rules", laid_mullion_term_rules), ("mullion/sort.words", laid_mullion_sort_words)], narrowed := true }
def SortTellsUptoSaid : Prop := sortTellsUptoRow.holds Tryz.pinned (OpenSpec.upto sortTellsSpec)

/-- 'mullionlaw11.SortLets', WHERE WHAT IT READS IS OF BULK AT MOST 1048576: true; the input reads as it did. -/
def sortLetsUptoRow : OpenClaim := { program := "ytgkofipifjfjhaagreatdoor", sum := "ffe09ba6ecc2fa4f0f565cd7814cab908cdf720a430383fdeb7f945f7e6a6fb9", func := "mullion/mullionlaw11.SortLets", spec := "sortLets", inPlace := ["internal/abi.NoEscape", "internal/bytealg.IndexByteString", "internal/bytealg.IndexString", "internal/bytealg.MakeNoZero"], unfollowed := true, recurses := true, named := ["internal/bytealg.MaxLen", "mullion/sort.words", "mullion/term.rules", "internal/strconv.uint64pow10", "math/bits.deBruijn32tab", "math/bits.deBruijn64tab"], loops := true, apart := false, laid := [("math/bits.deBruijn32tab", laid_math_bits_deBruijn32tab), ("math/bits.deBruijn64tab", laid_math_bits_deBruijn64tab), ("internal/strconv.uint64pow10", laid_internal_strconv_uint64pow10), ("mullion/term.rules", laid_mullion_term_rules), ("mullion/sort.words", laid_mullion_sort_words)], narrowed := true }
def SortLetsUptoSaid : Prop := sortLetsUptoRow.holds Tryz.pinned (OpenSpec.upto sortLetsSpec)

/-- 'mullionlaw11.SortWords', WHERE WHAT IT READS IS OF BULK AT MOST 1048576: true; the input reads as it did. -/
def sortWordsUptoRow : OpenClaim := { program := "ytgkofipifjfjhaagreatdoor", sum := "ffe09ba6ecc2fa4f0f565cd7814cab908cdf720a430383fdeb7f945f7e6a6fb9", func := "mullion/mullionlaw11.SortWords", spec := "sortWords", inPlace := ["internal/abi.NoEscape", "internal/bytealg.IndexByteString", "internal/bytealg.IndexString", "internal/bytealg.MakeNoZero"], unfollowed := true, recurses := true, named := ["internal/bytealg.MaxLen", "mullion/sort.words", "mullion/term.rules", "internal/strconv.uint64pow10", "math/bits.deBruijn32tab", "math/bits.deBruijn64tab"], apart := false, laid := [("math/bits.deBruijn32tab", laid_math_bits_deBruijn32tab), ("math/bits.deBruijn64tab", laid_math_bits_deBruijn64tab), ("internal/strconv.uint64pow10", laid_internal_strconv_uint64pow10), ("mullion/term.rules", laid_mullion_term_rules), ("mullion/sort.words", laid_mullion_sort_words)], narrowed := true }
def SortWordsUptoSaid : Prop := sortWordsUptoRow.holds Tryz.pinned (OpenSpec.upto sortWordsSpec)

/-- 'mullionlaw11.SortShadows', WHERE WHAT IT READS IS OF BULK AT MOST 1048576: true; the input reads as it did. -/
def sortShadowsUptoRow : OpenClaim := { program := "ytgkofipifjfjhaagreatdoor", sum := "ffe09ba6ecc2fa4f0f565cd7814cab908cdf720a430383fdeb7f945f7e6a6fb9", func := "mullion/mullionlaw11.SortShadows", spec := "sortShadows", inPlace := ["internal/abi.NoEscape", "internal/bytealg.IndexByteString", "internal/bytealg.IndexString", "internal/bytealg.MakeNoZero"], unfollowed := true, recurses := true, named := ["internal/bytealg.MaxLen", "mullion/sort.words", "mullion/term.rules", "internal/strconv.uint64pow10", "math/bits.deBruijn32tab", "math/bits.deBruijn64tab"], apart := false, laid := [("math/bits.deBruijn32tab", laid_math_bits_deBruijn32tab), ("math/bits.deBruijn64tab", laid_math_bits_deBruijn64tab), ("internal/strconv.uint64pow10", laid_internal_strconv_uint64pow10), ("mullion/term.rules", laid_mullion_term_rules), ("mullion/sort.words", laid_mullion_sort_words)], narrowed := true }
def SortShadowsUptoSaid : Prop := sortShadowsUptoRow.holds Tryz.pinned (OpenSpec.upto sortShadowsSpec)

/-- 'mullionlaw11.SortArgs', WHERE WHAT IT READS IS OF BULK AT MOST 1048576: true; the input reads as it did. -/
def sortArgsUptoRow : OpenClaim := { program := "ytgkofipifjfjhaagreatdoor", sum := "ffe09ba6ecc2fa4f0f565cd7814cab908cdf720a430383fdeb7f945f7e6a6fb9", func := "mullion/mullionlaw11.SortArgs", spec := "sortArgs", inPlace := ["internal/abi.NoEscape", "internal/bytealg.IndexByteString", "internal/bytealg.IndexString", "internal/bytealg.MakeNoZero"], unfollowed := true, recurses := true, named := ["internal/bytealg.MaxLen", "mullion/sort.words", "mullion/term.rules", "internal/strconv.uint64pow10", "math/bits.deBruijn32tab", "math/bits.deBruijn64tab"], apart := false, laid := [("math/bits.deBruijn32tab", laid_math_bits_deBruijn32tab), ("math/bits.deBruijn64tab", laid_math_bits_deBruijn64tab), ("internal/strconv.uint64pow10", laid_internal_strconv_uint64pow10), ("mullion/term.rules", laid_mullion_term_rules), ("mullion/sort.words", laid_mullion_sort_words)], narrowed := true }
def SortArgsUptoSaid : Prop := sortArgsUptoRow.holds Tryz.pinned (OpenSpec.upto sortArgsSpec)

/-- 'mullionlaw12.ValueRules', WHERE WHAT IT READS IS OF BULK AT MOST 1048576: true; the input reads as it did. -/
def valueRulesUptoRow : OpenClaim := { program := "ytgkofipifjfjhaagreatdoor", sum := "ffe09ba6ecc2fa4f0f565cd7814cab908cdf720a430383fdeb7f945f7e6a6fb9", func := "mullion/mullionlaw12.ValueRules", spec := "valueRules", inPlace := ["internal/bytealg.IndexByteString", "internal/bytealg.abigen_runtime_cmpstring", "math/bits.Add64"], unfollowed := true, recurses := true, named := ["mullion/term.rules", "math/bits.divideError", "math/bits.overflowError"], loops := true, apart := false, laid := [("mullion/term.rules", laid_mullion_term_rules)], narrowed := true }
def ValueRulesUptoSaid : Prop := valueRulesUptoRow.holds Tryz.pinned (OpenSpec.upto valueRulesSpec)

/-- 'mullionlaw12.ValueLocal', WHERE WHAT IT READS IS OF BULK AT MOST 1048576: true; the input reads as it did. -/
def valueLocalUptoRow : OpenClaim := { program := "ytgkofipifjfjhaagreatdoor", sum := "ffe09ba6ecc2fa4f0f565cd7814cab908cdf720a430383fdeb7f945f7e6a6fb9", func := "mullion/mullionlaw12.ValueLocal", spec := "valueLocal", inPlace := ["internal/bytealg.IndexByteString", "internal/bytealg.abigen_runtime_cmpstring", "math/bits.Add64"], unfollowed := true, recurses := true, named := ["mullion/term.rules", "math/bits.divideError", "math/bits.overflowError"], loops := true, apart := false, laid := [("mullion/term.rules", laid_mullion_term_rules)], narrowed := true }
def ValueLocalUptoSaid : Prop := valueLocalUptoRow.holds Tryz.pinned (OpenSpec.upto valueLocalSpec)

/-- 'mullionlaw12.ValuePuts', WHERE WHAT IT READS IS OF BULK AT MOST 1048576: true; the input reads as it did. -/
def valuePutsUptoRow : OpenClaim := { program := "ytgkofipifjfjhaagreatdoor", sum := "ffe09ba6ecc2fa4f0f565cd7814cab908cdf720a430383fdeb7f945f7e6a6fb9", func := "mullion/mullionlaw12.ValuePuts", spec := "valuePuts", inPlace := ["internal/bytealg.IndexByteString", "internal/bytealg.abigen_runtime_cmpstring", "math/bits.Add64"], unfollowed := true, recurses := true, named := ["mullion/term.rules", "math/bits.divideError", "math/bits.overflowError"], apart := false, laid := [("mullion/term.rules", laid_mullion_term_rules)], narrowed := true }
def ValuePutsUptoSaid : Prop := valuePutsUptoRow.holds Tryz.pinned (OpenSpec.upto valuePutsSpec)

/-- 'mullionlaw12.ValueTables', WHERE WHAT IT READS IS OF BULK AT MOST 1048576: true; the input reads as it did. -/
def valueTablesUptoRow : OpenClaim := { program := "ytgkofipifjfjhaagreatdoor", sum := "ffe09ba6ecc2fa4f0f565cd7814cab908cdf720a430383fdeb7f945f7e6a6fb9", func := "mullion/mullionlaw12.ValueTables", spec := "valueTables", inPlace := ["internal/bytealg.IndexByteString", "internal/bytealg.abigen_runtime_cmpstring", "math/bits.Add64"], unfollowed := true, recurses := true, named := ["mullion/term.rules", "math/bits.divideError", "math/bits.overflowError"], apart := false, laid := [("mullion/term.rules", laid_mullion_term_rules)], narrowed := true }
def ValueTablesUptoSaid : Prop := valueTablesUptoRow.holds Tryz.pinned (OpenSpec.upto valueTablesSpec)

end Rows
end Go.Proofs.YtgkofipifjfjhaaGreatDoor
