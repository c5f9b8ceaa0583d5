/-
  DERIVED. GIVEN WITH THE SEED: THE PROGRAM's TIES (one call each: nine closed facts by the kernel) AND EACH ROW's TIE, after the 31st guide's Derived/Test/Toyas{Tie, Card}.lean. No idea stands in it: it is a product of the set-up. Laid BY PROGRAM, IN A SANDBOX (cutbox-door.mjs). By AI agents, Wed Nov 11 2026. No macro, syntax, notation, axiom, sorry.
-/
import Derived.Test.YtgkofipifjfjhaaGreatDoorRows
import Derived.LaidByTextLater
import Derived.SevenTiedAt
import Derived.LaidSub
import Derived.LaidOnce
namespace Go.Proofs.YtgkofipifjfjhaaGreatDoor
open Go
set_option maxRecDepth 100000
theorem seatTie1 : Tryz.prog.laidByTextLater [("math/bits.deBruijn32tab", Rows.laid_math_bits_deBruijn32tab), ("math/bits.deBruijn64tab", Rows.laid_math_bits_deBruijn64tab), ("internal/strconv.uint64pow10", Rows.laid_internal_strconv_uint64pow10), ("mullion/term.rules", Rows.laid_mullion_term_rules), ("mullion/sort.words", Rows.laid_mullion_sort_words)] [.data, .data, .data, .wider, .data] true :=
  Program.laidByTextLater_by_one 52 8 116 (by kernel_rfl) (by kernel_rfl) (by kernel_rfl) (by kernel_rfl) (by kernel_rfl) (by kernel_rfl) (fun _ _ => by kernel_rfl)
theorem noOwnUnsafe : Tryz.pinned.checked.prog.headLifts.contains "ownunsafe" = false := by kernel_rfl
theorem tie : Tryz.prog.laidByTextLater [("math/bits.deBruijn32tab", Rows.laid_math_bits_deBruijn32tab), ("math/bits.deBruijn64tab", Rows.laid_math_bits_deBruijn64tab), ("internal/strconv.uint64pow10", Rows.laid_internal_strconv_uint64pow10), ("mullion/term.rules", Rows.laid_mullion_term_rules), ("mullion/sort.words", Rows.laid_mullion_sort_words)] [.data, .data, .data, .wider, .data] true :=
  Program.laidByTextLater.sub seatTie1 ["math/bits.deBruijn32tab", "math/bits.deBruijn64tab", "internal/strconv.uint64pow10", "mullion/term.rules", "mullion/sort.words"] (by kernel_rfl) (by kernel_rfl)
theorem sortTells_row_tie : Rows.sortTellsRow.laidByTextAt .later Tryz.pinned [.data, .data, .data, .wider, .data] true :=
  OpenClaim.laidByTextAt_later rfl rfl tie noOwnUnsafe
theorem sortLets_row_tie : Rows.sortLetsRow.laidByTextAt .later Tryz.pinned [.data, .data, .data, .wider, .data] true :=
  OpenClaim.laidByTextAt_later rfl rfl tie noOwnUnsafe
theorem sortWords_row_tie : Rows.sortWordsRow.laidByTextAt .later Tryz.pinned [.data, .data, .data, .wider, .data] true :=
  OpenClaim.laidByTextAt_later rfl rfl tie noOwnUnsafe
theorem sortShadows_row_tie : Rows.sortShadowsRow.laidByTextAt .later Tryz.pinned [.data, .data, .data, .wider, .data] true :=
  OpenClaim.laidByTextAt_later rfl rfl tie noOwnUnsafe
theorem sortArgs_row_tie : Rows.sortArgsRow.laidByTextAt .later Tryz.pinned [.data, .data, .data, .wider, .data] true :=
  OpenClaim.laidByTextAt_later rfl rfl tie noOwnUnsafe
theorem tie2 : Tryz.prog.laidByTextLater [("mullion/term.rules", Rows.laid_mullion_term_rules)] [.wider] true :=
  Program.laidByTextLater.sub seatTie1 ["mullion/term.rules"] (by kernel_rfl) (by kernel_rfl)
theorem valueRules_row_tie : Rows.valueRulesRow.laidByTextAt .later Tryz.pinned [.wider] true :=
  OpenClaim.laidByTextAt_later rfl rfl tie2 noOwnUnsafe
theorem valueLocal_row_tie : Rows.valueLocalRow.laidByTextAt .later Tryz.pinned [.wider] true :=
  OpenClaim.laidByTextAt_later rfl rfl tie2 noOwnUnsafe
theorem valuePuts_row_tie : Rows.valuePutsRow.laidByTextAt .later Tryz.pinned [.wider] true :=
  OpenClaim.laidByTextAt_later rfl rfl tie2 noOwnUnsafe
theorem valueTables_row_tie : Rows.valueTablesRow.laidByTextAt .later Tryz.pinned [.wider] true :=
  OpenClaim.laidByTextAt_later rfl rfl tie2 noOwnUnsafe
theorem sortTellsUpto_row_tie : Rows.sortTellsUptoRow.laidByTextAt .later Tryz.pinned [.data, .data, .data, .wider, .data] true :=
  OpenClaim.laidByTextAt_later rfl rfl tie noOwnUnsafe
theorem sortLetsUpto_row_tie : Rows.sortLetsUptoRow.laidByTextAt .later Tryz.pinned [.data, .data, .data, .wider, .data] true :=
  OpenClaim.laidByTextAt_later rfl rfl tie noOwnUnsafe
theorem sortWordsUpto_row_tie : Rows.sortWordsUptoRow.laidByTextAt .later Tryz.pinned [.data, .data, .data, .wider, .data] true :=
  OpenClaim.laidByTextAt_later rfl rfl tie noOwnUnsafe
theorem sortShadowsUpto_row_tie : Rows.sortShadowsUptoRow.laidByTextAt .later Tryz.pinned [.data, .data, .data, .wider, .data] true :=
  OpenClaim.laidByTextAt_later rfl rfl tie noOwnUnsafe
theorem sortArgsUpto_row_tie : Rows.sortArgsUptoRow.laidByTextAt .later Tryz.pinned [.data, .data, .data, .wider, .data] true :=
  OpenClaim.laidByTextAt_later rfl rfl tie noOwnUnsafe
theorem valueRulesUpto_row_tie : Rows.valueRulesUptoRow.laidByTextAt .later Tryz.pinned [.wider] true :=
  OpenClaim.laidByTextAt_later rfl rfl tie2 noOwnUnsafe
theorem valueLocalUpto_row_tie : Rows.valueLocalUptoRow.laidByTextAt .later Tryz.pinned [.wider] true :=
  OpenClaim.laidByTextAt_later rfl rfl tie2 noOwnUnsafe
theorem valuePutsUpto_row_tie : Rows.valuePutsUptoRow.laidByTextAt .later Tryz.pinned [.wider] true :=
  OpenClaim.laidByTextAt_later rfl rfl tie2 noOwnUnsafe
theorem valueTablesUpto_row_tie : Rows.valueTablesUptoRow.laidByTextAt .later Tryz.pinned [.wider] true :=
  OpenClaim.laidByTextAt_later rfl rfl tie2 noOwnUnsafe
end Go.Proofs.YtgkofipifjfjhaaGreatDoor
