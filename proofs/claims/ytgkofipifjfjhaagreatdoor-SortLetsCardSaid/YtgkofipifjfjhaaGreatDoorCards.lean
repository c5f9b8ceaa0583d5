/-
  DERIVED. GIVEN WITH THE SEED: THE CARDS: each row of YtgkofipifjfjhaaGreatDoorRows.lean that lists a variable, with what it lists TIED to the program's text (the seventh form; the later family's looks); each row that meets fmt, with fmt's text TOLD by the authors' own Lean function (tested against real Go, not proved from fmt's source: count such statements apart). THE CARD IS WHAT COUNTS. Prove the row's statement (the work); the ties are given (YtgkofipifjfjhaaGreatDoorTie.lean); close each card by the builder's one call (the guide's Derived/Test/ToyasCard.lean, 'card_holds'). Laid BY PROGRAM, IN A SANDBOX (cutbox-door.mjs). By AI agents, Wed Nov 11 2026. No macro, syntax, notation, axiom, sorry.
-/
import Derived.Test.YtgkofipifjfjhaaGreatDoorRows
import GoSem.ClaimSeven
namespace Go.Proofs.YtgkofipifjfjhaaGreatDoor
namespace Rows

/-- THE TIED CARD OF 'mullionlaw11.SortTells'. -/
def sortTellsCard : Claim7 := { stood := { row := sortTellsRow, standIns := [], harness := (true, "97919e33c6727bfce10084ca898349266b2bb967282c0e34b25a714405ac7c90"), looks := false }, kinds := [], alts := [], laidByText := true, laidKinds := [.data, .data, .data, .wider, .data], laidTests := true, laidLooks := .later }
def SortTellsCardSaid : Prop := Claim7.holds Tryz.pinned (.plain (OpenSpec.ofChange sortTellsSpec)) sortTellsCard

/-- THE TIED CARD OF 'mullionlaw11.SortLets'. -/
def sortLetsCard : Claim7 := { stood := { row := sortLetsRow, standIns := [], harness := (true, "97919e33c6727bfce10084ca898349266b2bb967282c0e34b25a714405ac7c90"), looks := false }, kinds := [], alts := [], laidByText := true, laidKinds := [.data, .data, .data, .wider, .data], laidTests := true, laidLooks := .later }
def SortLetsCardSaid : Prop := Claim7.holds Tryz.pinned (.plain (OpenSpec.ofChange sortLetsSpec)) sortLetsCard

/-- THE TIED CARD OF 'mullionlaw11.SortWords'. -/
def sortWordsCard : Claim7 := { stood := { row := sortWordsRow, standIns := [], harness := (true, "97919e33c6727bfce10084ca898349266b2bb967282c0e34b25a714405ac7c90"), looks := false }, kinds := [], alts := [], laidByText := true, laidKinds := [.data, .data, .data, .wider, .data], laidTests := true, laidLooks := .later }
def SortWordsCardSaid : Prop := Claim7.holds Tryz.pinned (.plain (OpenSpec.ofChange sortWordsSpec)) sortWordsCard

/-- THE TIED CARD OF 'mullionlaw11.SortShadows'. -/
def sortShadowsCard : Claim7 := { stood := { row := sortShadowsRow, standIns := [], harness := (true, "97919e33c6727bfce10084ca898349266b2bb967282c0e34b25a714405ac7c90"), looks := false }, kinds := [], alts := [], laidByText := true, laidKinds := [.data, .data, .data, .wider, .data], laidTests := true, laidLooks := .later }
def SortShadowsCardSaid : Prop := Claim7.holds Tryz.pinned (.plain (OpenSpec.ofChange sortShadowsSpec)) sortShadowsCard

/-- THE TIED CARD OF 'mullionlaw11.SortArgs'. -/
def sortArgsCard : Claim7 := { stood := { row := sortArgsRow, standIns := [], harness := (true, "97919e33c6727bfce10084ca898349266b2bb967282c0e34b25a714405ac7c90"), looks := false }, kinds := [], alts := [], laidByText := true, laidKinds := [.data, .data, .data, .wider, .data], laidTests := true, laidLooks := .later }
def SortArgsCardSaid : Prop := Claim7.holds Tryz.pinned (.plain (OpenSpec.ofChange sortArgsSpec)) sortArgsCard

/-- THE TIED CARD OF 'mullionlaw12.ValueRules'. -/
def valueRulesCard : Claim7 := { stood := { row := valueRulesRow, standIns := [], harness := (true, "97919e33c6727bfce10084ca898349266b2bb967282c0e34b25a714405ac7c90"), looks := false }, kinds := [], alts := [], laidByText := true, laidKinds := [.wider], laidTests := true, laidLooks := .later }
def ValueRulesCardSaid : Prop := Claim7.holds Tryz.pinned (.plain (OpenSpec.ofChange valueRulesSpec)) valueRulesCard

/-- THE TIED CARD OF 'mullionlaw12.ValueLocal'. -/
def valueLocalCard : Claim7 := { stood := { row := valueLocalRow, standIns := [], harness := (true, "97919e33c6727bfce10084ca898349266b2bb967282c0e34b25a714405ac7c90"), looks := false }, kinds := [], alts := [], laidByText := true, laidKinds := [.wider], laidTests := true, laidLooks := .later }
def ValueLocalCardSaid : Prop := Claim7.holds Tryz.pinned (.plain (OpenSpec.ofChange valueLocalSpec)) valueLocalCard

/-- THE TIED CARD OF 'mullionlaw12.ValuePuts'. -/
def valuePutsCard : Claim7 := { stood := { row := valuePutsRow, standIns := [], harness := (true, "97919e33c6727bfce10084ca898349266b2bb967282c0e34b25a714405ac7c90"), looks := false }, kinds := [], alts := [], laidByText := true, laidKinds := [.wider], laidTests := true, laidLooks := .later }
def ValuePutsCardSaid : Prop := Claim7.holds Tryz.pinned (.plain (OpenSpec.ofChange valuePutsSpec)) valuePutsCard

/-- THE TIED CARD OF 'mullionlaw12.ValueTables'. -/
def valueTablesCard : Claim7 := { stood := { row := valueTablesRow, standIns := [], harness := (true, "97919e33c6727bfce10084ca898349266b2bb967282c0e34b25a714405ac7c90"), looks := false }, kinds := [], alts := [], laidByText := true, laidKinds := [.wider], laidTests := true, laidLooks := .later }
def ValueTablesCardSaid : Prop := Claim7.holds Tryz.pinned (.plain (OpenSpec.ofChange valueTablesSpec)) valueTablesCard

/-- THE SECOND FORM's CARD OF 'mullionlaw11.SortTells'. -/
def sortTellsUptoCard : Claim7 := { stood := { row := sortTellsUptoRow, standIns := [], harness := (true, "97919e33c6727bfce10084ca898349266b2bb967282c0e34b25a714405ac7c90"), looks := false }, kinds := [], alts := [], laidByText := true, laidKinds := [.data, .data, .data, .wider, .data], laidTests := true, laidLooks := .later }
def SortTellsUptoCardSaid : Prop := Claim7.holds Tryz.pinned (.plain (OpenSpec.upto sortTellsSpec)) sortTellsUptoCard

/-- THE SECOND FORM's CARD OF 'mullionlaw11.SortLets'. -/
def sortLetsUptoCard : Claim7 := { stood := { row := sortLetsUptoRow, standIns := [], harness := (true, "97919e33c6727bfce10084ca898349266b2bb967282c0e34b25a714405ac7c90"), looks := false }, kinds := [], alts := [], laidByText := true, laidKinds := [.data, .data, .data, .wider, .data], laidTests := true, laidLooks := .later }
def SortLetsUptoCardSaid : Prop := Claim7.holds Tryz.pinned (.plain (OpenSpec.upto sortLetsSpec)) sortLetsUptoCard

/-- THE SECOND FORM's CARD OF 'mullionlaw11.SortWords'. -/
def sortWordsUptoCard : Claim7 := { stood := { row := sortWordsUptoRow, standIns := [], harness := (true, "97919e33c6727bfce10084ca898349266b2bb967282c0e34b25a714405ac7c90"), looks := false }, kinds := [], alts := [], laidByText := true, laidKinds := [.data, .data, .data, .wider, .data], laidTests := true, laidLooks := .later }
def SortWordsUptoCardSaid : Prop := Claim7.holds Tryz.pinned (.plain (OpenSpec.upto sortWordsSpec)) sortWordsUptoCard

/-- THE SECOND FORM's CARD OF 'mullionlaw11.SortShadows'. -/
def sortShadowsUptoCard : Claim7 := { stood := { row := sortShadowsUptoRow, standIns := [], harness := (true, "97919e33c6727bfce10084ca898349266b2bb967282c0e34b25a714405ac7c90"), looks := false }, kinds := [], alts := [], laidByText := true, laidKinds := [.data, .data, .data, .wider, .data], laidTests := true, laidLooks := .later }
def SortShadowsUptoCardSaid : Prop := Claim7.holds Tryz.pinned (.plain (OpenSpec.upto sortShadowsSpec)) sortShadowsUptoCard

/-- THE SECOND FORM's CARD OF 'mullionlaw11.SortArgs'. -/
def sortArgsUptoCard : Claim7 := { stood := { row := sortArgsUptoRow, standIns := [], harness := (true, "97919e33c6727bfce10084ca898349266b2bb967282c0e34b25a714405ac7c90"), looks := false }, kinds := [], alts := [], laidByText := true, laidKinds := [.data, .data, .data, .wider, .data], laidTests := true, laidLooks := .later }
def SortArgsUptoCardSaid : Prop := Claim7.holds Tryz.pinned (.plain (OpenSpec.upto sortArgsSpec)) sortArgsUptoCard

/-- THE SECOND FORM's CARD OF 'mullionlaw12.ValueRules'. -/
def valueRulesUptoCard : Claim7 := { stood := { row := valueRulesUptoRow, standIns := [], harness := (true, "97919e33c6727bfce10084ca898349266b2bb967282c0e34b25a714405ac7c90"), looks := false }, kinds := [], alts := [], laidByText := true, laidKinds := [.wider], laidTests := true, laidLooks := .later }
def ValueRulesUptoCardSaid : Prop := Claim7.holds Tryz.pinned (.plain (OpenSpec.upto valueRulesSpec)) valueRulesUptoCard

/-- THE SECOND FORM's CARD OF 'mullionlaw12.ValueLocal'. -/
def valueLocalUptoCard : Claim7 := { stood := { row := valueLocalUptoRow, standIns := [], harness := (true, "97919e33c6727bfce10084ca898349266b2bb967282c0e34b25a714405ac7c90"), looks := false }, kinds := [], alts := [], laidByText := true, laidKinds := [.wider], laidTests := true, laidLooks := .later }
def ValueLocalUptoCardSaid : Prop := Claim7.holds Tryz.pinned (.plain (OpenSpec.upto valueLocalSpec)) valueLocalUptoCard

/-- THE SECOND FORM's CARD OF 'mullionlaw12.ValuePuts'. -/
def valuePutsUptoCard : Claim7 := { stood := { row := valuePutsUptoRow, standIns := [], harness := (true, "97919e33c6727bfce10084ca898349266b2bb967282c0e34b25a714405ac7c90"), looks := false }, kinds := [], alts := [], laidByText := true, laidKinds := [.wider], laidTests := true, laidLooks := .later }
def ValuePutsUptoCardSaid : Prop := Claim7.holds Tryz.pinned (.plain (OpenSpec.upto valuePutsSpec)) valuePutsUptoCard

/-- THE SECOND FORM's CARD OF 'mullionlaw12.ValueTables'. -/
def valueTablesUptoCard : Claim7 := { stood := { row := valueTablesUptoRow, standIns := [], harness := (true, "97919e33c6727bfce10084ca898349266b2bb967282c0e34b25a714405ac7c90"), looks := false }, kinds := [], alts := [], laidByText := true, laidKinds := [.wider], laidTests := true, laidLooks := .later }
def ValueTablesUptoCardSaid : Prop := Claim7.holds Tryz.pinned (.plain (OpenSpec.upto valueTablesSpec)) valueTablesUptoCard
end Rows
end Go.Proofs.YtgkofipifjfjhaaGreatDoor
