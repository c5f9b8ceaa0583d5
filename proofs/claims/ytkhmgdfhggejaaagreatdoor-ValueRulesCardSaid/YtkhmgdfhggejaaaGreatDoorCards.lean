/-
  DERIVED. GIVEN WITH THE SEED: THE CARDS: each row of YtkhmgdfhggejaaaGreatDoorRows.lean that lists a variable, with what it lists TIED to the program's text (the seventh form; the later family's looks); each row that meets fmt, with fmt's text TOLD by the authors' own Lean function (tested against real Go, not proved from fmt's source: count such statements apart). THE CARD IS WHAT COUNTS. Prove the row's statement (the work); the ties are given (YtkhmgdfhggejaaaGreatDoorTie.lean); close each card by the builder's one call (the guide's Derived/Test/ToyasCard.lean, 'card_holds'). Laid BY PROGRAM, IN A SANDBOX (cutbox-door.mjs). By AI agents, Wed Nov 11 2026. No macro, syntax, notation, axiom, sorry.
-/
import Derived.Test.YtkhmgdfhggejaaaGreatDoorRows
import GoSem.ClaimSeven
namespace Go.Proofs.YtkhmgdfhggejaaaGreatDoor
namespace Rows

/-- THE TIED CARD OF 'mullionlaw12.ValueRules'. -/
def valueRulesCard : Claim7 := { stood := { row := valueRulesRow, standIns := [], harness := (true, "04e02f7b34e8c1bcaa6f022f14e9ddbb32871715d3d818f807d0737f24366ef9"), looks := false }, kinds := [], alts := [], laidByText := true, laidKinds := [.wider], laidTests := true, laidLooks := .later }
def ValueRulesCardSaid : Prop := Claim7.holds Tryz.pinned (.plain (OpenSpec.ofChange valueRulesSpec)) valueRulesCard

/-- THE TIED CARD OF 'mullionlaw12.ValueLocal'. -/
def valueLocalCard : Claim7 := { stood := { row := valueLocalRow, standIns := [], harness := (true, "04e02f7b34e8c1bcaa6f022f14e9ddbb32871715d3d818f807d0737f24366ef9"), looks := false }, kinds := [], alts := [], laidByText := true, laidKinds := [.wider], laidTests := true, laidLooks := .later }
def ValueLocalCardSaid : Prop := Claim7.holds Tryz.pinned (.plain (OpenSpec.ofChange valueLocalSpec)) valueLocalCard

/-- THE TIED CARD OF 'mullionlaw12.ValuePuts'. -/
def valuePutsCard : Claim7 := { stood := { row := valuePutsRow, standIns := [], harness := (true, "04e02f7b34e8c1bcaa6f022f14e9ddbb32871715d3d818f807d0737f24366ef9"), looks := false }, kinds := [], alts := [], laidByText := true, laidKinds := [.wider], laidTests := true, laidLooks := .later }
def ValuePutsCardSaid : Prop := Claim7.holds Tryz.pinned (.plain (OpenSpec.ofChange valuePutsSpec)) valuePutsCard

/-- THE TIED CARD OF 'mullionlaw12.ValueTables'. -/
def valueTablesCard : Claim7 := { stood := { row := valueTablesRow, standIns := [], harness := (true, "04e02f7b34e8c1bcaa6f022f14e9ddbb32871715d3d818f807d0737f24366ef9"), looks := false }, kinds := [], alts := [], laidByText := true, laidKinds := [.wider], laidTests := true, laidLooks := .later }
def ValueTablesCardSaid : Prop := Claim7.holds Tryz.pinned (.plain (OpenSpec.ofChange valueTablesSpec)) valueTablesCard

/-- THE SECOND FORM's CARD OF 'mullionlaw12.ValueRules'. -/
def valueRulesUptoCard : Claim7 := { stood := { row := valueRulesUptoRow, standIns := [], harness := (true, "04e02f7b34e8c1bcaa6f022f14e9ddbb32871715d3d818f807d0737f24366ef9"), looks := false }, kinds := [], alts := [], laidByText := true, laidKinds := [.wider], laidTests := true, laidLooks := .later }
def ValueRulesUptoCardSaid : Prop := Claim7.holds Tryz.pinned (.plain (OpenSpec.upto valueRulesSpec)) valueRulesUptoCard

/-- THE SECOND FORM's CARD OF 'mullionlaw12.ValueLocal'. -/
def valueLocalUptoCard : Claim7 := { stood := { row := valueLocalUptoRow, standIns := [], harness := (true, "04e02f7b34e8c1bcaa6f022f14e9ddbb32871715d3d818f807d0737f24366ef9"), looks := false }, kinds := [], alts := [], laidByText := true, laidKinds := [.wider], laidTests := true, laidLooks := .later }
def ValueLocalUptoCardSaid : Prop := Claim7.holds Tryz.pinned (.plain (OpenSpec.upto valueLocalSpec)) valueLocalUptoCard

/-- THE SECOND FORM's CARD OF 'mullionlaw12.ValuePuts'. -/
def valuePutsUptoCard : Claim7 := { stood := { row := valuePutsUptoRow, standIns := [], harness := (true, "04e02f7b34e8c1bcaa6f022f14e9ddbb32871715d3d818f807d0737f24366ef9"), looks := false }, kinds := [], alts := [], laidByText := true, laidKinds := [.wider], laidTests := true, laidLooks := .later }
def ValuePutsUptoCardSaid : Prop := Claim7.holds Tryz.pinned (.plain (OpenSpec.upto valuePutsSpec)) valuePutsUptoCard

/-- THE SECOND FORM's CARD OF 'mullionlaw12.ValueTables'. -/
def valueTablesUptoCard : Claim7 := { stood := { row := valueTablesUptoRow, standIns := [], harness := (true, "04e02f7b34e8c1bcaa6f022f14e9ddbb32871715d3d818f807d0737f24366ef9"), looks := false }, kinds := [], alts := [], laidByText := true, laidKinds := [.wider], laidTests := true, laidLooks := .later }
def ValueTablesUptoCardSaid : Prop := Claim7.holds Tryz.pinned (.plain (OpenSpec.upto valueTablesSpec)) valueTablesUptoCard
end Rows
end Go.Proofs.YtkhmgdfhggejaaaGreatDoor
