/-
  DERIVED. GIVEN WITH THE SEED: THE CARDS: each row of YtoenjbkmiphhoaaGreatDoorRows.lean that lists a variable, with what it lists TIED to the program's text (the seventh form; the later family's looks); each row that meets fmt, with fmt's text TOLD by the authors' own Lean function (tested against real Go, not proved from fmt's source: count such statements apart). THE CARD IS WHAT COUNTS. Prove the row's statement (the work); the ties are given (YtoenjbkmiphhoaaGreatDoorTie.lean); close each card by the builder's one call (the guide's Derived/Test/ToyasCard.lean, 'card_holds'). Laid BY PROGRAM, IN A SANDBOX (cutbox-door.mjs). By AI agents, Wed Nov 11 2026. No macro, syntax, notation, axiom, sorry.
-/
import Derived.Test.YtoenjbkmiphhoaaGreatDoorRows
import GoSem.ClaimSeven
namespace Go.Proofs.YtoenjbkmiphhoaaGreatDoor
namespace Rows

/-- THE TIED CARD OF 'mullionlaw13.LiftTells'. -/
def liftTellsCard : Claim7 := { stood := { row := liftTellsRow, standIns := [], harness := (true, "5f4701605d636bb7c680b82a1c9530d74e280a93b48e08cde35e79c037c98caf"), looks := false }, kinds := [], alts := [], laidByText := true, laidKinds := [.data, .data, .data, .wider], laidTests := true, laidLooks := .later }
def LiftTellsCardSaid : Prop := Claim7.holds Tryz.pinned (.plain (OpenSpec.ofChange liftTellsSpec)) liftTellsCard

/-- THE TIED CARD OF 'mullionlaw13.LiftTrue'. -/
def liftTrueCard : Claim7 := { stood := { row := liftTrueRow, standIns := [], harness := (true, "5f4701605d636bb7c680b82a1c9530d74e280a93b48e08cde35e79c037c98caf"), looks := false }, kinds := [], alts := [], laidByText := true, laidKinds := [.data, .data, .data, .wider], laidTests := true, laidLooks := .later }
def LiftTrueCardSaid : Prop := Claim7.holds Tryz.pinned (.plain (OpenSpec.ofChange liftTrueSpec)) liftTrueCard

/-- THE TIED CARD OF 'mullionlaw13.LiftBack'. -/
def liftBackCard : Claim7 := { stood := { row := liftBackRow, standIns := [], harness := (true, "5f4701605d636bb7c680b82a1c9530d74e280a93b48e08cde35e79c037c98caf"), looks := false }, kinds := [], alts := [], laidByText := true, laidKinds := [.data, .data, .data, .wider], laidTests := true, laidLooks := .later }
def LiftBackCardSaid : Prop := Claim7.holds Tryz.pinned (.plain (OpenSpec.ofChange liftBackSpec)) liftBackCard

/-- THE TIED CARD OF 'mullionlaw13.LiftAbs'. -/
def liftAbsCard : Claim7 := { stood := { row := liftAbsRow, standIns := [], harness := (true, "5f4701605d636bb7c680b82a1c9530d74e280a93b48e08cde35e79c037c98caf"), looks := false }, kinds := [], alts := [], laidByText := true, laidKinds := [.data, .data, .data, .wider], laidTests := true, laidLooks := .later }
def LiftAbsCardSaid : Prop := Claim7.holds Tryz.pinned (.plain (OpenSpec.ofChange liftAbsSpec)) liftAbsCard

/-- THE TIED CARD OF 'mullionlaw13.LiftStays'. -/
def liftStaysCard : Claim7 := { stood := { row := liftStaysRow, standIns := [], harness := (true, "5f4701605d636bb7c680b82a1c9530d74e280a93b48e08cde35e79c037c98caf"), looks := false }, kinds := [], alts := [], laidByText := true, laidKinds := [.data, .data, .data, .wider], laidTests := true, laidLooks := .later }
def LiftStaysCardSaid : Prop := Claim7.holds Tryz.pinned (.plain (OpenSpec.ofChange liftStaysSpec)) liftStaysCard

/-- THE SECOND FORM's CARD OF 'mullionlaw13.LiftTells'. -/
def liftTellsUptoCard : Claim7 := { stood := { row := liftTellsUptoRow, standIns := [], harness := (true, "5f4701605d636bb7c680b82a1c9530d74e280a93b48e08cde35e79c037c98caf"), looks := false }, kinds := [], alts := [], laidByText := true, laidKinds := [.data, .data, .data, .wider], laidTests := true, laidLooks := .later }
def LiftTellsUptoCardSaid : Prop := Claim7.holds Tryz.pinned (.plain (OpenSpec.upto liftTellsSpec)) liftTellsUptoCard

/-- THE SECOND FORM's CARD OF 'mullionlaw13.LiftTrue'. -/
def liftTrueUptoCard : Claim7 := { stood := { row := liftTrueUptoRow, standIns := [], harness := (true, "5f4701605d636bb7c680b82a1c9530d74e280a93b48e08cde35e79c037c98caf"), looks := false }, kinds := [], alts := [], laidByText := true, laidKinds := [.data, .data, .data, .wider], laidTests := true, laidLooks := .later }
def LiftTrueUptoCardSaid : Prop := Claim7.holds Tryz.pinned (.plain (OpenSpec.upto liftTrueSpec)) liftTrueUptoCard

/-- THE SECOND FORM's CARD OF 'mullionlaw13.LiftBack'. -/
def liftBackUptoCard : Claim7 := { stood := { row := liftBackUptoRow, standIns := [], harness := (true, "5f4701605d636bb7c680b82a1c9530d74e280a93b48e08cde35e79c037c98caf"), looks := false }, kinds := [], alts := [], laidByText := true, laidKinds := [.data, .data, .data, .wider], laidTests := true, laidLooks := .later }
def LiftBackUptoCardSaid : Prop := Claim7.holds Tryz.pinned (.plain (OpenSpec.upto liftBackSpec)) liftBackUptoCard

/-- THE SECOND FORM's CARD OF 'mullionlaw13.LiftAbs'. -/
def liftAbsUptoCard : Claim7 := { stood := { row := liftAbsUptoRow, standIns := [], harness := (true, "5f4701605d636bb7c680b82a1c9530d74e280a93b48e08cde35e79c037c98caf"), looks := false }, kinds := [], alts := [], laidByText := true, laidKinds := [.data, .data, .data, .wider], laidTests := true, laidLooks := .later }
def LiftAbsUptoCardSaid : Prop := Claim7.holds Tryz.pinned (.plain (OpenSpec.upto liftAbsSpec)) liftAbsUptoCard

/-- THE SECOND FORM's CARD OF 'mullionlaw13.LiftStays'. -/
def liftStaysUptoCard : Claim7 := { stood := { row := liftStaysUptoRow, standIns := [], harness := (true, "5f4701605d636bb7c680b82a1c9530d74e280a93b48e08cde35e79c037c98caf"), looks := false }, kinds := [], alts := [], laidByText := true, laidKinds := [.data, .data, .data, .wider], laidTests := true, laidLooks := .later }
def LiftStaysUptoCardSaid : Prop := Claim7.holds Tryz.pinned (.plain (OpenSpec.upto liftStaysSpec)) liftStaysUptoCard
end Rows
end Go.Proofs.YtoenjbkmiphhoaaGreatDoor
