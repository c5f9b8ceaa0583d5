/-
  DERIVED. GIVEN WITH THE SEED: THE CARDS: each row of YtaoboilkpgphaaaGreatDoorRows.lean that lists a variable, with what it lists TIED to the program's text (the seventh form; the later family's looks); each row that meets fmt, with fmt's text TOLD by the authors' own Lean function (tested against real Go, not proved from fmt's source: count such statements apart). THE CARD IS WHAT COUNTS. Prove the row's statement (the work); the ties are given (YtaoboilkpgphaaaGreatDoorTie.lean); close each card by the builder's one call (the guide's Derived/Test/ToyasCard.lean, 'card_holds'). Laid BY PROGRAM, IN A SANDBOX (cutbox-door.mjs). By AI agents, Wed Nov 11 2026. No macro, syntax, notation, axiom, sorry.
-/
import Derived.Test.YtaoboilkpgphaaaGreatDoorRows
import GoSem.ClaimSeven
namespace Go.Proofs.YtaoboilkpgphaaaGreatDoor
namespace Rows

/-- THE TIED CARD OF 'mullionlaw10.TermMakes'. -/
def termMakesCard : Claim7 := { stood := { row := termMakesRow, standIns := [], harness := (true, "b1eccb77f7d9efa00ecdf937194798bd42195569999913a6b3e2ba8279c1cb0a"), looks := false }, kinds := [], alts := [], laidByText := true, laidKinds := [.wider], laidTests := true, laidLooks := .later }
def TermMakesCardSaid : Prop := Claim7.holds Tryz.pinned (.plain (OpenSpec.ofChange termMakesSpec)) termMakesCard

/-- THE SECOND FORM's CARD OF 'mullionlaw10.TermMakes'. -/
def termMakesUptoCard : Claim7 := { stood := { row := termMakesUptoRow, standIns := [], harness := (true, "b1eccb77f7d9efa00ecdf937194798bd42195569999913a6b3e2ba8279c1cb0a"), looks := false }, kinds := [], alts := [], laidByText := true, laidKinds := [.wider], laidTests := true, laidLooks := .later }
def TermMakesUptoCardSaid : Prop := Claim7.holds Tryz.pinned (.plain (OpenSpec.upto termMakesSpec)) termMakesUptoCard
end Rows
end Go.Proofs.YtaoboilkpgphaaaGreatDoor
