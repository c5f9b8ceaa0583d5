/-
  DERIVED. GIVEN WITH THE SEED: THE CARDS: each row of YtaoboilkpgphaaaDoorRows.lean that lists a variable, with what it lists TIED to the program's text (the seventh form; the later family's looks); each row that meets fmt, with fmt's text TOLD by the authors' own Lean function (tested against real Go, not proved from fmt's source: count such statements apart). THE CARD IS WHAT COUNTS. Prove the row's statement (the work); the ties are given (YtaoboilkpgphaaaDoorTie.lean); close each card by the builder's one call (the guide's Derived/Test/ToyasCard.lean, 'card_holds'). Laid BY PROGRAM, IN A SANDBOX (cutbox-door.mjs). By AI agents, Wed Nov 11 2026. No macro, syntax, notation, axiom, sorry.
-/
import Derived.Test.YtaoboilkpgphaaaDoorRows
import GoSem.ClaimSeven
namespace Go.Proofs.YtaoboilkpgphaaaDoor
namespace Rows

/-- THE TIED CARD OF 'mullionlaw10.TermTells'. -/
def termTellsCard : Claim7 := { stood := { row := termTellsRow, standIns := [], harness := (true, "f899a3101d62cdf005579eda4fae620cc3f9f39d5f1c2afb03dc083a00a7d495"), looks := false }, kinds := [], alts := [], laidByText := true, laidKinds := [.wider], laidTests := true, laidLooks := .later }
def TermTellsCardSaid : Prop := Claim7.holds Tryd.pinned (.plain (OpenSpec.ofChange termTellsSpec)) termTellsCard

/-- THE TIED CARD OF 'mullionlaw10.TermSound'. -/
def termSoundCard : Claim7 := { stood := { row := termSoundRow, standIns := [], harness := (true, "f899a3101d62cdf005579eda4fae620cc3f9f39d5f1c2afb03dc083a00a7d495"), looks := false }, kinds := [], alts := [], laidByText := true, laidKinds := [.wider], laidTests := true, laidLooks := .later }
def TermSoundCardSaid : Prop := Claim7.holds Tryd.pinned (.plain (OpenSpec.ofChange termSoundSpec)) termSoundCard

/-- THE TIED CARD OF 'mullionlaw10.TermLinear'. -/
def termLinearCard : Claim7 := { stood := { row := termLinearRow, standIns := [], harness := (true, "f899a3101d62cdf005579eda4fae620cc3f9f39d5f1c2afb03dc083a00a7d495"), looks := false }, kinds := [], alts := [], laidByText := true, laidKinds := [.wider], laidTests := true, laidLooks := .later }
def TermLinearCardSaid : Prop := Claim7.holds Tryd.pinned (.plain (OpenSpec.ofChange termLinearSpec)) termLinearCard

/-- THE TIED CARD OF 'mullionlaw10.TermGreat'. -/
def termGreatCard : Claim7 := { stood := { row := termGreatRow, standIns := [], harness := (true, "f899a3101d62cdf005579eda4fae620cc3f9f39d5f1c2afb03dc083a00a7d495"), looks := false }, kinds := [], alts := [], laidByText := true, laidKinds := [.wider], laidTests := true, laidLooks := .later }
def TermGreatCardSaid : Prop := Claim7.holds Tryd.pinned (.plain (OpenSpec.ofChange termGreatSpec)) termGreatCard

/-- THE TIED CARD OF 'mullionlaw10.TermNames'. -/
def termNamesCard : Claim7 := { stood := { row := termNamesRow, standIns := [], harness := (true, "f899a3101d62cdf005579eda4fae620cc3f9f39d5f1c2afb03dc083a00a7d495"), looks := false }, kinds := [], alts := [], laidByText := true, laidKinds := [.wider], laidTests := true, laidLooks := .later }
def TermNamesCardSaid : Prop := Claim7.holds Tryd.pinned (.plain (OpenSpec.ofChange termNamesSpec)) termNamesCard

/-- THE SECOND FORM's CARD OF 'mullionlaw10.TermTells'. -/
def termTellsUptoCard : Claim7 := { stood := { row := termTellsUptoRow, standIns := [], harness := (true, "f899a3101d62cdf005579eda4fae620cc3f9f39d5f1c2afb03dc083a00a7d495"), looks := false }, kinds := [], alts := [], laidByText := true, laidKinds := [.wider], laidTests := true, laidLooks := .later }
def TermTellsUptoCardSaid : Prop := Claim7.holds Tryd.pinned (.plain (OpenSpec.upto termTellsSpec)) termTellsUptoCard

/-- THE SECOND FORM's CARD OF 'mullionlaw10.TermSound'. -/
def termSoundUptoCard : Claim7 := { stood := { row := termSoundUptoRow, standIns := [], harness := (true, "f899a3101d62cdf005579eda4fae620cc3f9f39d5f1c2afb03dc083a00a7d495"), looks := false }, kinds := [], alts := [], laidByText := true, laidKinds := [.wider], laidTests := true, laidLooks := .later }
def TermSoundUptoCardSaid : Prop := Claim7.holds Tryd.pinned (.plain (OpenSpec.upto termSoundSpec)) termSoundUptoCard

/-- THE SECOND FORM's CARD OF 'mullionlaw10.TermLinear'. -/
def termLinearUptoCard : Claim7 := { stood := { row := termLinearUptoRow, standIns := [], harness := (true, "f899a3101d62cdf005579eda4fae620cc3f9f39d5f1c2afb03dc083a00a7d495"), looks := false }, kinds := [], alts := [], laidByText := true, laidKinds := [.wider], laidTests := true, laidLooks := .later }
def TermLinearUptoCardSaid : Prop := Claim7.holds Tryd.pinned (.plain (OpenSpec.upto termLinearSpec)) termLinearUptoCard

/-- THE SECOND FORM's CARD OF 'mullionlaw10.TermGreat'. -/
def termGreatUptoCard : Claim7 := { stood := { row := termGreatUptoRow, standIns := [], harness := (true, "f899a3101d62cdf005579eda4fae620cc3f9f39d5f1c2afb03dc083a00a7d495"), looks := false }, kinds := [], alts := [], laidByText := true, laidKinds := [.wider], laidTests := true, laidLooks := .later }
def TermGreatUptoCardSaid : Prop := Claim7.holds Tryd.pinned (.plain (OpenSpec.upto termGreatSpec)) termGreatUptoCard

/-- THE SECOND FORM's CARD OF 'mullionlaw10.TermNames'. -/
def termNamesUptoCard : Claim7 := { stood := { row := termNamesUptoRow, standIns := [], harness := (true, "f899a3101d62cdf005579eda4fae620cc3f9f39d5f1c2afb03dc083a00a7d495"), looks := false }, kinds := [], alts := [], laidByText := true, laidKinds := [.wider], laidTests := true, laidLooks := .later }
def TermNamesUptoCardSaid : Prop := Claim7.holds Tryd.pinned (.plain (OpenSpec.upto termNamesSpec)) termNamesUptoCard
end Rows
end Go.Proofs.YtaoboilkpgphaaaDoor
