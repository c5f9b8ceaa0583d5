/-
  Contract of the reference's product; its sums and differences once more, over numbers.
-/
import Derived.Test.YtkhmgdfhggejaaaGreatDoorWJR
import Derived.Test.YtkhmgdfhggejaaaGreatDoorWHeld
import Derived.Deep.Cut
namespace Go.Proofs.YtkhmgdfhggejaaaGreatDoor
set_option linter.unusedSimpArgs false
set_option linter.unusedVariables false
open Go.RowKit

/-- A cell holds a value. -/
def CellAt (w : World) (p : Addr) (v : Value) : Prop := w.cell? p = some v
theorem CellAt.up {w w' : World} {p : Addr} {v : Value} (h : CellAt w p v) (e : Ext w w') : CellAt w' p v := by
 have hl := World.block_lt_of_cell? w _ h
 unfold CellAt at *
 rw [← h]; exact Below.cell e hl
end Go.Proofs.YtkhmgdfhggejaaaGreatDoor

/-
  Contract of the reference's quotient and rest.
-/
namespace Go.Proofs.YtkhmgdfhggejaaaGreatDoor
set_option linter.unusedSimpArgs false
set_option linter.unusedVariables false
open Go.RowKit

/-- A row that lies in another block stays, when the block g is written. -/
theorem Num.away {w w' : World} {g : Nat} {A : Option Addr} {n c : Nat} {l : List Nat} (h : Num w w.heap.size (.slice A n c) l) (hg : ∀ ad, A = some ad → ad.block ≠ g) (hk : Kept [g] w w') : Num w' w'.heap.size (.slice A n c) l := by
 obtain ⟨A', n', c', e, hn, hc, hm, hs, hr⟩ := h
 injection e with e1 e2 e3
 subst e1 e2 e3
 refine ⟨A, n, c, rfl, hn, hc, hm, hs, fun hne => ?_⟩
 obtain ⟨ad, e, hlt, hcell⟩ := hr hne
 refine ⟨ad, e, Nat.lt_of_lt_of_le hlt hk.1.size, fun i x hx => ?_⟩
 rw [← hcell i x hx]
 exact World.cell?_of_block (by rw [addr_block]; exact hk.2 ad.block hlt (by simpa using hg ad e))
theorem IsN.away {w w' : World} {g : Nat} {A : Option Addr} {n c N k : Nat} (h : IsN w (.slice A n c) N k) (hg : ∀ ad, A = some ad → ad.block ≠ g) (hk : Kept [g] w w') : IsN w' (.slice A n c) N k := ⟨h.1.away hg hk, h.2⟩
end Go.Proofs.YtkhmgdfhggejaaaGreatDoor

