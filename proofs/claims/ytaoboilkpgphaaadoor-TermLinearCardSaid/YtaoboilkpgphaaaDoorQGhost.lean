/-
  Words: the world with some of its blocks alone; what stays while a box is written into.
-/
import Derived.Test.YtaoboilkpgphaaaDoorQTHeld
import Derived.Maps.AppendAt
namespace Go.Proofs.YtaoboilkpgphaaaDoor.Q
set_option linter.unusedSimpArgs false
set_option linter.unusedVariables false
open Go.RowKit

/-- The world with only those blocks that p tells. -/
def gp (p : Nat → Prop) [DecidablePred p] (w : World) : World := { w with heap := w.heap.mapIdx fun i o => if p i then o else .cells #[] 0 }
theorem gp_size (p : Nat → Prop) [DecidablePred p] (w : World) : (gp p w).heap.size = w.heap.size := by simp [gp]
theorem gp_cell {p : Nat → Prop} [DecidablePred p] {w : World} {a : Addr} {v : Value} : (gp p w).cell? a = some v ↔ p a.block ∧ w.cell? a = some v := by
 unfold World.cell? gp
 simp only [Array.getElem?_mapIdx]
 rcases h : w.heap[a.block]? with _ | o
 ·simp
 ·by_cases hp : p a.block
  ·simp [hp]
  ·simp [hp]
/-- All cells of the one are in the other. -/
def Sub (w w' : World) : Prop := w.heap.size ≤ w'.heap.size ∧ ∀ p v, w.cell? p = some v → w'.cell? p = some v
theorem Sub.refl (w : World) : Sub w w := ⟨Nat.le_refl _, fun _ _ h => h⟩
theorem Sub.trans {a b c : World} (h : Sub a b) (k : Sub b c) : Sub a c := ⟨Nat.le_trans h.1 k.1, fun p v hc => k.2 p v (h.2 p v hc)⟩
theorem Ext.sub {w w' : World} (h : Ext w w') : Sub w w' := ⟨h.size, fun _ _ hc => h.cell hc⟩
theorem Kept.cellA {X : List Nat} {w w' : World} (h : Kept X w w') {p : Addr} {v : Value} (hg : p.block ∉ X) (hc : w.cell? p = some v) : w'.cell? p = some v := by
 have hl := World.block_lt_of_cell? w _ hc
 rw [← hc]; exact World.cell?_of_block (h.2 _ hl hg)
theorem gp_sub (p : Nat → Prop) [DecidablePred p] (w : World) : Sub (gp p w) w := ⟨by rw [gp_size]; exact Nat.le_refl _, fun _ _ hc => (gp_cell.1 hc).2⟩
theorem gp_mono {p q : Nat → Prop} [DecidablePred p] [DecidablePred q] {w w' : World} (hs : w.heap.size ≤ w'.heap.size) (h : ∀ k, k < w.heap.size → p k → q k ∧ w'.heap[k]? = w.heap[k]?) : Sub (gp p w) (gp q w') := by
 refine ⟨by rw [gp_size, gp_size]; exact hs, fun a v hc => ?_⟩
 obtain ⟨h1, h2⟩ := gp_cell.1 hc
 obtain ⟨h3, h4⟩ := h _ (World.block_lt_of_cell? w _ h2) h1
 exact gp_cell.2 ⟨h3, by rw [← h2]; exact World.cell?_of_block h4⟩
/-- What was there, without what lies in X. -/
theorem Ext.gp_new {p : Nat → Prop} [DecidablePred p] {w w' : World} (h : Ext w w') (hp : ∀ k, k < w.heap.size → p k) : Sub w (gp p w') := by
 refine ⟨by rw [gp_size]; exact h.size, fun a v hc => gp_cell.2 ⟨hp _ (World.block_lt_of_cell? w _ hc), h.cell hc⟩⟩
/-- Blocks from base on, without the list's own. -/
abbrev beside (base : Nat) (v : Value) (k : Nat) : Prop := base ≤ k ∧ v.ownBlock ≠ some k
theorem ownsRow_frame {w w' : World} {base size n : Nat} {e : TypeId} {v : Value} {xs : List Value} (h : w.ownsRow base e size v n xs) (hb : ∀ b, base ≤ b → b < w.heap.size → w'.heap[b]? = w.heap[b]?) : w'.ownsRow base e size v n xs := by
 obtain ⟨hl, h2⟩ := h
 refine ⟨hl, h2.imp id ?_⟩
 rintro ⟨g, cap, cur, h3, h4, h5, h6⟩
 exact ⟨g, cap, cur, h3, h4, by rw [hb g h4 (Array.getElem?_eq_some_iff.1 h5).1]; exact h5, h6⟩
end Go.Proofs.YtaoboilkpgphaaaDoor.Q
