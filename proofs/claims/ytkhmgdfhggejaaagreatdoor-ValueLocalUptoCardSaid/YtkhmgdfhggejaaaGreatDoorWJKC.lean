/-
  Layer 10, the reference: terms made.
-/
import Derived.Test.YtkhmgdfhggejaaaGreatDoorWKIs
namespace Go.Proofs.YtkhmgdfhggejaaaGreatDoor.Q
set_option linter.unusedSimpArgs false
set_option linter.unusedVariables false
open Go.RowKit

/-- A row of ints in memory. -/
def Ints (w : World) (l : List Int) (v : Value) : Prop := ∃ A n c, v = .slice A n c ∧ n = l.length ∧ n ≤ c ∧ c ≤ maxLen ∧ (l ≠ [] → ∃ ad, A = some ad ∧ ad.block < w.heap.size ∧ ∀ k x, l[k]? = some x → w.cell? (ad.add k) = some (.int .i64 x))
theorem Ints.up {w w' : World} {l : List Int} {v : Value} (h : Ints w l v) (e : Ext w w') : Ints w' l v := by
 obtain ⟨A, n, c, h1, h2, h3, h4, h5⟩ := h
 refine ⟨A, n, c, h1, h2, h3, h4, fun hne => ?_⟩
 obtain ⟨ad, ha, hb, hc⟩ := h5 hne
 exact ⟨ad, ha, Nat.lt_of_lt_of_le hb e.size, fun k x hk => e.cell (hc k x hk)⟩
theorem Ints.le {w : World} {A : Option Addr} {n c : Nat} {l : List Int} (h : Ints w l (.slice A n c)) : n = l.length ∧ n ≤ c ∧ c ≤ 9223372036854775807 := by
 obtain ⟨A', n', c', e, h2, h3, h4, _⟩ := h
 injection e with e1 e2 e3
 subst e1 e2 e3
 exact ⟨h2, h3, by unfold maxLen at h4; omega⟩
theorem Ints.shape {w : World} {l : List Int} {v : Value} (h : Ints w l v) : ∃ A c, v = .slice A l.length c := by
 obtain ⟨A, n, c, h1, h2, _⟩ := h
 exact ⟨A, c, by rw [h1, h2]⟩
theorem Ints.get {w : World} {A : Option Addr} {n c : Nat} {l : List Int} (h : Ints w l (.slice A n c)) {k : Nat} (hk : k < n) : ∃ ad x, A = some ad ∧ l[k]? = some x ∧ w.cell? (ad.add k) = some (.int .i64 x) := by
 obtain ⟨A', n', c', e, h2, h3, h4, h5⟩ := h
 injection e with e1 e2 e3
 subst e1 e2 e3
 obtain ⟨ad, ha, hb, hc⟩ := h5 (by intro e; subst e; simp at h2; omega)
 have hx : l[k]? = some l[k] := List.getElem?_eq_getElem (by omega)
 exact ⟨ad, _, ha, hx, hc k _ hx⟩
/-- A name's Sig in memory. -/
abbrev sgv (nm : List UInt8) (A : Option Addr) (n c : Nat) (r : Int) : Value := .agg #[str nm, .slice A n c, .int .i64 r]
def IsSg (w : World) (s : M.Sg) (v : Value) : Prop := ∃ A c, v = sgv s.name A s.args.length c s.ret ∧ Ints w s.args (.slice A s.args.length c)
theorem IsSg.up {w w' : World} {s : M.Sg} {v : Value} (h : IsSg w s v) (e : Ext w w') : IsSg w' s v := by
 obtain ⟨A, c, h1, h2⟩ := h
 exact ⟨A, c, h1, h2.up e⟩
/-- A term that a call gives. -/
def GivesT1 (w : World) (t : M.Tm) (e : Ending) (w' : World) : Prop := ∃ v, e = .returned v ∧ IsTm w' t v ∧ Ext w w'
abbrev zero6 : Array Value := #[.int .i64 0, .bool false, .slice none 0 0, .string ⟨#[]⟩, .int .i64 0, .slice none 0 0]
theorem boxF6 {w : World} {k : Nat} {x0 x1 x2 x3 x4 x5 : Value} {T : TypeId} (h : Box w k #[x0, x1, x2, x3, x4, x5] T) : (w.cell? ⟨k, 0, none⟩ = some x0 ∧ w.cell? ⟨k, 1, none⟩ = some x1 ∧ w.cell? ⟨k, 2, none⟩ = some x2 ∧ w.cell? ⟨k, 3, none⟩ = some x3 ∧ w.cell? ⟨k, 4, none⟩ = some x4 ∧ w.cell? ⟨k, 5, none⟩ = some x5) ∧
 (w.frozen? ⟨k, 0, none⟩ = false ∧ w.frozen? ⟨k, 1, none⟩ = false ∧ w.frozen? ⟨k, 2, none⟩ = false ∧ w.frozen? ⟨k, 3, none⟩ = false ∧ w.frozen? ⟨k, 4, none⟩ = false ∧ w.frozen? ⟨k, 5, none⟩ = false) ∧ k < w.heap.size :=
 ⟨⟨h.k 0, h.k 1, h.k 2, h.k 3, h.k 4, h.k 5⟩, ⟨h.free 0, h.free 1, h.free 2, h.free 3, h.free 4, h.free 5⟩, h.lt⟩
/-- A term put into a box. -/
abbrev put6 (w : World) (k : Nat) (x0 x1 x2 x3 x4 x5 : Value) : World := (((((w.setCell ⟨k, 0, none⟩ x0).setCell ⟨k, 1, none⟩ x1).setCell ⟨k, 2, none⟩ x2).setCell ⟨k, 3, none⟩ x3).setCell ⟨k, 4, none⟩ x4).setCell ⟨k, 5, none⟩ x5
theorem put6_ext {w w1 : World} {k : Nat} {x0 x1 x2 x3 x4 x5 : Value} (e : Ext w w1) (hk : w.heap.size ≤ k) : Ext w (put6 w1 k x0 x1 x2 x3 x4 x5) := (((((e.set' hk _).set' hk _).set' hk _).set' hk _).set' hk _).set' hk _
theorem num_put6 {w : World} {v : Value} {ls : List Nat} {k : Nat} {y0 y1 y2 y3 y4 y5 x0 x1 x2 x3 x4 x5 : Value} {T : TypeId} (h : LNum w v ls) (hb : Box w k #[y0, y1, y2, y3, y4, y5] T) (hno : noLimb #[y0, y1, y2, y3, y4, y5] = true) : LNum (put6 w k x0 x1 x2 x3 x4 x5) v ls :=
 Num.kz h (keeps_store hb hno ((((((kept_setAt x0).trans (kept_setAt x1)).trans (kept_setAt x2)).trans (kept_setAt x3)).trans (kept_setAt x4)).trans (kept_setAt x5)))
/-- The term of a number. -/
def M.knumT (Z : Int) : M.Tm := .mk 1 (decide (Z < 0)) (M.limbs Z.natAbs) [] 2 []
theorem worth_shape {w : World} {v : Value} {Z : Int} {k : Nat} (h : Worth w v Z k) : ∃ g A n c, v = .agg #[.bool g, .slice A n c] := Worth.shape h
end Go.Proofs.YtkhmgdfhggejaaaGreatDoor.Q

/-
  Layer 10, the reference: an application made.
-/
namespace Go.Proofs.YtkhmgdfhggejaaaGreatDoor.Q
set_option linter.unusedSimpArgs false
set_option linter.unusedVariables false
open Go.RowKit

end Go.Proofs.YtkhmgdfhggejaaaGreatDoor.Q

