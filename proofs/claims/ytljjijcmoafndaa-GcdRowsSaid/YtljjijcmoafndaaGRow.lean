/-
  Lists of integers in memory.
-/
import Derived.Test.YtljjijcmoafndaaGShared
import Derived.Test.YtljjijcmoafndaaRefMul
import Derived.Test.YtljjijcmoafndaaZShape
namespace Go.Proofs.Ytljjijcmoafndaa
open Go.RowKit
set_option linter.unusedSimpArgs false
set_option linter.unusedVariables false

/-- The cells of the integer at place k of a list. -/
def ZAt (w : World) (ad : Addr) (k : Nat) (x : Bool × List Nat) : Prop :=
  ∃ A n c, w.cell? (ad.add (k * 2)) = some (.bool x.1) ∧ w.cell? ((ad.add (k * 2)).add 1) = some (.slice A n c) ∧ Num w w.heap.size (.slice A n c) x.2
/-- A list of api.Int in memory: what each of them holds. -/
def ZList (w : World) (v : Value) (ls : List (Bool × List Nat)) : Prop :=
  ∃ A n c, v = .slice A n c ∧ n = ls.length ∧ n ≤ c ∧ c ≤ maxLen ∧ ∀ k x, ls[k]? = some x → ∃ ad, A = some ad ∧ ad.block < w.heap.size ∧ ZAt w ad k x
theorem ZAt.up {w w' : World} {ad : Addr} {k : Nat} {x : Bool × List Nat} (h : ZAt w ad k x) (e : Ext w w') (hb : ad.block < w.heap.size) : ZAt w' ad k x := by
  obtain ⟨A, n, c, h1, h2, h3⟩ := h
  exact ⟨A, n, c, by rw [e.below.cell (by rw [addr_block]; exact hb)]; exact h1, by rw [e.below.cell (by rw [addr_block, addr_block]; exact hb)]; exact h2, h3.up e⟩
theorem ZList.up {w w' : World} {v : Value} {ls : List (Bool × List Nat)} (h : ZList w v ls) (e : Ext w w') : ZList w' v ls := by
  obtain ⟨A, n, c, h1, h2, h3, h4, h5⟩ := h
  refine ⟨A, n, c, h1, h2, h3, h4, fun k x hx => ?_⟩
  obtain ⟨ad, ha, hb, hz⟩ := h5 k x hx
  exact ⟨ad, ha, Nat.lt_of_lt_of_le hb e.size, hz.up e hb⟩
theorem ZList.shape {w : World} {v : Value} {ls : List (Bool × List Nat)} (h : ZList w v ls) : ∃ A n c, v = .slice A n c := by
  obtain ⟨A, n, c, h, _⟩ := h; exact ⟨A, n, c, h⟩
theorem ZList.count {w : World} {A : Option Addr} {n c : Nat} {ls : List (Bool × List Nat)} (h : ZList w (.slice A n c) ls) : n = ls.length ∧ n ≤ c ∧ n ≤ 9223372036854775807 := by
  obtain ⟨A', n', c', e, hn, hc, hm, _⟩ := h
  injection e with e1 e2 e3
  unfold maxLen at hm
  exact ⟨by omega, by omega, by omega⟩
theorem ZList.get {w : World} {A : Option Addr} {n c : Nat} {ls : List (Bool × List Nat)} (h : ZList w (.slice A n c) ls) {k : Nat} {x : Bool × List Nat} (hk : ls[k]? = some x) :
    ∃ ad A' n' c', A = some ad ∧ CellAt w (ad.add (k * 2)) (.bool x.1) ∧ CellAt w ((ad.add (k * 2)).add 1) (.slice A' n' c') ∧ Num w w.heap.size (.slice A' n' c') x.2 := by
  obtain ⟨A', n', c', e, hn, hc, hm, hz⟩ := h
  injection e with e1 e2 e3
  subst e1
  obtain ⟨ad, ha, _, B, p, q, h1, h2, h3⟩ := hz k x hk
  exact ⟨ad, B, p, q, ha, h1, h2, h3⟩
theorem ZList.nil (w : World) (c : Nat) (hc : c ≤ maxLen) (A : Option Addr) : ZList w (.slice A 0 c) [] := ⟨A, 0, c, rfl, rfl, Nat.zero_le _, hc, fun k x hx => by simp at hx⟩

namespace M
/-- What divides all: as package gcd goes along. -/
def gl (ls : List (Bool × List Nat)) : Nat := ls.foldl (fun d x => Nat.gcd (zv x.1 x.2).natAbs d) 0
theorem gl_nil : gl [] = 0 := rfl
theorem gl_snoc (ls : List (Bool × List Nat)) (x : Bool × List Nat) : gl (ls ++ [x]) = Nat.gcd (zv x.1 x.2).natAbs (gl ls) := by unfold gl; rw [List.foldl_append]; rfl
theorem gl_take {ls : List (Bool × List Nat)} {k : Nat} {x : Bool × List Nat} (h : ls[k]? = some x) : gl (ls.take (k + 1)) = Nat.gcd (zv x.1 x.2).natAbs (gl (ls.take k)) := by
  obtain ⟨hk, rfl⟩ := List.getElem?_eq_some_iff.1 h
  rw [List.take_succ_eq_append_getElem hk, gl_snoc]
end M
end Go.Proofs.Ytljjijcmoafndaa
