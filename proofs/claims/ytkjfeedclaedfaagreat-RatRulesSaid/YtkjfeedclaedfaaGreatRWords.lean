/-
  Words for fractions in memory: an api.Rat (a bool and two rows of limbs), and package rat's own fraction (two integers).
-/
import Derived.Test.YtkjfeedclaedfaaGreatGFace
import Derived.Test.YtkjfeedclaedfaaGreatZBase
import Derived.Test.YtkjfeedclaedfaaGreatRZA
import Derived.Test.YtkjfeedclaedfaaGreatRMat
import Derived.Test.YtkjfeedclaedfaaGreatHeldW
namespace Go.Proofs.YtkjfeedclaedfaaGreat
set_option linter.unusedSimpArgs false
set_option linter.unusedVariables false
open Go.RowKit

/-- What an api.Rat counts as. -/
def WorthR (w : World) (v : Value) (x : Rat) (k : Nat) : Prop := ∃ g A n c l B m d r, v = .agg #[.bool g, .slice A n c, .slice B m d] ∧ Num w w.heap.size (.slice A n c) l ∧ Num w w.heap.size (.slice B m d) r ∧ l.length ≤ k ∧ r.length ≤ k ∧ M.rv g l r = x
/-- The api.Rat of the fraction x, its parts of at most k limbs. -/
def IsR (w : World) (v : Value) (x : Rat) (k : Nat) : Prop := ∃ g A n c B m d, v = .agg #[.bool g, .slice A n c, .slice B m d] ∧ IsZ w (.agg #[.bool g, .slice A n c]) x.num k ∧ IsZ w (.agg #[.bool false, .slice B m d]) (x.den : Int) k
/-- Package rat's own fraction x. -/
def InR (w : World) (v : Value) (x : Rat) (k : Nat) : Prop := ∃ g A n c B m d, v = .agg #[.bool g, .slice A n c, .bool false, .slice B m d] ∧ IsZ w (.agg #[.bool g, .slice A n c]) x.num k ∧ IsZ w (.agg #[.bool false, .slice B m d]) (x.den : Int) k
theorem WorthR.up {w w' : World} {v : Value} {x : Rat} {k : Nat} (h : WorthR w v x k) (e : Ext w w') : WorthR w' v x k := by
  obtain ⟨g, A, n, c, l, B, m, d, r, h1, h2, h3, h4⟩ := h
  exact ⟨g, A, n, c, l, B, m, d, r, h1, h2.up e, h3.up e, h4⟩
theorem WorthR.kz {w w' : World} {v : Value} {x : Rat} {k : Nat} (h : WorthR w v x k) (e : Keeps w w') : WorthR w' v x k := by
  obtain ⟨g, A, n, c, l, B, m, d, r, h1, h2, h3, h4⟩ := h
  exact ⟨g, A, n, c, l, B, m, d, r, h1, h2.kz e, h3.kz e, h4⟩
theorem WorthR.shape {w : World} {v : Value} {x : Rat} {k : Nat} (h : WorthR w v x k) : ∃ g A n c B m d, v = .agg #[.bool g, .slice A n c, .slice B m d] := by
  obtain ⟨g, A, n, c, l, B, m, d, r, h1, _⟩ := h
  exact ⟨g, A, n, c, B, m, d, h1⟩
theorem WorthR.wide {w : World} {v : Value} {x : Rat} {j k : Nat} (h : WorthR w v x j) (hk : j ≤ k) : WorthR w v x k := by
  obtain ⟨g, A, n, c, l, B, m, d, r, h1, h2, h3, h4, h5, h6⟩ := h
  exact ⟨g, A, n, c, l, B, m, d, r, h1, h2, h3, Nat.le_trans h4 hk, Nat.le_trans h5 hk, h6⟩
theorem IsR.mk {w : World} {x : Rat} {g : Bool} {A B : Option Addr} {n c m d k : Nat} (p : IsZ w (.agg #[.bool g, .slice A n c]) x.num k) (q : IsZ w (.agg #[.bool false, .slice B m d]) (x.den : Int) k) : IsR w (.agg #[.bool g, .slice A n c, .slice B m d]) x k := ⟨g, A, n, c, B, m, d, rfl, p, q⟩
theorem InR.mk {w : World} {x : Rat} {g : Bool} {A B : Option Addr} {n c m d k : Nat} (p : IsZ w (.agg #[.bool g, .slice A n c]) x.num k) (q : IsZ w (.agg #[.bool false, .slice B m d]) (x.den : Int) k) : InR w (.agg #[.bool g, .slice A n c, .bool false, .slice B m d]) x k := ⟨g, A, n, c, B, m, d, rfl, p, q⟩
theorem IsR.to {w : World} {v : Value} {x y : Rat} {k : Nat} (h : IsR w v x k) (e : x = y) : IsR w v y k := e ▸ h
theorem InR.to {w : World} {v : Value} {x y : Rat} {k : Nat} (h : InR w v x k) (e : x = y) : InR w v y k := e ▸ h
theorem IsR.wide {w : World} {v : Value} {x : Rat} {j k : Nat} (h : IsR w v x j) (hk : j ≤ k) : IsR w v x k := by
  obtain ⟨g, A, n, c, B, m, d, h1, h2, h3⟩ := h
  exact ⟨g, A, n, c, B, m, d, h1, h2.wide hk, h3.wide hk⟩
theorem InR.wide {w : World} {v : Value} {x : Rat} {j k : Nat} (h : InR w v x j) (hk : j ≤ k) : InR w v x k := by
  obtain ⟨g, A, n, c, B, m, d, h1, h2, h3⟩ := h
  exact ⟨g, A, n, c, B, m, d, h1, h2.wide hk, h3.wide hk⟩
theorem IsZ.parts {w : World} {g : Bool} {A : Option Addr} {n c k : Nat} {Z : Int} (h : IsZ w (.agg #[.bool g, .slice A n c]) Z k) : g = decide (Z < 0) ∧ Num w w.heap.size (.slice A n c) (M.limbs Z.natAbs) ∧ (M.limbs Z.natAbs).length ≤ k := by
  obtain ⟨g', A', n', c', e, hg, hm⟩ := h.form
  simp at e
  obtain ⟨rfl, rfl, rfl, rfl⟩ := e
  exact ⟨hg, hm.1, hm.2⟩
theorem IsZ.nat_side {w : World} {g : Bool} {A : Option Addr} {n c k N : Nat} (h : IsZ w (.agg #[.bool g, .slice A n c]) (N : Int) k) : g = false := by
  rw [h.parts.1, decide_eq_false_iff_not]; omega
theorem IsR.worth {w : World} {v : Value} {x : Rat} {k : Nat} (h : IsR w v x k) : WorthR w v x k := by
  obtain ⟨g, A, n, c, B, m, d, rfl, p, q⟩ := h
  obtain ⟨rfl, p1, p2⟩ := p.parts
  obtain ⟨_, q1, q2⟩ := q.parts
  exact ⟨_, A, n, c, _, B, m, d, _, rfl, p1, q1, p2, q2, M.rv_of x⟩
theorem IsR.shape {w : World} {v : Value} {x : Rat} {k : Nat} (h : IsR w v x k) : ∃ g A n c B m d, v = .agg #[.bool g, .slice A n c, .slice B m d] := by
  obtain ⟨g, A, n, c, B, m, d, h1, _⟩ := h
  exact ⟨g, A, n, c, B, m, d, h1⟩
theorem IsZ.one {w : World} {v : Value} {Z : Int} {k : Nat} (h : IsZ w v Z k) (hZ : Z = 1) : IsZ w v 1 1 := (h.to hZ).short (by decide)
/-- An argument that is a fraction: its own parts. -/
theorem WorthR.parts {w : World} {g : Bool} {A B : Option Addr} {n c m d k : Nat} {l r : List Nat} (hm : Num w w.heap.size (.slice A n c) l) (hr : Num w w.heap.size (.slice B m d) r) (hl : l.length ≤ k) (hk : r.length ≤ k) (h : M.isR g l r = true) :
    IsZ w (.agg #[.bool g, .slice A n c]) (M.rv g l r).num k ∧ IsZ w (.agg #[.bool false, .slice B m d]) ((M.rv g l r).den : Int) k := by
  obtain ⟨e1, e2⟩ := M.rv_parts h
  obtain ⟨h1, h2, h3, h4⟩ := M.isR_iff.1 h
  rw [e1, e2]
  have i1 := (M.zv_lt h1).symm
  have i2 := M.limbs_zv h1
  refine ⟨?_, ?_⟩
  · exact IsZ.mk i1 ⟨by rw [i2]; exact hm, by rw [i2]; exact hl⟩
  · have e : M.limbs ((M.val r : Int)).natAbs = r := M.limbs_val (M.isNat_iff.1 h2).1 (M.isNat_iff.1 h2).2
    exact IsZ.mk (by rw [eq_comm, decide_eq_false_iff_not]; omega) ⟨by rw [e]; exact hr, by rw [e]; exact hk⟩
def GivesR (w : World) (x : Rat) (k : Nat) (e : Ending) (w' : World) : Prop := ∃ v, e = .returned v ∧ IsR w' v x k ∧ Ext w w'
def GivesIn (w : World) (x : Rat) (k : Nat) (e : Ending) (w' : World) : Prop := ∃ v, e = .returned v ∧ InR w' v x k ∧ Ext w w'
end Go.Proofs.YtkjfeedclaedfaaGreat
