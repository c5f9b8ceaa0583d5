/-
  The contracts of package nat once more, over numbers: a row that is worth N, of at most k limbs.
-/
import Derived.Test.YthlafkbldlmmaaaDoorCmp
namespace Go.Proofs.YthlafkbldlmmaaaDoor
set_option linter.unusedSimpArgs false
set_option linter.unusedVariables false
open Go.RowKit

/-- Nothing that was there has turned. -/
def Ext (w w' : World) : Prop := Below w.heap.size w w'
theorem Ext.refl (w : World) : Ext w w := Below.refl _ _
theorem Ext.trans {a b c : World} (h : Ext a b) (k : Ext b c) : Ext a c := Below.trans (B := a.heap.size) h (Below.mono k h.size)
theorem Ext.below {a b : World} (h : Ext a b) : Below a.heap.size a b := h
theorem Ext.alloc (w : World) (o : Obj) : Ext w (w.alloc o) := (Below.refl _ _).alloc (Nat.le_refl _) o
theorem Num.up {w w' : World} {v : Value} {l : List Nat} (h : Num w w.heap.size v l) (e : Ext w w') : Num w' w'.heap.size v l := h.keep e e.size

/-- The value v is the row of the number N, of at most k limbs. -/
def IsN (w : World) (v : Value) (N k : Nat) : Prop := Num w w.heap.size v (M.limbs N) ∧ (M.limbs N).length ≤ k
theorem IsN.up {w w' : World} {v : Value} {N k : Nat} (h : IsN w v N k) (e : Ext w w') : IsN w' v N k := ⟨h.1.up e, h.2⟩
theorem IsN.len {w : World} {v : Value} {N k : Nat} (h : IsN w v N k) : N < 1000000000 ^ k := Nat.lt_of_lt_of_le (M.limbs_len_lt N) (Nat.pow_le_pow_right (by omega) h.2)
theorem IsN.of {w : World} {v : Value} {l : List Nat} {k : Nat} (h : Num w w.heap.size v l) (hl : M.isNat l = true) (hk : l.length ≤ k) : IsN w v (M.nv l) k := by
  have e : M.limbs (M.nv l) = l := by rw [M.limbs_nv, M.nat, if_pos hl]
  exact ⟨by rw [e]; exact h, by rw [e]; exact hk⟩
def GivesN (w : World) (N k : Nat) (e : Ending) (w' : World) : Prop := ∃ v, e = .returned v ∧ IsN w' v N k ∧ Ext w w'
def GivesN2 (w : World) (M k N j : Nat) (e : Ending) (w' : World) : Prop := ∃ u v, e = .returned (.tuple #[u, v]) ∧ IsN w' u M k ∧ IsN w' v N j ∧ Ext w w'

theorem isNat_n {w : World} {v : Value} {a k : Nat} (hv : IsN w v a k) :
    Calls Tryd.prog 33 #[v] w fun e w' => e = .returned (.bool true) ∧ w = w' := by
  have h := is_any w v _ hv.1
  rw [M.isNat_limbs] at h
  exact h
theorem isNat_l {w : World} {v : Value} {l : List Nat} (hv : Num w w.heap.size v l) {b : Bool} (hb : M.isNat l = b) :
    Calls Tryd.prog 33 #[v] w fun e w' => e = .returned (.bool b) ∧ w = w' := by
  have h := is_any w v _ hv
  rw [hb] at h
  exact h
theorem same_l {w : World} {u v : Value} {l m : List Nat} (hu : Num w w.heap.size u l) (hv : Num w w.heap.size v m) (h : l = m) :
    Calls Tryd.prog 38 #[u, v] w fun e w' => e = .returned (.bool true) ∧ Ext w w' :=
  (same_any w u v l m hu hv).mono fun _ _ ⟨he, k, hk⟩ => ⟨by rw [he]; simp [h], by subst hk; exact below_drewN (Below.refl _ _) k⟩
theorem lit_l {w : World} (l : List Nat) (cs : Array Value) (hc : cs = (l.map fun x : Nat => Value.int .u32 (x : Int)).toArray) (hs : ∀ x ∈ l, x < 4294967296) (n : Nat) (hn : n = l.length) (h9 : l.length ≤ 1000) (g : Nat) (hg : g = w.heap.size) :
    Num (w.alloc (.cells cs 46)) (w.alloc (.cells cs 46)).heap.size (.slice (some ⟨g, 0, none⟩) n n) l := by
  subst hg
  have hb : Blk (w.alloc (.cells cs 46)) w.heap.size l := by
    unfold Blk
    rw [heap_alloc_new w _, hc]
  exact hb.num hs (by unfold maxLen; omega) hn
end Go.Proofs.YthlafkbldlmmaaaDoor
