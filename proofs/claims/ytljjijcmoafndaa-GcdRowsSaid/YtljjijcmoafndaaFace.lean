/-
  The contracts of package nat once more, over numbers: a row that is worth N, of at most k limbs.
-/
import Derived.Test.YtljjijcmoafndaaDivLimb
namespace Go.Proofs.Ytljjijcmoafndaa
set_option linter.unusedSimpArgs false
set_option linter.unusedVariables false
open Go.RowKit

/-- Nothing that was there has turned. -/
def Ext (w w' : World) : Prop := Below w.heap.size w w'
theorem Ext.refl (w : World) : Ext w w := Below.refl _ _
theorem Ext.trans {a b c : World} (h : Ext a b) (k : Ext b c) : Ext a c := Below.trans (B := a.heap.size) h (Below.mono k h.size)
theorem Ext.below {a b : World} (h : Ext a b) : Below a.heap.size a b := h
theorem Ext.alloc (w : World) (o : Obj) : Ext w (w.alloc o) := (Below.refl _ _).alloc (Nat.le_refl _) o
theorem Num.up {w w' : World} {v : Value} {l : List Nat} (h : Num w w.heap.size v l) (e : Ext w w') : Num w' w'.heap.size v l := h.keep e e.size

/-- The value v is the row of the number N, of at most k limbs. -/
def IsN (w : World) (v : Value) (N k : Nat) : Prop := Num w w.heap.size v (M.limbs N) ∧ (M.limbs N).length ≤ k
theorem IsN.up {w w' : World} {v : Value} {N k : Nat} (h : IsN w v N k) (e : Ext w w') : IsN w' v N k := ⟨h.1.up e, h.2⟩
theorem IsN.len {w : World} {v : Value} {N k : Nat} (h : IsN w v N k) : N < 1000000000 ^ k := Nat.lt_of_lt_of_le (M.limbs_len_lt N) (Nat.pow_le_pow_right (by omega) h.2)
theorem IsN.of {w : World} {v : Value} {l : List Nat} {k : Nat} (h : Num w w.heap.size v l) (hl : M.isNat l = true) (hk : l.length ≤ k) : IsN w v (M.nv l) k := by
  have e : M.limbs (M.nv l) = l := by rw [M.limbs_nv, M.nat, if_pos hl]
  exact ⟨by rw [e]; exact h, by rw [e]; exact hk⟩
def GivesN (w : World) (N k : Nat) (e : Ending) (w' : World) : Prop := ∃ v, e = .returned v ∧ IsN w' v N k ∧ Ext w w'
def GivesN2 (w : World) (M k N j : Nat) (e : Ending) (w' : World) : Prop := ∃ u v, e = .returned (.tuple #[u, v]) ∧ IsN w' u M k ∧ IsN w' v N j ∧ Ext w w'

theorem of_n (n : Nat) (hn : (n : Int) ≤ 18446744073709551615) (w : World) : Calls Try.prog 58 #[.int .u64 (n : Int)] w (GivesN w n 3) :=
  (of_any n hn w).mono fun _ _ ⟨v, he, hv, hb⟩ => ⟨v, he, ⟨hv, limbs_len3 (by omega)⟩, hb⟩
theorem add_n {w : World} {u v : Value} {a b j k : Nat} (hu : IsN w u a j) (hv : IsN w v b k) (hj : j ≤ 100000000) (hk : k ≤ 100000000) :
    Calls Try.prog 73 #[u, v] w (GivesN w (a + b) (max j k + 1)) := by
  have h := add_any w u v _ _ hu.1 hv.1 (Nat.le_trans hu.2 hj) (Nat.le_trans hv.2 hk)
  rw [M.nv_limbs, M.nv_limbs] at h
  exact h.mono fun _ _ ⟨x, he, hx, hb⟩ => ⟨x, he, ⟨hx, M.limbs_add_length _ _ hu.len hv.len⟩, hb⟩
theorem sub_n {w : World} {u v : Value} {a b j k : Nat} (hu : IsN w u a j) (hv : IsN w v b k) (hj : j ≤ 100000000) :
    Calls Try.prog 75 #[u, v] w (GivesN w (a - b) j) := by
  have h := sub_any w u v _ _ hu.1 hv.1 (Nat.le_trans hu.2 hj)
  rw [M.nv_limbs, M.nv_limbs] at h
  exact h.mono fun _ _ ⟨x, he, hx, hb⟩ => ⟨x, he, ⟨hx, M.limbs_length_le (Nat.lt_of_le_of_lt (Nat.sub_le _ _) hu.len)⟩, hb⟩
theorem mul_n {w : World} {u v : Value} {a b j k : Nat} (hu : IsN w u a j) (hv : IsN w v b k) (hj : j ≤ 100000000) (hk : k ≤ 100000000) (hm : j < 64 ∨ k < 64) :
    Calls Try.prog 57 #[u, v] w (GivesN w (a * b) (j + k)) := by
  have h := mul_any w u v _ _ hu.1 hv.1 (Nat.le_trans hu.2 hj) (Nat.le_trans hv.2 hk) (hm.imp (fun h => Nat.lt_of_le_of_lt hu.2 h) (fun h => Nat.lt_of_le_of_lt hv.2 h))
  rw [M.nv_limbs, M.nv_limbs] at h
  exact h.mono fun _ _ ⟨x, he, hx, hb⟩ => ⟨x, he, ⟨hx, M.limbs_mul_length _ _ hu.len hv.len⟩, hb⟩
theorem div1_n {w : World} {u v : Value} {a b j k : Nat} (hu : IsN w u a j) (hv : IsN w v b k) (hj : j ≤ 100000000) (hb1 : b < 1000000000) :
    Calls Try.prog 66 #[u, v] w (GivesN2 w (a / b) j (a % b) j) := by
  have h := div_small w u v _ _ hu.1 hv.1 (Nat.le_trans hu.2 hj) (M.limbs_length_le (by omega))
  rw [M.nv_limbs, M.nv_limbs] at h
  exact h.mono fun _ _ ⟨x, y, he, hx, hy, hb⟩ => ⟨x, y, he, ⟨hx, M.limbs_length_le (Nat.lt_of_le_of_lt (Nat.div_le_self _ _) hu.len)⟩, ⟨hy, M.limbs_length_le (Nat.lt_of_le_of_lt (Nat.mod_le _ _) hu.len)⟩, hb⟩
theorem cmp_n {w : World} {u v : Value} {a b j k : Nat} (hu : IsN w u a j) (hv : IsN w v b k) {z : Int} (hz : M.cmp a b = z) :
    Calls Try.prog 74 #[u, v] w fun e w' => e = .returned (.int .i64 z) ∧ Ext w w' := by
  have h := natCmp_any w u v _ _ hu.1 hv.1
  rw [M.nv_limbs, M.nv_limbs, hz] at h
  exact h
theorem isNat_n {w : World} {v : Value} {a k : Nat} (hv : IsN w v a k) :
    Calls Try.prog 77 #[v] w fun e w' => e = .returned (.bool true) ∧ w = w' := by
  have h := is_any w v _ hv.1
  rw [M.isNat_limbs] at h
  exact h
theorem isNat_l {w : World} {v : Value} {l : List Nat} (hv : Num w w.heap.size v l) {b : Bool} (hb : M.isNat l = b) :
    Calls Try.prog 77 #[v] w fun e w' => e = .returned (.bool b) ∧ w = w' := by
  have h := is_any w v _ hv
  rw [hb] at h
  exact h
theorem same_l {w : World} {u v : Value} {l m : List Nat} (hu : Num w w.heap.size u l) (hv : Num w w.heap.size v m) (h : l = m) :
    Calls Try.prog 27 #[u, v] w fun e w' => e = .returned (.bool true) ∧ Ext w w' :=
  (same_any w u v l m hu hv).mono fun _ _ ⟨he, k, hk⟩ => ⟨by rw [he]; simp [h], by subst hk; exact below_drewN (Below.refl _ _) k⟩
theorem lit_l {w : World} (l : List Nat) (cs : Array Value) (hc : cs = (l.map fun x : Nat => Value.int .u32 (x : Int)).toArray) (hs : ∀ x ∈ l, x < 4294967296) (n : Nat) (hn : n = l.length) (h9 : l.length ≤ 1000) (g : Nat) (hg : g = w.heap.size) :
    Num (w.alloc (.cells cs 56)) (w.alloc (.cells cs 56)).heap.size (.slice (some ⟨g, 0, none⟩) n n) l := by
  subst hg
  have hb : Blk (w.alloc (.cells cs 56)) w.heap.size l := by
    unfold Blk
    rw [heap_alloc_new w _, hc]
  exact hb.num hs (by unfold maxLen; omega) hn
end Go.Proofs.Ytljjijcmoafndaa
