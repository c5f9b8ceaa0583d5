/-
  The contracts of package nat once more, over numbers: a row that is worth N, of at most k limbs.
-/
import Derived.Test.YtkhmgdfhggejaaaGreatDoorWJA
namespace Go.Proofs.YtkhmgdfhggejaaaGreatDoor
set_option linter.unusedSimpArgs false
set_option linter.unusedVariables false
open Go.RowKit
def Ext (w w' : World) : Prop := Below w.heap.size w w'
theorem Ext.refl (w : World) : Ext w w := Below.refl _ _
theorem Ext.trans {a b c : World} (h : Ext a b) (k : Ext b c) : Ext a c := Below.trans (B := a.heap.size) h (Below.mono k h.size)
theorem Ext.below {a b : World} (h : Ext a b) : Below a.heap.size a b := h
theorem Ext.alloc (w : World) (o : Obj) : Ext w (w.alloc o) := (Below.refl _ _).alloc (Nat.le_refl _) o
theorem Num.up {w w' : World} {v : Value} {l : List Nat} (h : Num w w.heap.size v l) (e : Ext w w') : Num w' w'.heap.size v l := h.keep e e.size
def IsN (w : World) (v : Value) (N k : Nat) : Prop := Num w w.heap.size v (M.limbs N) ∧ (M.limbs N).length ≤ k
theorem IsN.up {w w' : World} {v : Value} {N k : Nat} (h : IsN w v N k) (e : Ext w w') : IsN w' v N k := ⟨h.1.up e, h.2⟩
theorem IsN.len {w : World} {v : Value} {N k : Nat} (h : IsN w v N k) : N < 1000000000 ^ k := Nat.lt_of_lt_of_le (M.limbs_len_lt N) (Nat.pow_le_pow_right (by omega) h.2)
theorem IsN.of {w : World} {v : Value} {l : List Nat} {k : Nat} (h : Num w w.heap.size v l) (hl : M.isNat l = true) (hk : l.length ≤ k) : IsN w v (M.nv l) k := by
 have e : M.limbs (M.nv l) = l := by rw [M.limbs_nv, M.nat, if_pos hl]
 exact ⟨by rw [e]; exact h, by rw [e]; exact hk⟩
def GivesN (w : World) (N k : Nat) (e : Ending) (w' : World) : Prop := ∃ v, e = .returned v ∧ IsN w' v N k ∧ Ext w w'
def GivesN2 (w : World) (M k N j : Nat) (e : Ending) (w' : World) : Prop := ∃ u v, e = .returned (.tuple #[u, v]) ∧ IsN w' u M k ∧ IsN w' v N j ∧ Ext w w'
theorem of_n (n : Nat) (hn : (n : Int) ≤ 18446744073709551615) (w : World) : Calls Tryz.prog 109 #[.int .u64 (n : Int)] w (GivesN w n 3) :=
 (of_any n hn w).mono fun _ _ ⟨v, he, hv, hb⟩ => ⟨v, he, ⟨hv, limbs_len3 (by omega)⟩, hb⟩
theorem add_n {w : World} {u v : Value} {a b j k : Nat} (hu : IsN w u a j) (hv : IsN w v b k) (hj : j ≤ 100000000) (hk : k ≤ 100000000) :
 Calls Tryz.prog 177 #[u, v] w (GivesN w (a + b) (max j k + 1)) := by
 have h := add_any w u v _ _ hu.1 hv.1 (Nat.le_trans hu.2 hj) (Nat.le_trans hv.2 hk)
 rw [M.nv_limbs, M.nv_limbs] at h
 exact h.mono fun _ _ ⟨x, he, hx, hb⟩ => ⟨x, he, ⟨hx, M.limbs_add_length _ _ hu.len hv.len⟩, hb⟩
theorem sub_n {w : World} {u v : Value} {a b j k : Nat} (hu : IsN w u a j) (hv : IsN w v b k) (hj : j ≤ 100000000) :
 Calls Tryz.prog 178 #[u, v] w (GivesN w (a - b) j) := by
 have h := sub_any w u v _ _ hu.1 hv.1 (Nat.le_trans hu.2 hj)
 rw [M.nv_limbs, M.nv_limbs] at h
 exact h.mono fun _ _ ⟨x, he, hx, hb⟩ => ⟨x, he, ⟨hx, M.limbs_length_le (Nat.lt_of_le_of_lt (Nat.sub_le _ _) hu.len)⟩, hb⟩
theorem mul_n {w : World} {u v : Value} {a b j k : Nat} (hu : IsN w u a j) (hv : IsN w v b k) (hj : j ≤ 100000000) (hk : k ≤ 100000000) (hm : j < 64 ∨ k < 64) :
 Calls Tryz.prog 147 #[u, v] w (GivesN w (a * b) (j + k)) := by
 have h := mul_any w u v _ _ hu.1 hv.1 (Nat.le_trans hu.2 hj) (Nat.le_trans hv.2 hk) (hm.imp (fun h => Nat.lt_of_le_of_lt hu.2 h) (fun h => Nat.lt_of_le_of_lt hv.2 h))
 rw [M.nv_limbs, M.nv_limbs] at h
 exact h.mono fun _ _ ⟨x, he, hx, hb⟩ => ⟨x, he, ⟨hx, M.limbs_mul_length _ _ hu.len hv.len⟩, hb⟩
theorem cmp_n {w : World} {u v : Value} {a b j k : Nat} (hu : IsN w u a j) (hv : IsN w v b k) {z : Int} (hz : M.cmp a b = z) :
 Calls Tryz.prog 134 #[u, v] w fun e w' => e = .returned (.int .i64 z) ∧ Ext w w' := by
 have h := natCmp_any w u v _ _ hu.1 hv.1
 rw [M.nv_limbs, M.nv_limbs, hz] at h
 exact h
theorem isNat_l {w : World} {v : Value} {l : List Nat} (hv : Num w w.heap.size v l) {b : Bool} (hb : M.isNat l = b) :
 Calls Tryz.prog 128 #[v] w fun e w' => e = .returned (.bool b) ∧ w = w' := by
 have h := is_any w v _ hv
 rw [hb] at h
 exact h
set_option maxRecDepth 100000 in
theorem wpList_appN {w : World} {ops : Array Oper} {rest : List Oper} {o : Oper} {a : Act} {Q : Exit → Act → World → Prop} (hgd : o.guard = none) (s x : Operand)
 (ho : o.op = .call { callee := .builtin .append, args := #[s, x], argTypes := #[22, 22] })
 (base : Nat) (v : Value) (l : List Nat) (hs : a.eval s = v) (hown : Own base w v l) (u : Value) (m : List Nat) (hx : a.eval x = u) {C : Nat} (hu : Num w C u m) (hlen : l.length + m.length ≤ 1000000000) (hbase : base ≤ w.heap.size)
 (h : ∀ v' w', Own base w' v' (l ++ m) → w.grownBy w' v.ownBlock → wpList Tryz.prog ops Q rest (a.put o.dst v') w') : wpList Tryz.prog ops Q (o :: rest) a w := by
 obtain ⟨i0, hi, hz0, hz1, hz2⟩ := info_parts info_u32
 obtain ⟨A, n, c, rfl, hn, hc, hm, hsm, hr⟩ := hu
 rcases A with _ | ad
 ·have hl : m = [] := by
   rcases m with _ | ⟨y, r⟩
   ·rfl
   ·obtain ⟨ad, e, _⟩ := hr (by simp)
    cases e
  subst hl
  have hn0 : n = 0 := hn
  subst hn0
  have hrun : (Builtin.append_ #[22, 22] o.type #[v, .slice none 0 c]).run Tryz.prog w = .ok v w := by
   rcases hown.1.2 with ⟨rfl, _⟩ | ⟨g, cap, cur, rfl, _, _, hnc, _⟩
   ·simp [Builtin.append_, run_underlying Tryz.underlying22, sizeOf, typeInfo, hi, Builtin.lenOf, Builtin.firstCells]
   ·simp [Builtin.append_, run_underlying Tryz.underlying22, sizeOf, typeInfo, hi, Builtin.lenOf, Builtin.firstCells, hnc, storeCells]
  refine wpList_plain hgd fun K hK => ?_
  unfold Oper.wp execOp
  simp only [ho, resolve, invoke, builtin, Sem.run_bind, Sem.run_pure, Result.andThen_ok, List.map_toArray, List.map_cons, List.map_nil, hs, hx, hrun]
  exact hK _ _ (h v w (by simpa using hown) (World.grownBy.refl w _))
 ·refine wpList_append_own w hgd s x 22 ho base 97 i0 (.int .u32 0) 1 4 Tryz.underlying22 hi hz0 hz1 hz2 rfl (by decide) v l.length _ hs hown.1 ad n c (m.map fun x : Nat => Value.int .u32 (x : Int)) hx (by simp [hn]) ?_ ?_ (by unfold maxLen; omega) (by omega) hbase ?_
  ·intro j u hj
   rw [List.getElem?_map] at hj
   obtain ⟨y, hy, rfl⟩ := Option.map_eq_some_iff.1 hj
   obtain ⟨ad', e, _, hcell⟩ := hr (by rintro rfl; simp at hy)
   injection e with e
   subst e
   exact hcell j y hy
  ·intro u hu
   obtain ⟨y, _, rfl⟩ := List.mem_map.1 hu
   rfl
  ·intro v' w' h1 h2 _
   refine h v' w' ⟨?_, fun t ht => ?_⟩ h2
   ·rw [hn] at h1; simpa using h1
   ·rw [List.mem_append] at ht
    rcases ht with ht | ht
    ·exact hown.2 t ht
    ·exact hsm t ht
theorem Own.one (w : World) (x : Nat) (hx : x < 4294967296) : Own w.heap.size (w.alloc (.cells #[.int .u32 (x : Int)] 97)) (.slice (some ⟨w.heap.size, 0, none⟩) 1 1) [x] :=
 ⟨⟨rfl, .inr ⟨w.heap.size, 1, _, rfl, Nat.le_refl _, heap_alloc_new w _, Nat.le_refl _, by unfold maxLen; omega, rfl, rfl⟩⟩, by simpa using hx⟩
theorem Own.none_ (w : World) : Own w.heap.size (w.alloc (.cells #[] 97)) (.slice (some ⟨w.heap.size, 0, none⟩) 0 0) [] :=
 ⟨⟨rfl, .inr ⟨w.heap.size, 0, _, rfl, Nat.le_refl _, heap_alloc_new w _, Nat.le_refl _, by unfold maxLen; omega, rfl, rfl⟩⟩, by simp⟩
end Go.Proofs.YtkhmgdfhggejaaaGreatDoor
