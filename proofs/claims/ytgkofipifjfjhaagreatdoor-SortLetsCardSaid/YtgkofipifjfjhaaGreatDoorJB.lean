/-
  The contracts of package nat once more, over numbers: a row that is worth N, of at most k limbs.
-/
import Derived.Test.YtgkofipifjfjhaaGreatDoorJA
namespace Go.Proofs.YtgkofipifjfjhaaGreatDoor
set_option linter.unusedSimpArgs false
set_option linter.unusedVariables false
open Go.RowKit

/-- Nothing that was there has turned. -/
def Ext (w w' : World) : Prop := Below w.heap.size w w'
theorem Ext.refl (w : World) : Ext w w := Below.refl _ _
theorem Ext.trans {a b c : World} (h : Ext a b) (k : Ext b c) : Ext a c := Below.trans (B := a.heap.size) h (Below.mono k h.size)
theorem Ext.below {a b : World} (h : Ext a b) : Below a.heap.size a b := h
theorem Ext.alloc (w : World) (o : Obj) : Ext w (w.alloc o) := (Below.refl _ _).alloc (Nat.le_refl _) o
theorem Num.up {w w' : World} {v : Value} {l : List Nat} (h : Num w w.heap.size v l) (e : Ext w w') : Num w' w'.heap.size v l := h.keep e e.size

/-- The value v is the row of the number N, of at most k limbs. -/
def IsN (w : World) (v : Value) (N k : Nat) : Prop := Num w w.heap.size v (M.limbs N) ∧ (M.limbs N).length ≤ k
theorem IsN.up {w w' : World} {v : Value} {N k : Nat} (h : IsN w v N k) (e : Ext w w') : IsN w' v N k := ⟨h.1.up e, h.2⟩
theorem IsN.len {w : World} {v : Value} {N k : Nat} (h : IsN w v N k) : N < 1000000000 ^ k := Nat.lt_of_lt_of_le (M.limbs_len_lt N) (Nat.pow_le_pow_right (by omega) h.2)
theorem IsN.of {w : World} {v : Value} {l : List Nat} {k : Nat} (h : Num w w.heap.size v l) (hl : M.isNat l = true) (hk : l.length ≤ k) : IsN w v (M.nv l) k := by
 have e : M.limbs (M.nv l) = l := by rw [M.limbs_nv, M.nat, if_pos hl]
 exact ⟨by rw [e]; exact h, by rw [e]; exact hk⟩
def GivesN (w : World) (N k : Nat) (e : Ending) (w' : World) : Prop := ∃ v, e = .returned v ∧ IsN w' v N k ∧ Ext w w'
theorem isNat_l {w : World} {v : Value} {l : List Nat} (hv : Num w w.heap.size v l) {b : Bool} (hb : M.isNat l = b) :
 Calls Tryz.prog 222 #[v] w fun e w' => e = .returned (.bool b) ∧ w = w' := by
 have h := is_any w v _ hv
 rw [hb] at h
 exact h
end Go.Proofs.YtgkofipifjfjhaaGreatDoor

/-
  'append(s, x...)' onto a row of the call's own.
-/
namespace Go.Proofs.YtgkofipifjfjhaaGreatDoor
set_option linter.unusedSimpArgs false
set_option linter.unusedVariables false
open Go.RowKit

set_option maxRecDepth 100000 in
/-- 'append(s, x...)' onto a row of the call's own. -/
theorem wpList_appN {w : World} {ops : Array Oper} {rest : List Oper} {o : Oper} {a : Act} {Q : Exit → Act → World → Prop} (hgd : o.guard = none) (s x : Operand)
 (ho : o.op = .call { callee := .builtin .append, args := #[s, x], argTypes := #[28, 28] })
 (base : Nat) (v : Value) (l : List Nat) (hs : a.eval s = v) (hown : Own base w v l) (u : Value) (m : List Nat) (hx : a.eval x = u) {C : Nat} (hu : Num w C u m) (hlen : l.length + m.length ≤ 1000000000) (hbase : base ≤ w.heap.size)
 (h : ∀ v' w', Own base w' v' (l ++ m) → w.grownBy w' v.ownBlock → wpList Tryz.prog ops Q rest (a.put o.dst v') w') : wpList Tryz.prog ops Q (o :: rest) a w := by
 obtain ⟨i0, hi, hz0, hz1, hz2⟩ := info_parts info_u32
 obtain ⟨A, n, c, rfl, hn, hc, hm, hsm, hr⟩ := hu
 rcases A with _ | ad
 ·have hl : m = [] := by
   rcases m with _ | ⟨y, r⟩
   ·rfl
   ·obtain ⟨ad, e, _⟩ := hr (by simp)
    cases e
  subst hl
  have hn0 : n = 0 := hn
  subst hn0
  have hrun : (Builtin.append_ #[28, 28] o.type #[v, .slice none 0 c]).run Tryz.prog w = .ok v w := by
   rcases hown.1.2 with ⟨rfl, _⟩ | ⟨g, cap, cur, rfl, _, _, hnc, _⟩
   ·simp [Builtin.append_, run_underlying Tryz.underlying28, sizeOf, typeInfo, hi, Builtin.lenOf, Builtin.firstCells]
   ·simp [Builtin.append_, run_underlying Tryz.underlying28, sizeOf, typeInfo, hi, Builtin.lenOf, Builtin.firstCells, hnc, storeCells]
  refine wpList_plain hgd fun K hK => ?_
  unfold Oper.wp execOp
  simp only [ho, resolve, invoke, builtin, Sem.run_bind, Sem.run_pure, Result.andThen_ok, List.map_toArray, List.map_cons, List.map_nil, hs, hx, hrun]
  exact hK _ _ (h v w (by simpa using hown) (World.grownBy.refl w _))
 ·refine wpList_append_own w hgd s x 28 ho base 155 i0 (.int .u32 0) 1 4 Tryz.underlying28 hi hz0 hz1 hz2 rfl (by decide) v l.length _ hs hown.1 ad n c (m.map fun x : Nat => Value.int .u32 (x : Int)) hx (by simp [hn]) ?_ ?_ (by unfold maxLen; omega) (by omega) hbase ?_
  ·intro j u hj
   rw [List.getElem?_map] at hj
   obtain ⟨y, hy, rfl⟩ := Option.map_eq_some_iff.1 hj
   obtain ⟨ad', e, _, hcell⟩ := hr (by rintro rfl; simp at hy)
   injection e with e
   subst e
   exact hcell j y hy
  ·intro u hu
   obtain ⟨y, _, rfl⟩ := List.mem_map.1 hu
   rfl
  ·intro v' w' h1 h2 _
   refine h v' w' ⟨?_, fun t ht => ?_⟩ h2
   ·rw [hn] at h1; simpa using h1
   ·rw [List.mem_append] at ht
    rcases ht with ht | ht
    ·exact hown.2 t ht
    ·exact hsm t ht
theorem Own.one (w : World) (x : Nat) (hx : x < 4294967296) : Own w.heap.size (w.alloc (.cells #[.int .u32 (x : Int)] 155)) (.slice (some ⟨w.heap.size, 0, none⟩) 1 1) [x] :=
 ⟨⟨rfl, .inr ⟨w.heap.size, 1, _, rfl, Nat.le_refl _, heap_alloc_new w _, Nat.le_refl _, by unfold maxLen; omega, rfl, rfl⟩⟩, by simpa using hx⟩

theorem Own.none_ (w : World) : Own w.heap.size (w.alloc (.cells #[] 155)) (.slice (some ⟨w.heap.size, 0, none⟩) 0 0) [] :=
 ⟨⟨rfl, .inr ⟨w.heap.size, 0, _, rfl, Nat.le_refl _, heap_alloc_new w _, Nat.le_refl _, by unfold maxLen; omega, rfl, rfl⟩⟩, by simp⟩
end Go.Proofs.YtgkofipifjfjhaaGreatDoor

