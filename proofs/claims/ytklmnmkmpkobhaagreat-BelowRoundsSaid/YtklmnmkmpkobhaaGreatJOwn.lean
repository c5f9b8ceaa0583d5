/-
  Lists of integers of a call's own: an integer appended.
-/
import Derived.Test.YtklmnmkmpkobhaaGreatLWords
namespace Go.Proofs.YtklmnmkmpkobhaaGreat
open Go.RowKit
set_option linter.unusedSimpArgs false
set_option linter.unusedVariables false
/-- What stands at place k of a row of integers. -/
def JCell (w : World) (cur : Array Value) (k : Nat) (x : Bool × List Nat) : Prop :=
 ∃ A n c, cur[k * 2]? = some (.bool x.1) ∧ cur[k * 2 + 1]? = some (.slice A n c) ∧ Num w w.heap.size (.slice A n c) x.2
/-- A list of integers of the call's own: its block lies at base or above. -/
def JOwn (base : Nat) (w : World) (v : Value) (ls : List (Bool × List Nat)) : Prop :=
 (v = .slice none 0 0 ∧ ls = []) ∨ ∃ g cap cur, v = .slice (some ⟨g, 0, none⟩) ls.length cap ∧ base ≤ g ∧ Box w g cur 25 ∧ ls.length ≤ cap ∧ cap ≤ maxLen ∧ cur.size = cap * 2 ∧ noLimb cur = true ∧ ∀ k x, ls[k]? = some x → JCell w cur k x
theorem JOwn.list {base : Nat} {w : World} {v : Value} {ls : List (Bool × List Nat)} (h : JOwn base w v ls) : ZList w v ls := by
 rcases h with ⟨rfl, rfl⟩ | ⟨g, cap, cur, rfl, hb, hbox, hc, hm, hs, hno, hz⟩
 ·exact ZList.nil _ _ (Nat.zero_le _) _
 ·refine ⟨_, _, _, rfl, rfl, hc, hm, fun k x hk => ⟨_, rfl, hbox.lt, ?_⟩⟩
  obtain ⟨A, n, c, h0, h1, h2⟩ := hz k x hk
  refine ⟨A, n, c, ?_, ?_, h2⟩
  ·rw [Addr.add_lit, Nat.zero_add]; exact hbox.cell h0
  ·rw [Addr.add_lit, Addr.add_lit, Nat.zero_add]; exact hbox.cell h1
theorem JCell.kz {w w' : World} {cur : Array Value} {k : Nat} {x : Bool × List Nat} (h : JCell w cur k x) (e : Keeps w w') : JCell w' cur k x := by
 obtain ⟨A, n, c, h0, h1, h2⟩ := h
 exact ⟨A, n, c, h0, h1, e _ _ h2⟩
theorem JOwn.up {base : Nat} {w w' : World} {v : Value} {ls : List (Bool × List Nat)} (h : JOwn base w v ls) (e : Ext w w') : JOwn base w' v ls := by
 rcases h with ⟨rfl, rfl⟩ | ⟨g, cap, cur, rfl, hb, hbox, hc, hm, hs, hno, hz⟩
 ·exact .inl ⟨rfl, rfl⟩
 ·exact .inr ⟨g, cap, cur, rfl, hb, hbox.up e, hc, hm, hs, hno, fun k x hk => (hz k x hk).kz e.keeps⟩
theorem JOwn.shape {base : Nat} {w : World} {v : Value} {ls : List (Bool × List Nat)} (h : JOwn base w v ls) : ∃ A n c, v = .slice A n c := h.list.shape
theorem JOwn.blk {base : Nat} {w : World} {v : Value} {ls : List (Bool × List Nat)} (h : JOwn base w v ls) : base ≤ ownBlk base v := by
 rcases h with ⟨rfl, rfl⟩ | ⟨g, cap, cur, rfl, hb, _⟩
 ·exact Nat.le_refl _
 ·exact hb
theorem JOwn.kept {base g' : Nat} {w w' : World} {v : Value} {ls : List (Bool × List Nat)} (h : JOwn base w v ls) (hk : Kept [g'] w w') (hs : Keeps w w') (hg : g' < base) : JOwn base w' v ls := by
 rcases h with ⟨rfl, rfl⟩ | ⟨g, cap, cur, rfl, hb, hbox, hc, hm, hz, hno, hl⟩
 ·exact .inl ⟨rfl, rfl⟩
 ·exact .inr ⟨g, cap, cur, rfl, hb, hbox.kept hk (by simp; omega), hc, hm, hz, hno, fun k x hx => (hl k x hx).kz hs⟩
theorem info_IntJ : (Tryz.prog.info? 25).map (fun i => (i.zero, i.size, i.bytes)) = some (some (.agg #[.bool false, .slice none 0 0]), 2, 32) := by kernel_rfl
theorem noLimb_zerosJ (n : Nat) : noLimb (Builtin.zeroCells (Value.agg #[.bool false, .slice none 0 0]).cells n) = true := by
 unfold noLimb
 rw [List.all_eq_true]
 intro v hv
 have hz : (Value.agg #[.bool false, .slice none 0 0]).cells = #[.bool false, .slice none 0 0] := rfl
 rw [hz] at hv
 simp [Builtin.zeroCells] at hv
 obtain ⟨i, _, rfl⟩ := hv
 rcases (show i % 2 = 0 ∨ i % 2 = 1 by omega) with e | e <;> rw [e] <;> rfl
theorem noLimb_litJ (b : Bool) (A : Option Addr) (n c : Nat) : noLimb #[.bool b, .slice A n c] = true := rfl
theorem jcell_app {w : World} {cur CS : Array Value} {ls : List (Bool × List Nat)} {b : Bool} {A : Option Addr} {n c : Nat} {l : List Nat} {rest : List Value} (hs : ls.length * 2 ≤ cur.size)
 (hCS : CS.toList = cur.toList.take (ls.length * 2) ++ (.bool b :: .slice A n c :: rest)) (hz : ∀ k x, ls[k]? = some x → JCell w cur k x) (hm : Num w w.heap.size (.slice A n c) l) :
 ∀ k x, (ls ++ [(b, l)])[k]? = some x → JCell w CS k x := by
 intro k x hk
 have hget : ∀ i, CS[i]? = CS.toList[i]? := fun i => Array.getElem?_toList.symm
 have hlt : (cur.toList.take (ls.length * 2)).length = ls.length * 2 := by
  have e : cur.toList.length = cur.size := Array.length_toList
  rw [List.length_take, e]; omega
 rcases Nat.lt_or_ge k ls.length with h | h
 ·rw [List.getElem?_append_left h] at hk
  obtain ⟨A', n', c', h0, h1, h2⟩ := hz k x hk
  refine ⟨A', n', c', ?_, ?_, h2⟩
  ·rw [hget, hCS, List.getElem?_append_left (by rw [hlt]; omega), List.getElem?_take, if_pos (by omega), Array.getElem?_toList]; exact h0
  ·rw [hget, hCS, List.getElem?_append_left (by rw [hlt]; omega), List.getElem?_take, if_pos (by omega), Array.getElem?_toList]; exact h1
 ·rw [List.getElem?_append_right h] at hk
  have hk0 : k = ls.length := by
   rcases Nat.eq_zero_or_pos (k - ls.length) with e | e
   ·omega
   ·rw [List.getElem?_eq_none (by simp; omega)] at hk; cases hk
  subst hk0
  simp at hk
  subst hk
  refine ⟨A, n, c, ?_, ?_, hm⟩
  ·rw [hget, hCS, List.getElem?_append_right (by rw [hlt]; omega), hlt, Nat.sub_self]; rfl
  ·rw [hget, hCS, List.getElem?_append_right (by rw [hlt]; omega), hlt, show ls.length * 2 + 1 - ls.length * 2 = 1 by omega]; rfl
/-- 'append(out, x)' onto a list of the call's own. -/
theorem appJ_run {base : Nat} {w : World} {v : Value} {ls : List (Bool × List Nat)} {b : Bool} {A : Option Addr} {n c : Nat} {l : List Nat} {gL : Nat} {tL : TypeId} (h : JOwn base w v ls) (hL : Box w gL #[.bool b, .slice A n c] tL)
 (hm : Num w w.heap.size (.slice A n c) l) (hlen : ls.length + 1 ≤ 1000000) (hbase : base ≤ w.heap.size) (ty : TypeId) :
 ∃ v' w', (Builtin.append_ #[28, 28] ty #[v, .slice (some ⟨gL, 0, none⟩) 1 1]).run Tryz.prog w = .ok v' w' ∧ JOwn base w' v' (ls ++ [(b, l)]) ∧ Kept [ownBlk base v] w w' ∧ Keeps w w' := by
 obtain ⟨i0, hi, hz0, hz1, hz2⟩ := info_parts info_IntJ
 have hnews : ∀ j u, [Value.bool b, .slice A n c][j]? = some u → w.cell? ((⟨gL, 0, none⟩ : Addr).add j) = some u := by
  intro j u hj
  rw [Addr.add_lit, Nat.zero_add]
  rcases j with _ | _ | j
  ·simp at hj; subst hj; exact hL.cell rfl
  ·simp at hj; subst hj; exact hL.cell rfl
  ·simp at hj
 have hl : [Value.bool b, Value.slice A n c].length = 1 * i0.size := by rw [hz1]; rfl
 have h1 : ∀ u ∈ [Value.bool b, Value.slice A n c], u.oneCell' = true := by
  intro u hu; simp at hu; rcases hu with rfl | rfl <;> rfl
 have hcm : ∀ old, grownCap w (ls.length + 1) old 25 ≤ maxLen := fun old => grownCap_le_maxLen w _ old _ (by unfold maxLen; omega)
 have hge : ∀ old, ls.length + 1 ≤ grownCap w (ls.length + 1) old 25 := fun old => grownCap_ge w _ old _
 have hll : (ls ++ [(b, l)]).length = ls.length + 1 := by simp
 rcases h with ⟨rfl, rfl⟩ | ⟨g, cap, cur, rfl, hb, hbox, hc, hmx, hs, hno, hz⟩
 ·have hr := run_append_nil (P := Tryz.prog) w 28 ty 25 i0 _ Tryz.underlying28 hi hz0 ⟨gL, 0, none⟩ 1 1 _ hl hnews (by omega) (by omega) (by rw [hz2]; omega)
  have hE : Ext w (w.drew.alloc (.cells ([Value.bool b, Value.slice A n c].toArray ++ Builtin.zeroCells (Value.agg #[.bool false, .slice none 0 0]).cells (grownCap w 1 0 25 - 1)) 25)) := ((Ext.refl w).drew').alloc' _
  refine ⟨_, _, hr, .inr ⟨w.heap.size, _, _, rfl, hbase, Box.new w.drew _ _, hge 0, hcm 0, ?_, noLimb_appendL (noLimb_litJ _ _ _ _) (noLimb_zerosJ _), ?_⟩, hE.kept _, hE.keeps⟩
  ·rw [Array.size_append, size_zeroCells]
   have := hge 0
   simp [Value.cells] at this ⊢
   omega
  ·intro k x hk
   exact (jcell_app (w := w) (cur := #[]) (ls := []) (by simp) (by simp; rfl) (by simp) hm k x hk).kz hE.keeps
 ·have hsz : ls.length * 2 ≤ cur.size := by rw [hs]; omega
  rcases Nat.lt_or_ge cap (ls.length + 1) with hcap | hcap
  ·have hr := run_append_grow (P := Tryz.prog) w 28 ty 25 i0 _ Tryz.underlying28 hi hz0 ⟨g, 0, none⟩ ls.length cap (cur.toList.take (ls.length * 2)) (by have e : cur.toList.length = cur.size := Array.length_toList; rw [List.length_take, e, hz1]; omega)
    (fun j u hj => by
     rw [Addr.add_lit, Nat.zero_add]
     rw [List.getElem?_take] at hj
     split at hj
     ·exact hbox.cell (by rw [← Array.getElem?_toList]; exact hj)
     ·cases hj) ⟨gL, 0, none⟩ 1 1 _ hl hnews hcap (by omega) (growslice_fits hcap (by rw [hz2]; omega))
   have hE : ∀ cs, Ext w (w.drew.alloc (.cells cs 25)) := fun cs => ((Ext.refl w).drew').alloc' _
   refine ⟨_, _, hr, .inr ⟨w.heap.size, _, _, by rw [hll], hbase, Box.new w.drew _ _, by rw [hll]; exact hge cap, hcm cap, ?_, noLimb_appendL (noLimb_appendL (noLimb_takeL hno _) (noLimb_litJ _ _ _ _)) (noLimb_zerosJ _), ?_⟩, (hE _).kept _, (hE _).keeps⟩
   ·rw [Array.size_append, Array.size_append, size_zeroCells]
    have := hge cap
    simp [Value.cells, List.length_take] at this ⊢
    omega
   ·intro k x hk
    exact (jcell_app (w := w) (cur := cur) (ls := ls) hsz (by simp; rfl) hz hm k x hk).kz (hE _).keeps
  ·have hr := run_append_room (P := Tryz.prog) w 28 ty 25 i0 Tryz.underlying28 hi g ls.length cap cur hbox ⟨gL, 0, none⟩ 1 1 _ hl hnews h1 hcap (by rw [hz1, hs]; simp; omega)
   rw [hz1] at hr
   have hk := kept_rowL (w := w) (g := g) (cur.toList.take (ls.length * 2) ++ [Value.bool b, Value.slice A n c] ++ cur.toList.drop (ls.length * 2 + [Value.bool b, Value.slice A n c].length)).toArray
   have hkeep := keeps_store hbox hno hk
   refine ⟨_, _, hr, .inr ⟨g, cap, _, by rw [hll], hb, setRow_heap w g cur _ _ _ hbox, by rw [hll]; exact hcap, hmx, ?_, ?_, ?_⟩, hk, hkeep⟩
   ·simp [List.length_take, List.length_drop, hs]; omega
   ·have := noLimb_appendL (noLimb_appendL (noLimb_takeL hno (ls.length * 2)) (noLimb_litJ b A n c)) (noLimb_dropL hno (ls.length * 2 + 2))
    simpa using this
   ·intro k x hk'
    exact (jcell_app (w := w) (cur := cur) (ls := ls) hsz (by simp; rfl) hz hm k x hk').kz hkeep

end Go.Proofs.YtklmnmkmpkobhaaGreat
