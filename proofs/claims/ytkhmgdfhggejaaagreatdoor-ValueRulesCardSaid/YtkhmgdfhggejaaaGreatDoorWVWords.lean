/-
  Layer 12's words: values in memory (a sort, a bool, a row of limbs), lists of them, lists of the call's own.
-/
import Derived.Test.YtkhmgdfhggejaaaGreatDoorWJKL
import Derived.Laws.Tables
import Derived.Deep.Cut
import Derived.Deep.Slices
namespace Go.Proofs.YtkhmgdfhggejaaaGreatDoor.Q
open Go.RowKit
set_option linter.unusedSimpArgs false
set_option linter.unusedVariables false
theorem Ext.keeps {w w' : World} (h : Ext w w') : Keeps w w' := fun _ _ hn => Num.keep hn h h.size
def VAt (w : World) (ad : Addr) (k : Nat) (x : Int × Bool × List Nat) : Prop :=
 ∃ A n c, w.cell? (ad.add (k * 3)) = some (.int .i64 x.1) ∧ w.cell? ((ad.add (k * 3)).add 1) = some (.bool x.2.1) ∧ w.cell? ((ad.add (k * 3)).add 2) = some (.slice A n c) ∧ Num w w.heap.size (.slice A n c) x.2.2
def VList (w : World) (v : Value) (ls : List (Int × Bool × List Nat)) : Prop :=
 ∃ A n c, v = .slice A n c ∧ n = ls.length ∧ n ≤ c ∧ c ≤ maxLen ∧ ∀ k x, ls[k]? = some x → ∃ ad, A = some ad ∧ ad.block < w.heap.size ∧ VAt w ad k x
theorem VAt.up {w w' : World} {ad : Addr} {k : Nat} {x : Int × Bool × List Nat} (h : VAt w ad k x) (e : Ext w w') (hb : ad.block < w.heap.size) : VAt w' ad k x := by
 obtain ⟨A, n, c, h0, h1, h2, h3⟩ := h
 exact ⟨A, n, c, by rw [e.below.cell (by rw [addr_block]; exact hb)]; exact h0, by rw [e.below.cell (by rw [addr_block, addr_block]; exact hb)]; exact h1, by rw [e.below.cell (by rw [addr_block, addr_block]; exact hb)]; exact h2, h3.up e⟩
theorem VList.up {w w' : World} {v : Value} {ls : List (Int × Bool × List Nat)} (h : VList w v ls) (e : Ext w w') : VList w' v ls := by
 obtain ⟨A, n, c, h1, h2, h3, h4, h5⟩ := h
 refine ⟨A, n, c, h1, h2, h3, h4, fun k x hx => ?_⟩
 obtain ⟨ad, ha, hb, hz⟩ := h5 k x hx
 exact ⟨ad, ha, Nat.lt_of_lt_of_le hb e.size, hz.up e hb⟩
theorem VList.shape {w : World} {v : Value} {ls : List (Int × Bool × List Nat)} (h : VList w v ls) : ∃ A n c, v = .slice A n c := by
 obtain ⟨A, n, c, h, _⟩ := h; exact ⟨A, n, c, h⟩
theorem VList.count {w : World} {A : Option Addr} {n c : Nat} {ls : List (Int × Bool × List Nat)} (h : VList w (.slice A n c) ls) : n = ls.length ∧ n ≤ c ∧ n ≤ 9223372036854775807 := by
 obtain ⟨A', n', c', e, hn, hc, hm, _⟩ := h
 injection e with e1 e2 e3
 unfold maxLen at hm
 exact ⟨by omega, by omega, by omega⟩
theorem VList.get {w : World} {A : Option Addr} {n c : Nat} {ls : List (Int × Bool × List Nat)} (h : VList w (.slice A n c) ls) {k : Nat} {x : Int × Bool × List Nat} (hk : ls[k]? = some x) :
 ∃ ad A' n' c', A = some ad ∧ CellAt w (ad.add (k * 3)) (.int .i64 x.1) ∧ CellAt w ((ad.add (k * 3)).add 1) (.bool x.2.1) ∧ CellAt w ((ad.add (k * 3)).add 2) (.slice A' n' c') ∧ Num w w.heap.size (.slice A' n' c') x.2.2 := by
 obtain ⟨A', n', c', e, hn, hc, hm, hz⟩ := h
 injection e with e1 e2 e3
 subst e1
 obtain ⟨ad, ha, _, B, p, q, h0, h1, h2, h3⟩ := hz k x hk
 exact ⟨ad, B, p, q, ha, h0, h1, h2, h3⟩
theorem VList.nil (w : World) (c : Nat) (hc : c ≤ maxLen) (A : Option Addr) : VList w (.slice A 0 c) [] := ⟨A, 0, c, rfl, rfl, Nat.zero_le _, hc, fun k x hx => by simp at hx⟩
def VCell (w : World) (cur : Array Value) (k : Nat) (x : Int × Bool × List Nat) : Prop :=
 ∃ A n c, cur[k * 3]? = some (.int .i64 x.1) ∧ cur[k * 3 + 1]? = some (.bool x.2.1) ∧ cur[k * 3 + 2]? = some (.slice A n c) ∧ Num w w.heap.size (.slice A n c) x.2.2
def VOwn (base : Nat) (w : World) (v : Value) (ls : List (Int × Bool × List Nat)) : Prop :=
 (v = .slice none 0 0 ∧ ls = []) ∨ ∃ g cap cur, v = .slice (some ⟨g, 0, none⟩) ls.length cap ∧ base ≤ g ∧ Box w g cur 38 ∧ ls.length ≤ cap ∧ cap ≤ maxLen ∧ cur.size = cap * 3 ∧ noLimb cur = true ∧ ∀ k x, ls[k]? = some x → VCell w cur k x
theorem VOwn.list {base : Nat} {w : World} {v : Value} {ls : List (Int × Bool × List Nat)} (h : VOwn base w v ls) : VList w v ls := by
 rcases h with ⟨rfl, rfl⟩ | ⟨g, cap, cur, rfl, hb, hbox, hc, hm, hs, hno, hz⟩
 ·exact VList.nil _ _ (Nat.zero_le _) _
 ·refine ⟨_, _, _, rfl, rfl, hc, hm, fun k x hk => ⟨_, rfl, hbox.lt, ?_⟩⟩
  obtain ⟨A, n, c, h0, h1, h2, h3⟩ := hz k x hk
  refine ⟨A, n, c, ?_, ?_, ?_, h3⟩
  ·rw [Addr.add_lit, Nat.zero_add]; exact hbox.cell h0
  ·rw [Addr.add_lit, Addr.add_lit, Nat.zero_add]; exact hbox.cell h1
  ·rw [Addr.add_lit, Addr.add_lit, Nat.zero_add]; exact hbox.cell h2
theorem VCell.kz {w w' : World} {cur : Array Value} {k : Nat} {x : Int × Bool × List Nat} (h : VCell w cur k x) (e : Keeps w w') : VCell w' cur k x := by
 obtain ⟨A, n, c, h0, h1, h2, h3⟩ := h
 exact ⟨A, n, c, h0, h1, h2, e _ _ h3⟩
theorem VOwn.up {base : Nat} {w w' : World} {v : Value} {ls : List (Int × Bool × List Nat)} (h : VOwn base w v ls) (e : Ext w w') : VOwn base w' v ls := by
 rcases h with ⟨rfl, rfl⟩ | ⟨g, cap, cur, rfl, hb, hbox, hc, hm, hs, hno, hz⟩
 ·exact .inl ⟨rfl, rfl⟩
 ·exact .inr ⟨g, cap, cur, rfl, hb, hbox.up e, hc, hm, hs, hno, fun k x hk => (hz k x hk).kz e.keeps⟩
theorem VOwn.nil (base : Nat) (w : World) : VOwn base w (.slice none 0 0) [] := .inl ⟨rfl, rfl⟩
theorem info_Value : (Tryz.prog.info? 38).map (fun i => (i.zero, i.size, i.bytes)) = some (some (.agg #[.int .i64 0, .bool false, .slice none 0 0]), 3, 40) := by kernel_rfl
theorem noLimb_appendL {x y : Array Value} (hx : noLimb x = true) (hy : noLimb y = true) : noLimb (x ++ y) = true := by
 unfold noLimb at *
 rw [Array.toList_append, List.all_append, hx, hy]; rfl
theorem noLimb_zerosL (n : Nat) : noLimb (Builtin.zeroCells (Value.agg #[.int .i64 0, .bool false, .slice none 0 0]).cells n) = true := by
 unfold noLimb
 rw [List.all_eq_true]
 intro v hv
 have hz : (Value.agg #[.int .i64 0, .bool false, .slice none 0 0]).cells = #[.int .i64 0, .bool false, .slice none 0 0] := rfl
 rw [hz] at hv
 simp [Builtin.zeroCells] at hv
 obtain ⟨i, _, rfl⟩ := hv
 rcases (show i % 3 = 0 ∨ i % 3 = 1 ∨ i % 3 = 2 by omega) with e | e | e <;> rw [e] <;> rfl
theorem noLimb_takeL {x : Array Value} (hx : noLimb x = true) (k : Nat) : noLimb (x.toList.take k).toArray = true := by
 unfold noLimb at *
 rw [List.all_eq_true] at *
 intro v hv
 exact hx v (List.mem_of_mem_take (by simpa using hv))
theorem noLimb_dropL {x : Array Value} (hx : noLimb x = true) (k : Nat) : noLimb (x.toList.drop k).toArray = true := by
 unfold noLimb at *
 rw [List.all_eq_true] at *
 intro v hv
 exact hx v (List.mem_of_mem_drop (by simpa using hv))
theorem noLimb_litL (V : Int) (b : Bool) (A : Option Addr) (n c : Nat) : noLimb #[.int .i64 V, .bool b, .slice A n c] = true := rfl
theorem kept_rowL {w : World} {g : Nat} (cs : Array Value) : Kept [g] w (w.setRow g cs) := by
 refine ⟨⟨rfl, rfl, rfl, by simp [World.setRow], fun k hk => absurd hk (Nat.not_lt_zero _)⟩, fun k _ hx => ?_⟩
 have hne : g ≠ k := by simp at hx; omega
 unfold World.setRow
 simp only
 rw [Array.getElem?_modify, if_neg hne]
theorem lcell_app {w : World} {cur CS : Array Value} {ls : List (Int × Bool × List Nat)} {V : Int} {b : Bool} {A : Option Addr} {n c : Nat} {l : List Nat} {rest : List Value} (hs : ls.length * 3 ≤ cur.size)
 (hCS : CS.toList = cur.toList.take (ls.length * 3) ++ (.int .i64 V :: .bool b :: .slice A n c :: rest)) (hz : ∀ k x, ls[k]? = some x → VCell w cur k x) (hm : Num w w.heap.size (.slice A n c) l) :
 ∀ k x, (ls ++ [(V, b, l)])[k]? = some x → VCell w CS k x := by
 intro k x hk
 have hget : ∀ i, CS[i]? = CS.toList[i]? := fun i => Array.getElem?_toList.symm
 have hlt : (cur.toList.take (ls.length * 3)).length = ls.length * 3 := by
  have e : cur.toList.length = cur.size := Array.length_toList
  rw [List.length_take, e]; omega
 rcases Nat.lt_or_ge k ls.length with h | h
 ·rw [List.getElem?_append_left h] at hk
  obtain ⟨A', n', c', h0, h1, h2, h3⟩ := hz k x hk
  refine ⟨A', n', c', ?_, ?_, ?_, h3⟩
  ·rw [hget, hCS, List.getElem?_append_left (by rw [hlt]; omega), List.getElem?_take, if_pos (by omega), Array.getElem?_toList]; exact h0
  ·rw [hget, hCS, List.getElem?_append_left (by rw [hlt]; omega), List.getElem?_take, if_pos (by omega), Array.getElem?_toList]; exact h1
  ·rw [hget, hCS, List.getElem?_append_left (by rw [hlt]; omega), List.getElem?_take, if_pos (by omega), Array.getElem?_toList]; exact h2
 ·rw [List.getElem?_append_right h] at hk
  have hk0 : k = ls.length := by
   rcases Nat.eq_zero_or_pos (k - ls.length) with e | e
   ·omega
   ·rw [List.getElem?_eq_none (by simp; omega)] at hk; cases hk
  subst hk0
  simp at hk
  subst hk
  refine ⟨A, n, c, ?_, ?_, ?_, hm⟩
  ·rw [hget, hCS, List.getElem?_append_right (by rw [hlt]; omega), hlt, Nat.sub_self]; rfl
  ·rw [hget, hCS, List.getElem?_append_right (by rw [hlt]; omega), hlt, show ls.length * 3 + 1 - ls.length * 3 = 1 by omega]; rfl
  ·rw [hget, hCS, List.getElem?_append_right (by rw [hlt]; omega), hlt, show ls.length * 3 + 2 - ls.length * 3 = 2 by omega]; rfl
def ownBlk (base : Nat) (v : Value) : Nat := match v with | .slice (some ad) _ _ => ad.block | _ => base
theorem VOwn.blk {base : Nat} {w : World} {v : Value} {ls : List (Int × Bool × List Nat)} (h : VOwn base w v ls) : base ≤ ownBlk base v := by
 rcases h with ⟨rfl, rfl⟩ | ⟨g, cap, cur, rfl, hb, _⟩
 ·exact Nat.le_refl _
 ·exact hb
theorem VOwn.kept {base g' : Nat} {w w' : World} {v : Value} {ls : List (Int × Bool × List Nat)} (h : VOwn base w v ls) (hk : Kept [g'] w w') (hs : Keeps w w') (hg : g' < base) : VOwn base w' v ls := by
 rcases h with ⟨rfl, rfl⟩ | ⟨g, cap, cur, rfl, hb, hbox, hc, hm, hz, hno, hl⟩
 ·exact .inl ⟨rfl, rfl⟩
 ·exact .inr ⟨g, cap, cur, rfl, hb, hbox.kept hk (by simp; omega), hc, hm, hz, hno, fun k x hx => (hl k x hx).kz hs⟩
theorem appV_run {base : Nat} {w : World} {v : Value} {ls : List (Int × Bool × List Nat)} {V : Int} {b : Bool} {A : Option Addr} {n c : Nat} {l : List Nat} {gL : Nat} {tL : TypeId} (h : VOwn base w v ls) (hL : Box w gL #[.int .i64 V, .bool b, .slice A n c] tL)
 (hm : Num w w.heap.size (.slice A n c) l) (hlen : ls.length + 1 ≤ 1000000) (hbase : base ≤ w.heap.size) (ty : TypeId) :
 ∃ v' w', (Builtin.append_ #[63, 63] ty #[v, .slice (some ⟨gL, 0, none⟩) 1 1]).run Tryz.prog w = .ok v' w' ∧ VOwn base w' v' (ls ++ [(V, b, l)]) ∧ Kept [ownBlk base v] w w' ∧ Keeps w w' := by
 obtain ⟨i0, hi, hz0, hz1, hz2⟩ := info_parts info_Value
 have hnews : ∀ j u, [Value.int .i64 V, .bool b, .slice A n c][j]? = some u → w.cell? ((⟨gL, 0, none⟩ : Addr).add j) = some u := by
  intro j u hj
  rw [Addr.add_lit, Nat.zero_add]
  rcases j with _ | _ | _ | j
  ·simp at hj; subst hj; exact hL.cell rfl
  ·simp at hj; subst hj; exact hL.cell rfl
  ·simp at hj; subst hj; exact hL.cell rfl
  ·simp at hj
 have hl : [Value.int .i64 V, Value.bool b, Value.slice A n c].length = 1 * i0.size := by rw [hz1]; rfl
 have h1 : ∀ u ∈ [Value.int .i64 V, Value.bool b, Value.slice A n c], u.oneCell' = true := by
  intro u hu; simp at hu; rcases hu with rfl | rfl | rfl <;> rfl
 have hcm : ∀ old, grownCap w (ls.length + 1) old 38 ≤ maxLen := fun old => grownCap_le_maxLen w _ old _ (by unfold maxLen; omega)
 have hge : ∀ old, ls.length + 1 ≤ grownCap w (ls.length + 1) old 38 := fun old => grownCap_ge w _ old _
 have hll : (ls ++ [(V, b, l)]).length = ls.length + 1 := by simp
 rcases h with ⟨rfl, rfl⟩ | ⟨g, cap, cur, rfl, hb, hbox, hc, hmx, hs, hno, hz⟩
 ·have hr := run_append_nil (P := Tryz.prog) w 63 ty 38 i0 _ Tryz.underlying63 hi hz0 ⟨gL, 0, none⟩ 1 1 _ hl hnews (by omega) (by omega) (by rw [hz2]; omega)
  have hE : Ext w (w.drew.alloc (.cells ([Value.int .i64 V, Value.bool b, Value.slice A n c].toArray ++ Builtin.zeroCells (Value.agg #[.int .i64 0, .bool false, .slice none 0 0]).cells (grownCap w 1 0 38 - 1)) 38)) := ((Ext.refl w).drew').alloc' _
  refine ⟨_, _, hr, .inr ⟨w.heap.size, _, _, rfl, hbase, Box.new w.drew _ _, hge 0, hcm 0, ?_, noLimb_appendL (noLimb_litL _ _ _ _ _) (noLimb_zerosL _), ?_⟩, hE.kept _, hE.keeps⟩
  ·rw [Array.size_append, size_zeroCells]
   have := hge 0
   simp [Value.cells] at this ⊢
   omega
  ·intro k x hk
   exact (lcell_app (w := w) (cur := #[]) (ls := []) (by simp) (by simp; rfl) (by simp) hm k x hk).kz hE.keeps
 ·have hsz : ls.length * 3 ≤ cur.size := by rw [hs]; omega
  rcases Nat.lt_or_ge cap (ls.length + 1) with hcap | hcap
  ·have hr := run_append_grow (P := Tryz.prog) w 63 ty 38 i0 _ Tryz.underlying63 hi hz0 ⟨g, 0, none⟩ ls.length cap (cur.toList.take (ls.length * 3)) (by have e : cur.toList.length = cur.size := Array.length_toList; rw [List.length_take, e, hz1]; omega)
    (fun j u hj => by
     rw [Addr.add_lit, Nat.zero_add]
     rw [List.getElem?_take] at hj
     split at hj
     ·exact hbox.cell (by rw [← Array.getElem?_toList]; exact hj)
     ·cases hj) ⟨gL, 0, none⟩ 1 1 _ hl hnews hcap (by omega) (growslice_fits hcap (by rw [hz2]; omega))
   have hE : ∀ cs, Ext w (w.drew.alloc (.cells cs 38)) := fun cs => ((Ext.refl w).drew').alloc' _
   refine ⟨_, _, hr, .inr ⟨w.heap.size, _, _, by rw [hll], hbase, Box.new w.drew _ _, by rw [hll]; exact hge cap, hcm cap, ?_, noLimb_appendL (noLimb_appendL (noLimb_takeL hno _) (noLimb_litL _ _ _ _ _)) (noLimb_zerosL _), ?_⟩, (hE _).kept _, (hE _).keeps⟩
   ·rw [Array.size_append, Array.size_append, size_zeroCells]
    have := hge cap
    simp [Value.cells, List.length_take] at this ⊢
    omega
   ·intro k x hk
    exact (lcell_app (w := w) (cur := cur) (ls := ls) hsz (by simp; rfl) hz hm k x hk).kz (hE _).keeps
  ·have hr := run_append_room (P := Tryz.prog) w 63 ty 38 i0 Tryz.underlying63 hi g ls.length cap cur hbox ⟨gL, 0, none⟩ 1 1 _ hl hnews h1 hcap (by rw [hz1, hs]; simp; omega)
   rw [hz1] at hr
   have hk := kept_rowL (w := w) (g := g) (cur.toList.take (ls.length * 3) ++ [Value.int .i64 V, Value.bool b, Value.slice A n c] ++ cur.toList.drop (ls.length * 3 + [Value.int .i64 V, Value.bool b, Value.slice A n c].length)).toArray
   have hkeep := keeps_store hbox hno hk
   refine ⟨_, _, hr, .inr ⟨g, cap, _, by rw [hll], hb, setRow_heap w g cur _ _ _ hbox, by rw [hll]; exact hcap, hmx, ?_, ?_, ?_⟩, hk, hkeep⟩
   ·simp [List.length_take, List.length_drop, hs]; omega
   ·have := noLimb_appendL (noLimb_appendL (noLimb_takeL hno (ls.length * 3)) (noLimb_litL V b A n c)) (noLimb_dropL hno (ls.length * 3 + 3))
    simpa using this
   ·intro k x hk'
    exact (lcell_app (w := w) (cur := cur) (ls := ls) hsz (by simp; rfl) hz hm k x hk').kz hkeep
end Go.Proofs.YtkhmgdfhggejaaaGreatDoor.Q
