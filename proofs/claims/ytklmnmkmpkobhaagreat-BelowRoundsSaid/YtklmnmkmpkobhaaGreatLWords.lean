/-
  Words for linear forms in memory: lists of terms (a variable, a bool, a row of limbs), an api.Lin; a term appended onto a list of the call's own.
-/
import Derived.Test.YtklmnmkmpkobhaaGreatLMath
import Derived.Test.YtklmnmkmpkobhaaGreatJG
import Derived.Test.YtklmnmkmpkobhaaGreatZBase
import Derived.Test.YtklmnmkmpkobhaaGreatRZA
import Derived.Test.YtklmnmkmpkobhaaGreatHeldW
import Derived.Laws.Tables
import Derived.Deep.Cut
import Derived.Deep.Slices
namespace Go.Proofs.YtklmnmkmpkobhaaGreat
open Go.RowKit
set_option linter.unusedSimpArgs false
set_option linter.unusedVariables false

/-- The cells of the term at place k of a list. -/
def LAt (w : World) (ad : Addr) (k : Nat) (x : Int × Bool × List Nat) : Prop :=
 ∃ A n c, w.cell? (ad.add (k * 3)) = some (.int .i64 x.1) ∧ w.cell? ((ad.add (k * 3)).add 1) = some (.bool x.2.1) ∧ w.cell? ((ad.add (k * 3)).add 2) = some (.slice A n c) ∧ Num w w.heap.size (.slice A n c) x.2.2
/-- A list of api.Mono in memory: what each of them holds. -/
def LList (w : World) (v : Value) (ls : List (Int × Bool × List Nat)) : Prop :=
 ∃ A n c, v = .slice A n c ∧ n = ls.length ∧ n ≤ c ∧ c ≤ maxLen ∧ ∀ k x, ls[k]? = some x → ∃ ad, A = some ad ∧ ad.block < w.heap.size ∧ LAt w ad k x
theorem LAt.up {w w' : World} {ad : Addr} {k : Nat} {x : Int × Bool × List Nat} (h : LAt w ad k x) (e : Ext w w') (hb : ad.block < w.heap.size) : LAt w' ad k x := by
 obtain ⟨A, n, c, h0, h1, h2, h3⟩ := h
 exact ⟨A, n, c, by rw [e.below.cell (by rw [addr_block]; exact hb)]; exact h0, by rw [e.below.cell (by rw [addr_block, addr_block]; exact hb)]; exact h1, by rw [e.below.cell (by rw [addr_block, addr_block]; exact hb)]; exact h2, h3.up e⟩
theorem LList.up {w w' : World} {v : Value} {ls : List (Int × Bool × List Nat)} (h : LList w v ls) (e : Ext w w') : LList w' v ls := by
 obtain ⟨A, n, c, h1, h2, h3, h4, h5⟩ := h
 refine ⟨A, n, c, h1, h2, h3, h4, fun k x hx => ?_⟩
 obtain ⟨ad, ha, hb, hz⟩ := h5 k x hx
 exact ⟨ad, ha, Nat.lt_of_lt_of_le hb e.size, hz.up e hb⟩
theorem LList.shape {w : World} {v : Value} {ls : List (Int × Bool × List Nat)} (h : LList w v ls) : ∃ A n c, v = .slice A n c := by
 obtain ⟨A, n, c, h, _⟩ := h; exact ⟨A, n, c, h⟩
theorem LList.count {w : World} {A : Option Addr} {n c : Nat} {ls : List (Int × Bool × List Nat)} (h : LList w (.slice A n c) ls) : n = ls.length ∧ n ≤ c ∧ n ≤ 9223372036854775807 := by
 obtain ⟨A', n', c', e, hn, hc, hm, _⟩ := h
 injection e with e1 e2 e3
 unfold maxLen at hm
 exact ⟨by omega, by omega, by omega⟩
theorem LList.get {w : World} {A : Option Addr} {n c : Nat} {ls : List (Int × Bool × List Nat)} (h : LList w (.slice A n c) ls) {k : Nat} {x : Int × Bool × List Nat} (hk : ls[k]? = some x) :
 ∃ ad A' n' c', A = some ad ∧ CellAt w (ad.add (k * 3)) (.int .i64 x.1) ∧ CellAt w ((ad.add (k * 3)).add 1) (.bool x.2.1) ∧ CellAt w ((ad.add (k * 3)).add 2) (.slice A' n' c') ∧ Num w w.heap.size (.slice A' n' c') x.2.2 := by
 obtain ⟨A', n', c', e, hn, hc, hm, hz⟩ := h
 injection e with e1 e2 e3
 subst e1
 obtain ⟨ad, ha, _, B, p, q, h0, h1, h2, h3⟩ := hz k x hk
 exact ⟨ad, B, p, q, ha, h0, h1, h2, h3⟩
theorem LList.nil (w : World) (c : Nat) (hc : c ≤ maxLen) (A : Option Addr) : LList w (.slice A 0 c) [] := ⟨A, 0, c, rfl, rfl, Nat.zero_le _, hc, fun k x hx => by simp at hx⟩

/-- What stands at place k of a row of integers. -/
def LCell (w : World) (cur : Array Value) (k : Nat) (x : Int × Bool × List Nat) : Prop :=
 ∃ A n c, cur[k * 3]? = some (.int .i64 x.1) ∧ cur[k * 3 + 1]? = some (.bool x.2.1) ∧ cur[k * 3 + 2]? = some (.slice A n c) ∧ Num w w.heap.size (.slice A n c) x.2.2
/-- A list of integers of the call's own: its block lies at base or above. -/
def LOwn (base : Nat) (w : World) (v : Value) (ls : List (Int × Bool × List Nat)) : Prop :=
 (v = .slice none 0 0 ∧ ls = []) ∨ ∃ g cap cur, v = .slice (some ⟨g, 0, none⟩) ls.length cap ∧ base ≤ g ∧ Box w g cur 56 ∧ ls.length ≤ cap ∧ cap ≤ maxLen ∧ cur.size = cap * 3 ∧ noLimb cur = true ∧ ∀ k x, ls[k]? = some x → LCell w cur k x
theorem LOwn.list {base : Nat} {w : World} {v : Value} {ls : List (Int × Bool × List Nat)} (h : LOwn base w v ls) : LList w v ls := by
 rcases h with ⟨rfl, rfl⟩ | ⟨g, cap, cur, rfl, hb, hbox, hc, hm, hs, hno, hz⟩
 ·exact LList.nil _ _ (Nat.zero_le _) _
 ·refine ⟨_, _, _, rfl, rfl, hc, hm, fun k x hk => ⟨_, rfl, hbox.lt, ?_⟩⟩
  obtain ⟨A, n, c, h0, h1, h2, h3⟩ := hz k x hk
  refine ⟨A, n, c, ?_, ?_, ?_, h3⟩
  ·rw [Addr.add_lit, Nat.zero_add]; exact hbox.cell h0
  ·rw [Addr.add_lit, Addr.add_lit, Nat.zero_add]; exact hbox.cell h1
  ·rw [Addr.add_lit, Addr.add_lit, Nat.zero_add]; exact hbox.cell h2
theorem LCell.kz {w w' : World} {cur : Array Value} {k : Nat} {x : Int × Bool × List Nat} (h : LCell w cur k x) (e : Keeps w w') : LCell w' cur k x := by
 obtain ⟨A, n, c, h0, h1, h2, h3⟩ := h
 exact ⟨A, n, c, h0, h1, h2, e _ _ h3⟩
theorem LOwn.up {base : Nat} {w w' : World} {v : Value} {ls : List (Int × Bool × List Nat)} (h : LOwn base w v ls) (e : Ext w w') : LOwn base w' v ls := by
 rcases h with ⟨rfl, rfl⟩ | ⟨g, cap, cur, rfl, hb, hbox, hc, hm, hs, hno, hz⟩
 ·exact .inl ⟨rfl, rfl⟩
 ·exact .inr ⟨g, cap, cur, rfl, hb, hbox.up e, hc, hm, hs, hno, fun k x hk => (hz k x hk).kz e.keeps⟩
theorem LOwn.nil (base : Nat) (w : World) : LOwn base w (.slice none 0 0) [] := .inl ⟨rfl, rfl⟩
theorem info_Mono : (Tryz.prog.info? 56).map (fun i => (i.zero, i.size, i.bytes)) = some (some (.agg #[.int .i64 0, .bool false, .slice none 0 0]), 3, 40) := by kernel_rfl
theorem noLimb_appendL {x y : Array Value} (hx : noLimb x = true) (hy : noLimb y = true) : noLimb (x ++ y) = true := by
 unfold noLimb at *
 rw [Array.toList_append, List.all_append, hx, hy]; rfl
theorem noLimb_zerosL (n : Nat) : noLimb (Builtin.zeroCells (Value.agg #[.int .i64 0, .bool false, .slice none 0 0]).cells n) = true := by
 unfold noLimb
 rw [List.all_eq_true]
 intro v hv
 have hz : (Value.agg #[.int .i64 0, .bool false, .slice none 0 0]).cells = #[.int .i64 0, .bool false, .slice none 0 0] := rfl
 rw [hz] at hv
 simp [Builtin.zeroCells] at hv
 obtain ⟨i, _, rfl⟩ := hv
 rcases (show i % 3 = 0 ∨ i % 3 = 1 ∨ i % 3 = 2 by omega) with e | e | e <;> rw [e] <;> rfl
theorem noLimb_takeL {x : Array Value} (hx : noLimb x = true) (k : Nat) : noLimb (x.toList.take k).toArray = true := by
 unfold noLimb at *
 rw [List.all_eq_true] at *
 intro v hv
 exact hx v (List.mem_of_mem_take (by simpa using hv))
theorem noLimb_dropL {x : Array Value} (hx : noLimb x = true) (k : Nat) : noLimb (x.toList.drop k).toArray = true := by
 unfold noLimb at *
 rw [List.all_eq_true] at *
 intro v hv
 exact hx v (List.mem_of_mem_drop (by simpa using hv))
theorem noLimb_litL (V : Int) (b : Bool) (A : Option Addr) (n c : Nat) : noLimb #[.int .i64 V, .bool b, .slice A n c] = true := rfl
theorem kept_rowL {w : World} {g : Nat} (cs : Array Value) : Kept [g] w (w.setRow g cs) := by
 refine ⟨⟨rfl, rfl, rfl, by simp [World.setRow], fun k hk => absurd hk (Nat.not_lt_zero _)⟩, fun k _ hx => ?_⟩
 have hne : g ≠ k := by simp at hx; omega
 unfold World.setRow
 simp only
 rw [Array.getElem?_modify, if_neg hne]
theorem lcell_app {w : World} {cur CS : Array Value} {ls : List (Int × Bool × List Nat)} {V : Int} {b : Bool} {A : Option Addr} {n c : Nat} {l : List Nat} {rest : List Value} (hs : ls.length * 3 ≤ cur.size)
 (hCS : CS.toList = cur.toList.take (ls.length * 3) ++ (.int .i64 V :: .bool b :: .slice A n c :: rest)) (hz : ∀ k x, ls[k]? = some x → LCell w cur k x) (hm : Num w w.heap.size (.slice A n c) l) :
 ∀ k x, (ls ++ [(V, b, l)])[k]? = some x → LCell w CS k x := by
 intro k x hk
 have hget : ∀ i, CS[i]? = CS.toList[i]? := fun i => Array.getElem?_toList.symm
 have hlt : (cur.toList.take (ls.length * 3)).length = ls.length * 3 := by
  have e : cur.toList.length = cur.size := Array.length_toList
  rw [List.length_take, e]; omega
 rcases Nat.lt_or_ge k ls.length with h | h
 ·rw [List.getElem?_append_left h] at hk
  obtain ⟨A', n', c', h0, h1, h2, h3⟩ := hz k x hk
  refine ⟨A', n', c', ?_, ?_, ?_, h3⟩
  ·rw [hget, hCS, List.getElem?_append_left (by rw [hlt]; omega), List.getElem?_take, if_pos (by omega), Array.getElem?_toList]; exact h0
  ·rw [hget, hCS, List.getElem?_append_left (by rw [hlt]; omega), List.getElem?_take, if_pos (by omega), Array.getElem?_toList]; exact h1
  ·rw [hget, hCS, List.getElem?_append_left (by rw [hlt]; omega), List.getElem?_take, if_pos (by omega), Array.getElem?_toList]; exact h2
 ·rw [List.getElem?_append_right h] at hk
  have hk0 : k = ls.length := by
   rcases Nat.eq_zero_or_pos (k - ls.length) with e | e
   ·omega
   ·rw [List.getElem?_eq_none (by simp; omega)] at hk; cases hk
  subst hk0
  simp at hk
  subst hk
  refine ⟨A, n, c, ?_, ?_, ?_, hm⟩
  ·rw [hget, hCS, List.getElem?_append_right (by rw [hlt]; omega), hlt, Nat.sub_self]; rfl
  ·rw [hget, hCS, List.getElem?_append_right (by rw [hlt]; omega), hlt, show ls.length * 3 + 1 - ls.length * 3 = 1 by omega]; rfl
  ·rw [hget, hCS, List.getElem?_append_right (by rw [hlt]; omega), hlt, show ls.length * 3 + 2 - ls.length * 3 = 2 by omega]; rfl
/-- The block of a list of the call's own (base, where there is none yet). -/
def ownBlk (base : Nat) (v : Value) : Nat := match v with | .slice (some ad) _ _ => ad.block | _ => base
theorem LOwn.blk {base : Nat} {w : World} {v : Value} {ls : List (Int × Bool × List Nat)} (h : LOwn base w v ls) : base ≤ ownBlk base v := by
 rcases h with ⟨rfl, rfl⟩ | ⟨g, cap, cur, rfl, hb, _⟩
 ·exact Nat.le_refl _
 ·exact hb
theorem LOwn.kept {base g' : Nat} {w w' : World} {v : Value} {ls : List (Int × Bool × List Nat)} (h : LOwn base w v ls) (hk : Kept [g'] w w') (hs : Keeps w w') (hg : g' < base) : LOwn base w' v ls := by
 rcases h with ⟨rfl, rfl⟩ | ⟨g, cap, cur, rfl, hb, hbox, hc, hm, hz, hno, hl⟩
 ·exact .inl ⟨rfl, rfl⟩
 ·exact .inr ⟨g, cap, cur, rfl, hb, hbox.kept hk (by simp; omega), hc, hm, hz, hno, fun k x hx => (hl k x hx).kz hs⟩
/-- 'append(out, x)' onto a list of the call's own. -/
theorem appL_run {base : Nat} {w : World} {v : Value} {ls : List (Int × Bool × List Nat)} {V : Int} {b : Bool} {A : Option Addr} {n c : Nat} {l : List Nat} {gL : Nat} {tL : TypeId} (h : LOwn base w v ls) (hL : Box w gL #[.int .i64 V, .bool b, .slice A n c] tL)
 (hm : Num w w.heap.size (.slice A n c) l) (hlen : ls.length + 1 ≤ 1000000) (hbase : base ≤ w.heap.size) (ty : TypeId) :
 ∃ v' w', (Builtin.append_ #[22, 22] ty #[v, .slice (some ⟨gL, 0, none⟩) 1 1]).run Tryz.prog w = .ok v' w' ∧ LOwn base w' v' (ls ++ [(V, b, l)]) ∧ Kept [ownBlk base v] w w' ∧ Keeps w w' := by
 obtain ⟨i0, hi, hz0, hz1, hz2⟩ := info_parts info_Mono
 have hnews : ∀ j u, [Value.int .i64 V, .bool b, .slice A n c][j]? = some u → w.cell? ((⟨gL, 0, none⟩ : Addr).add j) = some u := by
  intro j u hj
  rw [Addr.add_lit, Nat.zero_add]
  rcases j with _ | _ | _ | j
  ·simp at hj; subst hj; exact hL.cell rfl
  ·simp at hj; subst hj; exact hL.cell rfl
  ·simp at hj; subst hj; exact hL.cell rfl
  ·simp at hj
 have hl : [Value.int .i64 V, Value.bool b, Value.slice A n c].length = 1 * i0.size := by rw [hz1]; rfl
 have h1 : ∀ u ∈ [Value.int .i64 V, Value.bool b, Value.slice A n c], u.oneCell' = true := by
  intro u hu; simp at hu; rcases hu with rfl | rfl | rfl <;> rfl
 have hcm : ∀ old, grownCap w (ls.length + 1) old 56 ≤ maxLen := fun old => grownCap_le_maxLen w _ old _ (by unfold maxLen; omega)
 have hge : ∀ old, ls.length + 1 ≤ grownCap w (ls.length + 1) old 56 := fun old => grownCap_ge w _ old _
 have hll : (ls ++ [(V, b, l)]).length = ls.length + 1 := by simp
 rcases h with ⟨rfl, rfl⟩ | ⟨g, cap, cur, rfl, hb, hbox, hc, hmx, hs, hno, hz⟩
 ·have hr := run_append_nil (P := Tryz.prog) w 22 ty 56 i0 _ Tryz.underlying22 hi hz0 ⟨gL, 0, none⟩ 1 1 _ hl hnews (by omega) (by omega) (by rw [hz2]; omega)
  have hE : Ext w (w.drew.alloc (.cells ([Value.int .i64 V, Value.bool b, Value.slice A n c].toArray ++ Builtin.zeroCells (Value.agg #[.int .i64 0, .bool false, .slice none 0 0]).cells (grownCap w 1 0 56 - 1)) 56)) := ((Ext.refl w).drew').alloc' _
  refine ⟨_, _, hr, .inr ⟨w.heap.size, _, _, rfl, hbase, Box.new w.drew _ _, hge 0, hcm 0, ?_, noLimb_appendL (noLimb_litL _ _ _ _ _) (noLimb_zerosL _), ?_⟩, hE.kept _, hE.keeps⟩
  ·rw [Array.size_append, size_zeroCells]
   have := hge 0
   simp [Value.cells] at this ⊢
   omega
  ·intro k x hk
   exact (lcell_app (w := w) (cur := #[]) (ls := []) (by simp) (by simp; rfl) (by simp) hm k x hk).kz hE.keeps
 ·have hsz : ls.length * 3 ≤ cur.size := by rw [hs]; omega
  rcases Nat.lt_or_ge cap (ls.length + 1) with hcap | hcap
  ·have hr := run_append_grow (P := Tryz.prog) w 22 ty 56 i0 _ Tryz.underlying22 hi hz0 ⟨g, 0, none⟩ ls.length cap (cur.toList.take (ls.length * 3)) (by have e : cur.toList.length = cur.size := Array.length_toList; rw [List.length_take, e, hz1]; omega)
    (fun j u hj => by
     rw [Addr.add_lit, Nat.zero_add]
     rw [List.getElem?_take] at hj
     split at hj
     ·exact hbox.cell (by rw [← Array.getElem?_toList]; exact hj)
     ·cases hj) ⟨gL, 0, none⟩ 1 1 _ hl hnews hcap (by omega) (growslice_fits hcap (by rw [hz2]; omega))
   have hE : ∀ cs, Ext w (w.drew.alloc (.cells cs 56)) := fun cs => ((Ext.refl w).drew').alloc' _
   refine ⟨_, _, hr, .inr ⟨w.heap.size, _, _, by rw [hll], hbase, Box.new w.drew _ _, by rw [hll]; exact hge cap, hcm cap, ?_, noLimb_appendL (noLimb_appendL (noLimb_takeL hno _) (noLimb_litL _ _ _ _ _)) (noLimb_zerosL _), ?_⟩, (hE _).kept _, (hE _).keeps⟩
   ·rw [Array.size_append, Array.size_append, size_zeroCells]
    have := hge cap
    simp [Value.cells, List.length_take] at this ⊢
    omega
   ·intro k x hk
    exact (lcell_app (w := w) (cur := cur) (ls := ls) hsz (by simp; rfl) hz hm k x hk).kz (hE _).keeps
  ·have hr := run_append_room (P := Tryz.prog) w 22 ty 56 i0 Tryz.underlying22 hi g ls.length cap cur hbox ⟨gL, 0, none⟩ 1 1 _ hl hnews h1 hcap (by rw [hz1, hs]; simp; omega)
   rw [hz1] at hr
   have hk := kept_rowL (w := w) (g := g) (cur.toList.take (ls.length * 3) ++ [Value.int .i64 V, Value.bool b, Value.slice A n c] ++ cur.toList.drop (ls.length * 3 + [Value.int .i64 V, Value.bool b, Value.slice A n c].length)).toArray
   have hkeep := keeps_store hbox hno hk
   refine ⟨_, _, hr, .inr ⟨g, cap, _, by rw [hll], hb, setRow_heap w g cur _ _ _ hbox, by rw [hll]; exact hcap, hmx, ?_, ?_, ?_⟩, hk, hkeep⟩
   ·simp [List.length_take, List.length_drop, hs]; omega
   ·have := noLimb_appendL (noLimb_appendL (noLimb_takeL hno (ls.length * 3)) (noLimb_litL V b A n c)) (noLimb_dropL hno (ls.length * 3 + 3))
    simpa using this
   ·intro k x hk'
    exact (lcell_app (w := w) (cur := cur) (ls := ls) hsz (by simp; rfl) hz hm k x hk').kz hkeep

namespace M
/-- A term as it stands in memory. -/
def rawm (x : Int × Int) : Int × Bool × List Nat := (x.1, decide (x.2 < 0), limbs x.2.natAbs)
/-- Whether terms are a form's: variables above lo that rise, integers that aren't 0. -/
def isT : Int → List (Int × Bool × List Nat) → Bool
 | _, [] => true
 | lo, (v, g, l) :: r => decide (lo < v) && (isZ g l && (!decide (zv g l = 0) && isT v r))
def tv (ls : List (Int × Bool × List Nat)) : Tm := ls.map fun x => (x.1, zv x.2.1 x.2.2)
def isL (ls : List (Int × Bool × List Nat)) (g : Bool) (l : List Nat) : Bool := isT (-1) ls && isZ g l
/-- What a form counts as: its terms, its constant. -/
def ft (ls : List (Int × Bool × List Nat)) (g : Bool) (l : List Nat) : Tm := if isL ls g l = true then tv ls else []
def fk (ls : List (Int × Bool × List Nat)) (g : Bool) (l : List Nat) : Int := if isL ls g l = true then zv g l else 0
theorem isT_ok {lo : Int} {ls : List (Int × Bool × List Nat)} (h : isT lo ls = true) : okT lo (tv ls) ∧ (tv ls).map rawm = ls := by
 induction ls generalizing lo with
 | nil => exact ⟨trivial, rfl⟩
 | cons x r ih =>
  obtain ⟨v, g, l⟩ := x
  simp only [isT, Bool.and_eq_true, decide_eq_true_eq, Bool.not_eq_true', decide_eq_false_iff_not] at h
  obtain ⟨h1, h2, h3, h4⟩ := h
  obtain ⟨i1, i2⟩ := ih h4
  refine ⟨⟨h1, h3, i1⟩, ?_⟩
  show rawm (v, zv g l) :: (tv r).map rawm = (v, g, l) :: r
  rw [i2, rawm, zv_lt h2, limbs_zv h2]
theorem isT_of {lo : Int} {t : Tm} (h : okT lo t) : isT lo (t.map rawm) = true ∧ tv (t.map rawm) = t := by
 induction t generalizing lo with
 | nil => exact ⟨rfl, rfl⟩
 | cons x r ih =>
  obtain ⟨v, c⟩ := x
  obtain ⟨i1, i2⟩ := ih h.2.2
  refine ⟨?_, ?_⟩
  ·show (decide (lo < v) && (isZ (decide (c < 0)) (limbs c.natAbs) && (!decide (zv (decide (c < 0)) (limbs c.natAbs) = 0) && isT v (r.map rawm)))) = true
   rw [isZ_of, zv_of, i1, decide_eq_true h.1, decide_eq_false h.2.1]; rfl
  ·show (v, zv (decide (c < 0)) (limbs c.natAbs)) :: tv (r.map rawm) = (v, c) :: r
   rw [i2, zv_of]
end M
/-- The terms t in memory, each of at most W limbs. -/
def LTm (w : World) (v : Value) (t : M.Tm) (W : Nat) : Prop := LList w v (t.map M.rawm) ∧ ∀ x ∈ t, (M.limbs x.2.natAbs).length ≤ W
/-- The api.Lin of the terms t and the constant κ. -/
def IsL (w : World) (v : Value) (t : M.Tm) (κ : Int) (W : Nat) : Prop := ∃ A n c g B m d, v = .agg #[.slice A n c, .bool g, .slice B m d] ∧ LTm w (.slice A n c) t W ∧ IsZ w (.agg #[.bool g, .slice B m d]) κ W ∧ M.okT (-1) t
/-- What an api.Lin counts as. -/
def WorthL (w : World) (v : Value) (t : M.Tm) (κ : Int) (W : Nat) : Prop := ∃ A n c ls g B m d l, v = .agg #[.slice A n c, .bool g, .slice B m d] ∧ LList w (.slice A n c) ls ∧ Num w w.heap.size (.slice B m d) l ∧ (∀ x ∈ ls, x.2.2.length ≤ W) ∧ l.length ≤ W ∧ M.ft ls g l = t ∧ M.fk ls g l = κ
theorem LTm.up {w w' : World} {v : Value} {t : M.Tm} {W : Nat} (h : LTm w v t W) (e : Ext w w') : LTm w' v t W := ⟨h.1.up e, h.2⟩
theorem IsL.up {w w' : World} {v : Value} {t : M.Tm} {κ : Int} {W : Nat} (h : IsL w v t κ W) (e : Ext w w') : IsL w' v t κ W := by
 obtain ⟨A, n, c, g, B, m, d, h1, h2, h3, h4⟩ := h
 exact ⟨A, n, c, g, B, m, d, h1, h2.up e, h3.up e, h4⟩
theorem WorthL.up {w w' : World} {v : Value} {t : M.Tm} {κ : Int} {W : Nat} (h : WorthL w v t κ W) (e : Ext w w') : WorthL w' v t κ W := by
 obtain ⟨A, n, c, ls, g, B, m, d, l, h1, h2, h3, h4⟩ := h
 exact ⟨A, n, c, ls, g, B, m, d, l, h1, h2.up e, h3.up e, h4⟩
theorem LTm.get {w : World} {A : Option Addr} {n c W : Nat} {t : M.Tm} (h : LTm w (.slice A n c) t W) {k : Nat} {x : Int × Int} (hk : t[k]? = some x) :
 ∃ ad g A' n' c', A = some ad ∧ CellAt w (ad.add (k * 3)) (.int .i64 x.1) ∧ CellAt w ((ad.add (k * 3)).add 1) (.bool g) ∧ CellAt w ((ad.add (k * 3)).add 2) (.slice A' n' c') ∧ IsZ w (.agg #[.bool g, .slice A' n' c']) x.2 W := by
 obtain ⟨ad, A', n', c', ha, h0, h1, h2, h3⟩ := h.1.get (k := k) (x := M.rawm x) (by rw [List.getElem?_map, hk]; rfl)
 exact ⟨ad, _, A', n', c', ha, h0, h1, h2, IsZ.mk rfl ⟨h3, h.2 x (List.mem_of_getElem? hk)⟩⟩
theorem LTm.count {w : World} {A : Option Addr} {n c W : Nat} {t : M.Tm} (h : LTm w (.slice A n c) t W) : n = t.length ∧ n ≤ c ∧ n ≤ 9223372036854775807 := by
 have := h.1.count
 rwa [List.length_map] at this
theorem LTm.nil (w : World) (W : Nat) : LTm w (.slice none 0 0) [] W := ⟨LList.nil _ _ (Nat.zero_le _) _, fun x hx => by simp at hx⟩
theorem LTm.wide {w : World} {v : Value} {t : M.Tm} {W U : Nat} (h : LTm w v t W) (hU : W ≤ U) : LTm w v t U := ⟨h.1, fun x hx => Nat.le_trans (h.2 x hx) hU⟩
theorem IsL.worth {w : World} {v : Value} {t : M.Tm} {κ : Int} {W : Nat} (h : IsL w v t κ W) : WorthL w v t κ W := by
 obtain ⟨A, n, c, g, B, m, d, rfl, h2, h3, h4⟩ := h
 obtain ⟨g', A', n', c', e, hg, hm⟩ := h3.form
 simp at e
 obtain ⟨rfl, rfl, rfl, rfl⟩ := e
 subst hg
 have i := M.isT_of h4
 have hl : M.isL (t.map M.rawm) (decide (κ < 0)) (M.limbs κ.natAbs) = true := by unfold M.isL; rw [i.1, M.isZ_of]; rfl
 refine ⟨A, n, c, _, _, B, m, d, _, rfl, h2.1, hm.1, fun x hx => ?_, hm.2, ?_, ?_⟩
 ·obtain ⟨y, hy, rfl⟩ := List.mem_map.1 hx
  exact h2.2 y hy
 ·unfold M.ft; rw [if_pos hl, i.2]
 ·unfold M.fk; rw [if_pos hl, M.zv_of]
theorem LOwn.tm {base : Nat} {w : World} {v : Value} {t : M.Tm} {W : Nat} (h : LOwn base w v (t.map M.rawm)) (hw : ∀ x ∈ t, (M.limbs x.2.natAbs).length ≤ W) : LTm w v t W := ⟨h.list, hw⟩
theorem LOwn.shape {base : Nat} {w : World} {v : Value} {ls : List (Int × Bool × List Nat)} (h : LOwn base w v ls) : ∃ A n c, v = .slice A n c := h.list.shape
section
variable {P : Program} {ops : Array Oper} {Q : Exit → Act → World → Prop} {X : List Nat} {A : Nat → TypeId × Array Value} {B : Nat} {G : List Nat} {i : Nat} {r : List (Nat × Nat)} {a : Act} {w : World} {o : Oper} {d : Option Tmp}
/-- An act that gives a value and may turn the blocks X (an append onto a list that was there). -/
theorem WX.actK {v : Value} {w' : World} (ho : ops[i]? = some o) (hd : o.dst = d) (hw : Region.wanted o (yielded ops a.tmps) = true)
 (he : (execOp a.eval o).run P w = .ok (.value v) w') (hk : KeptB B X w w') (h : WX P ops Q X A B r G (a.put d v) w') : WX P ops Q X A B ((i, 4) :: r) G a w := by
 subst hd
 unfold WX wpOp
 simp only [ho, hw, if_true]
 refine .inl ?_
 unfold Oper.wp
 rw [he]
 exact ⟨hk, h⟩
end
theorem Kept.box {X : List Nat} {w w' : World} {g base : Nat} {cs : Array Value} {t : TypeId} {v : Value} (h : Box w g cs t) (k : Kept [ownBlk base v] w w') (hb : base ≤ ownBlk base v) (hg : g < base) : Box w' g cs t := h.kept k (by simp; omega)
theorem Ext.own {w0 w w' : World} {base : Nat} {v : Value} (h : Ext w0 w) (k : Kept [ownBlk base v] w w') (hb : base ≤ ownBlk base v) (h0 : w0.heap.size ≤ base) : Ext w0 w' := h.keptG k (Nat.le_trans h0 hb)
theorem exec_app {P : Program} {w w' : World} {v u v' : Value} {o : Oper} {a : Act} {t : TypeId} (s x : Operand) (ho : o.op = .call { callee := .builtin .append, args := #[s, x], argTypes := #[t, t] }) (hs : a.eval s = v) (hx : a.eval x = u)
 (h : (Builtin.append_ #[t, t] o.type #[v, u]).run P w = .ok v' w') : (execOp a.eval o).run P w = .ok (.value v') w' := by
 unfold execOp
 simp only [ho, resolve, invoke, builtin, Sem.run_bind, Sem.run_pure, Result.andThen_ok, List.map_toArray, List.map_cons, List.map_nil, hs, hx, h]
def GivesL (w : World) (t : M.Tm) (κ : Int) (W : Nat) (e : Ending) (w' : World) : Prop := ∃ v, e = .returned v ∧ IsL w' v t κ W ∧ Ext w w'
end Go.Proofs.YtklmnmkmpkobhaaGreat
