/-
  'append(all, l...)': terms of another list behind a list of terms of the call's own; lists of forms in memory.
-/
import Derived.Test.YtklmnmkmpkobhaaGreatLSort
namespace Go.Proofs.YtklmnmkmpkobhaaGreat
open Go.RowKit
set_option linter.unusedSimpArgs false
set_option linter.unusedVariables false
/-- What stands at place k of a list in memory. -/
def rawMem (w : World) (ad : Addr) (k : Nat) : LRaw :=
 match w.cell? (ad.add (k * 3)), w.cell? (ad.add (k * 3 + 1)), w.cell? (ad.add (k * 3 + 2)) with
 | some (.int _ v), some (.bool b), some (.slice A n c) => (v, b, A, n, c)
 | _, _, _ => (0, false, none, 0, 0)
theorem LAt.raw {w : World} {ad : Addr} {k : Nat} {y : Int × Bool × List Nat} (h : LAt w ad k y) : LRel w (rawMem w ad k) y ∧ ∀ r, r < 3 → w.cell? (ad.add (k * 3 + r)) = some (encL (rawMem w ad k))[r]! := by
 obtain ⟨A, n, c, h0, h1, h2, h3⟩ := h
 rw [Addr.add_add] at h1 h2
 have e : rawMem w ad k = (y.1, y.2.1, A, n, c) := by unfold rawMem; rw [h0, h1, h2]
 rw [e]
 refine ⟨⟨rfl, rfl, h3⟩, fun r hr => ?_⟩
 rcases (show r = 0 ∨ r = 1 ∨ r = 2 by omega) with rfl | rfl | rfl
 ·exact h0
 ·exact h1
 ·exact h2
/-- The cells of n terms from ad on. -/
def newsOf (w : World) (ad : Addr) (n : Nat) : List Value := (List.range (n * 3)).map fun j => (encL (rawMem w ad (j / 3)))[j % 3]!
theorem newsOf_len (w : World) (ad : Addr) (n : Nat) : (newsOf w ad n).length = n * 3 := by unfold newsOf; rw [List.length_map, List.length_range]
theorem newsOf_get {w : World} {ad : Addr} {n k r : Nat} (hk : k < n) (hr : r < 3) : (newsOf w ad n)[k * 3 + r]? = some (encL (rawMem w ad k))[r]! := by
 unfold newsOf
 rw [List.getElem?_map, List.getElem?_range (by omega), Option.map_some, show (k * 3 + r) / 3 = k by omega, show (k * 3 + r) % 3 = r by omega]
theorem newsOf_mem {w : World} {ad : Addr} {n : Nat} {u : Value} (h : u ∈ newsOf w ad n) : ∃ k r, k < n ∧ r < 3 ∧ u = (encL (rawMem w ad k))[r]! := by
 unfold newsOf at h
 obtain ⟨j, hj, rfl⟩ := List.mem_map.1 h
 rw [List.mem_range] at hj
 exact ⟨j / 3, j % 3, by omega, Nat.mod_lt _ (by decide), rfl⟩
theorem encL_at (x : LRaw) (r : Nat) (hr : r < 3) : ((encL x)[r]!).oneCell' = true ∧ (match (encL x)[r]! with | .int .u32 _ => false | _ => true) = true := by
 rcases (show r = 0 ∨ r = 1 ∨ r = 2 by omega) with rfl | rfl | rfl <;> exact ⟨rfl, rfl⟩
theorem noLimb_news (w : World) (ad : Addr) (n : Nat) : noLimb (newsOf w ad n).toArray = true := by
 unfold noLimb
 rw [List.all_eq_true]
 intro v hv
 obtain ⟨k, r, _, hr, rfl⟩ := newsOf_mem (by simpa using hv)
 exact (encL_at _ r hr).2
theorem lcell_apps {w : World} {cur CS : Array Value} {ls ms : List (Int × Bool × List Nat)} {ad : Addr} {rest : List Value} (hs : ls.length * 3 ≤ cur.size)
 (hCS : CS.toList = cur.toList.take (ls.length * 3) ++ (newsOf w ad ms.length ++ rest)) (hz : ∀ k x, ls[k]? = some x → LCell w cur k x) (hm : ∀ k x, ms[k]? = some x → LAt w ad k x) :
 ∀ k x, (ls ++ ms)[k]? = some x → LCell w CS k x := by
 intro k x hk
 have hget : ∀ i, CS[i]? = CS.toList[i]? := fun i => Array.getElem?_toList.symm
 have hlt : (cur.toList.take (ls.length * 3)).length = ls.length * 3 := by
  have e : cur.toList.length = cur.size := Array.length_toList
  rw [List.length_take, e]; omega
 rcases Nat.lt_or_ge k ls.length with h | h
 ·rw [List.getElem?_append_left h] at hk
  obtain ⟨A', n', c', h0, h1, h2, h3⟩ := hz k x hk
  refine ⟨A', n', c', ?_, ?_, ?_, h3⟩
  ·rw [hget, hCS, List.getElem?_append_left (by rw [hlt]; omega), List.getElem?_take, if_pos (by omega), Array.getElem?_toList]; exact h0
  ·rw [hget, hCS, List.getElem?_append_left (by rw [hlt]; omega), List.getElem?_take, if_pos (by omega), Array.getElem?_toList]; exact h1
  ·rw [hget, hCS, List.getElem?_append_left (by rw [hlt]; omega), List.getElem?_take, if_pos (by omega), Array.getElem?_toList]; exact h2
 ·rw [List.getElem?_append_right h] at hk
  have hk' : k - ls.length < ms.length := (List.getElem?_eq_some_iff.1 hk).1
  obtain ⟨⟨r1, r2, r3⟩, hc⟩ := (hm _ x hk).raw
  have hcell : ∀ r, r < 3 → CS[k * 3 + r]? = some (encL (rawMem w ad (k - ls.length)))[r]! := by
   intro r hr
   rw [hget, hCS, List.getElem?_append_right (by rw [hlt]; omega), hlt, show k * 3 + r - ls.length * 3 = (k - ls.length) * 3 + r by omega, List.getElem?_append_left (by rw [newsOf_len]; omega), newsOf_get hk' hr]
  refine ⟨_, _, _, ?_, ?_, ?_, r3⟩
  ·rw [← r1]; exact hcell 0 (by decide)
  ·rw [← r2]; exact hcell 1 (by decide)
  ·exact hcell 2 (by decide)
/-- 'append(out, l...)' onto a list of the call's own. -/
theorem appLs_run {base : Nat} {w : World} {v : Value} {ls ms : List (Int × Bool × List Nat)} {A : Option Addr} {n c : Nat} (h : LOwn base w v ls) (hx : LList w (.slice A n c) ms)
 (hlen : ls.length + ms.length ≤ 1000000) (hbase : base ≤ w.heap.size) (ty : TypeId) :
 ∃ v' w', (Builtin.append_ #[22, 22] ty #[v, .slice A n c]).run Tryz.prog w = .ok v' w' ∧ LOwn base w' v' (ls ++ ms) ∧ Kept [ownBlk base v] w w' ∧ Keeps w w' ∧ (v = .slice none 0 0 → Ext w w') := by
 obtain ⟨i0, hi, hz0, hz1, hz2⟩ := info_parts info_Mono
 have hcount := hx.count
 rcases Nat.eq_zero_or_pos ms.length with h0 | hpos
 ·have h0' : ms = [] := List.eq_nil_of_length_eq_zero h0
  subst h0'
  have hn0 : n = 0 := hcount.1
  subst hn0
  refine ⟨v, w, ?_, by rw [List.append_nil]; exact h, (Ext.refl _).kept _, (Ext.refl _).keeps, fun _ => Ext.refl _⟩
  rcases h with ⟨rfl, rfl⟩ | ⟨g, cap, cur, rfl, _, _, hnc, _⟩
  ·cases A <;> simp [Builtin.append_, run_underlying Tryz.underlying22, sizeOf, typeInfo, hi, Builtin.lenOf, Builtin.firstCells, loadCells, loadCellsFrom]
  ·cases A <;> simp [Builtin.append_, run_underlying Tryz.underlying22, sizeOf, typeInfo, hi, Builtin.lenOf, Builtin.firstCells, hnc, storeCells, loadCells, loadCellsFrom]
 obtain ⟨ad, rfl, hall⟩ : ∃ ad, A = some ad ∧ ∀ k x, ms[k]? = some x → LAt w ad k x := by
  obtain ⟨A', n', c', e, hn, hc, hm, hz⟩ := hx
  injection e with e1 e2 e3
  obtain ⟨ad, ha, _⟩ := hz 0 _ (List.getElem?_eq_getElem hpos)
  refine ⟨ad, by rw [e1, ha], fun k x hk => ?_⟩
  obtain ⟨ad', ha', _, hl⟩ := hz k x hk
  rw [ha] at ha'; injection ha' with ha'; subst ha'; exact hl
 have hn : n = ms.length := hcount.1
 subst hn
 have hnews : ∀ j u, (newsOf w ad ms.length)[j]? = some u → w.cell? (ad.add j) = some u := by
  intro j u hj
  have hj' : j < ms.length * 3 := by have := (List.getElem?_eq_some_iff.1 hj).1; rwa [newsOf_len] at this
  have hk : j / 3 < ms.length := by omega
  have := newsOf_get (w := w) (ad := ad) hk (Nat.mod_lt j (show 0 < 3 by decide))
  rw [show j / 3 * 3 + j % 3 = j by omega, hj] at this
  rw [this]
  have h1 := (hall _ _ (List.getElem?_eq_getElem hk)).raw.2 (j % 3) (Nat.mod_lt _ (by decide))
  rwa [show j / 3 * 3 + j % 3 = j by omega] at h1
 have hl : (newsOf w ad ms.length).length = ms.length * i0.size := by rw [hz1, newsOf_len]
 have h1 : ∀ u ∈ newsOf w ad ms.length, u.oneCell' = true := by
  intro u hu
  obtain ⟨k, r, _, hr, rfl⟩ := newsOf_mem hu
  exact (encL_at _ r hr).1
 have hcm : ∀ old, grownCap w (ls.length + ms.length) old 56 ≤ maxLen := fun old => grownCap_le_maxLen w _ old _ (by unfold maxLen; omega)
 have hge : ∀ old, ls.length + ms.length ≤ grownCap w (ls.length + ms.length) old 56 := fun old => grownCap_ge w _ old _
 have hll : (ls ++ ms).length = ls.length + ms.length := List.length_append
 rcases h with ⟨rfl, rfl⟩ | ⟨g, cap, cur, rfl, hb, hbox, hc, hmx, hs, hno, hz⟩
 ·have hr := run_append_nil (P := Tryz.prog) w 22 ty 56 i0 _ Tryz.underlying22 hi hz0 ad ms.length c _ hl hnews (by omega) (by simp at hlen; omega) (by rw [hz2]; simp at hlen; omega)
  have hE : ∀ cs, Ext w (w.drew.alloc (.cells cs 56)) := fun cs => ((Ext.refl w).drew').alloc' _
  have hg0 := hge 0
  have hcm0 := hcm 0
  simp only [List.length_nil, Nat.zero_add] at hg0 hcm0
  refine ⟨_, _, hr, .inr ⟨w.heap.size, _, _, by rw [List.nil_append], hbase, Box.new w.drew _ _, by rw [List.nil_append]; exact hg0, hcm0, ?_, noLimb_appendL (noLimb_news _ _ _) (noLimb_zerosL _), ?_⟩, (hE _).kept _, (hE _).keeps, fun _ => hE _⟩
  ·rw [Array.size_append, size_zeroCells]
   simp [Value.cells, newsOf_len]
   omega
  ·intro k x hk
   exact (lcell_apps (w := w) (cur := #[]) (ls := []) (ad := ad) (by simp) (by simp; rfl) (by simp) hall k x hk).kz (hE _).keeps
 ·have hsz : ls.length * 3 ≤ cur.size := by rw [hs]; omega
  rcases Nat.lt_or_ge cap (ls.length + ms.length) with hcap | hcap
  ·have hr := run_append_grow (P := Tryz.prog) w 22 ty 56 i0 _ Tryz.underlying22 hi hz0 ⟨g, 0, none⟩ ls.length cap (cur.toList.take (ls.length * 3)) (by have e : cur.toList.length = cur.size := Array.length_toList; rw [List.length_take, e, hz1]; omega)
    (fun j u hj => by
     rw [Addr.add_lit, Nat.zero_add]
     rw [List.getElem?_take] at hj
     split at hj
     ·exact hbox.cell (by rw [← Array.getElem?_toList]; exact hj)
     ·cases hj) ad ms.length c _ hl hnews hcap (by omega) (growslice_fits hcap (by rw [hz2]; omega))
   have hE : ∀ cs, Ext w (w.drew.alloc (.cells cs 56)) := fun cs => ((Ext.refl w).drew').alloc' _
   refine ⟨_, _, hr, .inr ⟨w.heap.size, _, _, by rw [hll], hbase, Box.new w.drew _ _, by rw [hll]; exact hge cap, hcm cap, ?_, noLimb_appendL (noLimb_appendL (noLimb_takeL hno _) (noLimb_news _ _ _)) (noLimb_zerosL _), ?_⟩, (hE _).kept _, (hE _).keeps, fun _ => hE _⟩
   ·rw [Array.size_append, Array.size_append, size_zeroCells]
    have := hge cap
    simp [Value.cells, List.length_take, newsOf_len] at this ⊢
    omega
   ·intro k x hk
    exact (lcell_apps (w := w) (cur := cur) (ls := ls) (ad := ad) hsz (by simp; rfl) hz hall k x hk).kz (hE _).keeps
  ·have hr := run_append_room (P := Tryz.prog) w 22 ty 56 i0 Tryz.underlying22 hi g ls.length cap cur hbox ad ms.length c _ hl hnews h1 hcap (by rw [hz1, hs]; rw [newsOf_len]; omega)
   rw [hz1] at hr
   have hk := kept_rowL (w := w) (g := g) (cur.toList.take (ls.length * 3) ++ newsOf w ad ms.length ++ cur.toList.drop (ls.length * 3 + (newsOf w ad ms.length).length)).toArray
   have hkeep := keeps_store hbox hno hk
   refine ⟨_, _, hr, .inr ⟨g, cap, _, by rw [hll], hb, setRow_heap w g cur _ _ _ hbox, by rw [hll]; exact hcap, hmx, ?_, ?_, ?_⟩, hk, hkeep, fun e => by cases e⟩
   ·simp [List.length_take, List.length_drop, hs, newsOf_len]; omega
   ·have := noLimb_appendL (noLimb_appendL (noLimb_takeL hno (ls.length * 3)) (noLimb_news w ad ms.length)) (noLimb_dropL hno (ls.length * 3 + (newsOf w ad ms.length).length))
    simpa using this
   ·intro k x hk'
    exact (lcell_apps (w := w) (cur := cur) (ls := ls) (ad := ad) hsz (by simp; rfl) hz hall k x hk').kz hkeep
/-- The block g isn't the list's. -/
def OwnFree (base : Nat) (v : Value) (g : Nat) : Prop := v = .slice none 0 0 ∨ ownBlk base v ≠ g
theorem LOwn.ne {base g : Nat} {w : World} {v : Value} {ls : List (Int × Bool × List Nat)} (h : LOwn base w v ls) (hg : w.heap.size ≤ g) : OwnFree base v g := by
 rcases h with ⟨rfl, rfl⟩ | ⟨g', cap, cur, rfl, hb, hbox, _⟩
 ·exact .inl rfl
 ·exact .inr (by have := hbox.lt; show g' ≠ g; omega)
theorem Box.keptO {w w' : World} {g base : Nat} {cs : Array Value} {t : TypeId} {v : Value} (h : Box w g cs t) (k : Kept [ownBlk base v] w w') (hn : v = .slice none 0 0 → Ext w w') (hg : OwnFree base v g) : Box w' g cs t := by
 rcases hg with e | e
 ·exact h.up (hn e)
 ·exact h.kept k (by simpa using e.symm)
theorem LOwn.keptF {base g' : Nat} {w w' : World} {v : Value} {ls : List (Int × Bool × List Nat)} (h : LOwn base w v ls) (hk : Kept [g'] w w') (hs : Keeps w w') (hg : OwnFree base v g') : LOwn base w' v ls := by
 rcases h with ⟨rfl, rfl⟩ | ⟨g, cap, cur, rfl, hb, hbox, hc, hm, hz, hno, hl⟩
 ·exact .inl ⟨rfl, rfl⟩
 ·rcases hg with e | e
  ·cases e
  ·exact .inr ⟨g, cap, cur, rfl, hb, hbox.kept hk (by have e' : g ≠ g' := e; simpa using e'), hc, hm, hz, hno, fun k x hx => (hl k x hx).kz hs⟩
/-- Forms one behind the other in memory. -/
def FList (w : World) (v : Value) (fs : List (M.Tm × Int)) (W : Nat) : Prop :=
 ∃ ad n c, v = .slice (some ad) n c ∧ n = fs.length ∧ n ≤ 1000 ∧ ad.block < w.heap.size ∧ ∀ k x, fs[k]? = some x → ∃ A m d g B p q, w.cell? (ad.add (k * 3)) = some (.slice A m d) ∧ w.cell? ((ad.add (k * 3)).add 1) = some (.bool g) ∧ w.cell? ((ad.add (k * 3)).add 2) = some (.slice B p q) ∧ IsL w (.agg #[.slice A m d, .bool g, .slice B p q]) x.1 x.2 W
theorem IsL.wide {w : World} {v : Value} {t : M.Tm} {κ : Int} {W U : Nat} (h : IsL w v t κ W) (hU : W ≤ U) : IsL w v t κ U := by
 obtain ⟨A, n, c, g, B, m, d, h1, h2, h3, h4⟩ := h
 exact ⟨A, n, c, g, B, m, d, h1, h2.wide hU, h3.wide hU, h4⟩
theorem FList.up {w w' : World} {v : Value} {fs : List (M.Tm × Int)} {W : Nat} (h : FList w v fs W) (e : Ext w w') : FList w' v fs W := by
 obtain ⟨ad, n, c, h1, h2, h3, h4, h5⟩ := h
 refine ⟨ad, n, c, h1, h2, h3, Nat.lt_of_lt_of_le h4 e.size, fun k x hx => ?_⟩
 obtain ⟨A, m, d, g, B, p, q, k1, k2, k3, k4⟩ := h5 k x hx
 exact ⟨A, m, d, g, B, p, q, by rw [e.below.cell (by rw [addr_block]; exact h4)]; exact k1, by rw [e.below.cell (by rw [addr_block, addr_block]; exact h4)]; exact k2, by rw [e.below.cell (by rw [addr_block, addr_block]; exact h4)]; exact k3, k4.up e⟩
theorem FList.get {w : World} {v : Value} {fs : List (M.Tm × Int)} {W : Nat} (h : FList w v fs W) : ∃ ad n c, v = .slice (some ad) n c ∧ n = fs.length ∧ n ≤ 1000 ∧ ∀ k x, fs[k]? = some x → ∃ A m d g B p q, CellAt w (ad.add (k * 3)) (.slice A m d) ∧ CellAt w ((ad.add (k * 3)).add 1) (.bool g) ∧ CellAt w ((ad.add (k * 3)).add 2) (.slice B p q) ∧ LTm w (.slice A m d) x.1 W ∧ IsZ w (.agg #[.bool g, .slice B p q]) x.2 W ∧ M.okT (-1) x.1 := by
 obtain ⟨ad, n, c, h1, h2, h3, h4, h5⟩ := h
 refine ⟨ad, n, c, h1, h2, h3, fun k x hx => ?_⟩
 obtain ⟨A, m, d, g, B, p, q, k1, k2, k3, A', m', d', g', B', p', q', e, k4, k5, k6⟩ := h5 k x hx
 simp at e
 obtain ⟨⟨rfl, rfl, rfl⟩, rfl, rfl, rfl, rfl⟩ := e
 exact ⟨A, m, d, g, B, p, q, k1, k2, k3, k4, k5, k6⟩
theorem FList.all {w : World} {v : Value} {fs : List (M.Tm × Int)} {W : Nat} (h : FList w v fs W) : ∀ x ∈ M.cat fs, -1 < x.1 ∧ (M.limbs x.2.natAbs).length ≤ W := by
 intro x hx
 unfold M.cat at hx
 obtain ⟨f, hf, hx⟩ := List.mem_flatMap.1 hx
 obtain ⟨k, hk, rfl⟩ := List.getElem_of_mem hf
 obtain ⟨ad, n, c, _, _, _, h5⟩ := h.get
 obtain ⟨A, m, d, g, B, p, q, _, _, _, k4, _, k6⟩ := h5 k _ (List.getElem?_eq_getElem hk)
 exact ⟨(M.okT_all k6 x hx).1, k4.2 x hx⟩
theorem flist1 {w : World} {g : Nat} {T : TypeId} {A0 B0 : Option Addr} {n0 c0 m0 d0 : Nat} {g0 : Bool} {t : M.Tm} {κ : Int} {W : Nat} (hb : Box w g #[.slice A0 n0 c0, .bool g0, .slice B0 m0 d0] T) (h0 : IsL w (.agg #[.slice A0 n0 c0, .bool g0, .slice B0 m0 d0]) t κ W) :
 FList w (.slice (some ⟨g, 0, none⟩) 1 1) [(t, κ)] W := by
 refine ⟨_, _, _, rfl, rfl, by decide, hb.lt, fun k x hk => ?_⟩
 rcases k with _ | k
 ·simp at hk; subst hk
  exact ⟨_, _, _, _, _, _, _, by rw [Addr.add_lit]; exact hb.cell rfl, by rw [Addr.add_lit, Addr.add_lit]; exact hb.cell rfl, by rw [Addr.add_lit, Addr.add_lit]; exact hb.cell rfl, h0⟩
 ·simp at hk
theorem flist2 {w : World} {g : Nat} {T : TypeId} {A0 B0 A1 B1 : Option Addr} {n0 c0 m0 d0 n1 c1 m1 d1 : Nat} {g0 g1 : Bool} {t s : M.Tm} {κ μ : Int} {W : Nat} (hb : Box w g #[.slice A0 n0 c0, .bool g0, .slice B0 m0 d0, .slice A1 n1 c1, .bool g1, .slice B1 m1 d1] T) (h0 : IsL w (.agg #[.slice A0 n0 c0, .bool g0, .slice B0 m0 d0]) t κ W) (h1 : IsL w (.agg #[.slice A1 n1 c1, .bool g1, .slice B1 m1 d1]) s μ W) :
 FList w (.slice (some ⟨g, 0, none⟩) 2 2) [(t, κ), (s, μ)] W := by
 refine ⟨_, _, _, rfl, rfl, by decide, hb.lt, fun k x hk => ?_⟩
 rcases k with _ | _ | k
 ·simp at hk; subst hk
  exact ⟨_, _, _, _, _, _, _, by rw [Addr.add_lit]; exact hb.cell rfl, by rw [Addr.add_lit, Addr.add_lit]; exact hb.cell rfl, by rw [Addr.add_lit, Addr.add_lit]; exact hb.cell rfl, h0⟩
 ·simp at hk; subst hk
  exact ⟨_, _, _, _, _, _, _, by rw [Addr.add_lit]; exact hb.cell rfl, by rw [Addr.add_lit, Addr.add_lit]; exact hb.cell rfl, by rw [Addr.add_lit, Addr.add_lit]; exact hb.cell rfl, h1⟩
 ·simp at hk
theorem flist3 {w : World} {g : Nat} {T : TypeId} {A0 B0 A1 B1 A2 B2 : Option Addr} {n0 c0 m0 d0 n1 c1 m1 d1 n2 c2 m2 d2 : Nat} {g0 g1 g2 : Bool} {t s r : M.Tm} {κ μ ν : Int} {W : Nat} (hb : Box w g #[.slice A0 n0 c0, .bool g0, .slice B0 m0 d0, .slice A1 n1 c1, .bool g1, .slice B1 m1 d1, .slice A2 n2 c2, .bool g2, .slice B2 m2 d2] T) (h0 : IsL w (.agg #[.slice A0 n0 c0, .bool g0, .slice B0 m0 d0]) t κ W) (h1 : IsL w (.agg #[.slice A1 n1 c1, .bool g1, .slice B1 m1 d1]) s μ W) (h2 : IsL w (.agg #[.slice A2 n2 c2, .bool g2, .slice B2 m2 d2]) r ν W) :
 FList w (.slice (some ⟨g, 0, none⟩) 3 3) [(t, κ), (s, μ), (r, ν)] W := by
 refine ⟨_, _, _, rfl, rfl, by decide, hb.lt, fun k x hk => ?_⟩
 rcases k with _ | _ | _ | k
 ·simp at hk; subst hk
  exact ⟨_, _, _, _, _, _, _, by rw [Addr.add_lit]; exact hb.cell rfl, by rw [Addr.add_lit, Addr.add_lit]; exact hb.cell rfl, by rw [Addr.add_lit, Addr.add_lit]; exact hb.cell rfl, h0⟩
 ·simp at hk; subst hk
  exact ⟨_, _, _, _, _, _, _, by rw [Addr.add_lit]; exact hb.cell rfl, by rw [Addr.add_lit, Addr.add_lit]; exact hb.cell rfl, by rw [Addr.add_lit, Addr.add_lit]; exact hb.cell rfl, h1⟩
 ·simp at hk; subst hk
  exact ⟨_, _, _, _, _, _, _, by rw [Addr.add_lit]; exact hb.cell rfl, by rw [Addr.add_lit, Addr.add_lit]; exact hb.cell rfl, by rw [Addr.add_lit, Addr.add_lit]; exact hb.cell rfl, h2⟩
 ·simp at hk
section
variable {P : Program} {ops : Array Oper} {Q : Exit → Act → World → Prop} {A : Nat → TypeId × Array Value} {B : Nat} {G : List Nat} {i : Nat} {r : List (Nat × Nat)} {a : Act} {w : World} {o : Oper} {d : Option Tmp}
/-- An act that gives a value and may turn a block (an append onto a list that was there). -/
theorem WE.actK {v : Value} {w' : World} (ho : ops[i]? = some o) (hd : o.dst = d) (hw : Region.wanted o (yielded ops a.tmps) = true)
 (he : (execOp a.eval o).run P w = .ok (.value v) w') (hk : w.heap.size ≤ w'.heap.size) (h : WE P ops Q A B r G (a.put d v) w') : WE P ops Q A B ((i, 4) :: r) G a w := by
 subst hd
 unfold WE wpOp
 simp only [ho, hw, if_true]
 refine .inl ?_
 unfold Oper.wp
 rw [he]
 exact ⟨hk, h⟩
/-- A call that may turn a block. -/
theorem WE.callK {f : FuncId} {args : Array Value} (ho : ops[i]? = some o) (hd : o.dst = d) (hw : Region.wanted o (yielded ops a.tmps) = true)
 (he : (execOp a.eval o).run P w = .ok (.enter f args) w)
 (hc : Calls P f args w fun e w' => ∃ v, e = .returned v ∧ w.heap.size ≤ w'.heap.size ∧ WE P ops Q A B r G (a.put d v) w') : WE P ops Q A B ((i, 4) :: r) G a w := by
 subst hd
 unfold WE wpOp
 simp only [ho, hw, if_true]
 refine .inl ?_
 unfold Oper.wp
 rw [he]
 unfold Oper.upon
 refine hc.mono ?_
 rintro e w' ⟨v, rfl, hk, h⟩
 exact ⟨hk, h⟩
end
end Go.Proofs.YtklmnmkmpkobhaaGreat
