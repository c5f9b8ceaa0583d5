/-
  Layer 12's words: lists of integers, of a call's own (as XGRow's and XJOwn's, without package lin's words).
-/
import Derived.Test.YtkhmgdfhggejaaaGreatDoorWVA
namespace Go.Proofs.YtkhmgdfhggejaaaGreatDoor.Q
open Go.RowKit
set_option linter.unusedSimpArgs false
set_option linter.unusedVariables false
def ZAt (w : World) (ad : Addr) (k : Nat) (x : Bool × List Nat) : Prop :=
 ∃ A n c, w.cell? (ad.add (k * 2)) = some (.bool x.1) ∧ w.cell? ((ad.add (k * 2)).add 1) = some (.slice A n c) ∧ Num w w.heap.size (.slice A n c) x.2
def ZList (w : World) (v : Value) (ls : List (Bool × List Nat)) : Prop :=
 ∃ A n c, v = .slice A n c ∧ n = ls.length ∧ n ≤ c ∧ c ≤ maxLen ∧ ∀ k x, ls[k]? = some x → ∃ ad, A = some ad ∧ ad.block < w.heap.size ∧ ZAt w ad k x
theorem ZAt.up {w w' : World} {ad : Addr} {k : Nat} {x : Bool × List Nat} (h : ZAt w ad k x) (e : Ext w w') (hb : ad.block < w.heap.size) : ZAt w' ad k x := by
 obtain ⟨A, n, c, h1, h2, h3⟩ := h
 exact ⟨A, n, c, by rw [e.below.cell (by rw [addr_block]; exact hb)]; exact h1, by rw [e.below.cell (by rw [addr_block, addr_block]; exact hb)]; exact h2, h3.up e⟩
theorem ZList.up {w w' : World} {v : Value} {ls : List (Bool × List Nat)} (h : ZList w v ls) (e : Ext w w') : ZList w' v ls := by
 obtain ⟨A, n, c, h1, h2, h3, h4, h5⟩ := h
 refine ⟨A, n, c, h1, h2, h3, h4, fun k x hx => ?_⟩
 obtain ⟨ad, ha, hb, hz⟩ := h5 k x hx
 exact ⟨ad, ha, Nat.lt_of_lt_of_le hb e.size, hz.up e hb⟩
theorem ZList.shape {w : World} {v : Value} {ls : List (Bool × List Nat)} (h : ZList w v ls) : ∃ A n c, v = .slice A n c := by
 obtain ⟨A, n, c, h, _⟩ := h; exact ⟨A, n, c, h⟩
theorem ZList.count {w : World} {A : Option Addr} {n c : Nat} {ls : List (Bool × List Nat)} (h : ZList w (.slice A n c) ls) : n = ls.length ∧ n ≤ c ∧ n ≤ 9223372036854775807 := by
 obtain ⟨A', n', c', e, hn, hc, hm, _⟩ := h
 injection e with e1 e2 e3
 unfold maxLen at hm
 exact ⟨by omega, by omega, by omega⟩
theorem ZList.get {w : World} {A : Option Addr} {n c : Nat} {ls : List (Bool × List Nat)} (h : ZList w (.slice A n c) ls) {k : Nat} {x : Bool × List Nat} (hk : ls[k]? = some x) :
 ∃ ad A' n' c', A = some ad ∧ CellAt w (ad.add (k * 2)) (.bool x.1) ∧ CellAt w ((ad.add (k * 2)).add 1) (.slice A' n' c') ∧ Num w w.heap.size (.slice A' n' c') x.2 := by
 obtain ⟨A', n', c', e, hn, hc, hm, hz⟩ := h
 injection e with e1 e2 e3
 subst e1
 obtain ⟨ad, ha, _, B, p, q, h1, h2, h3⟩ := hz k x hk
 exact ⟨ad, B, p, q, ha, h1, h2, h3⟩
theorem ZList.nil (w : World) (c : Nat) (hc : c ≤ maxLen) (A : Option Addr) : ZList w (.slice A 0 c) [] := ⟨A, 0, c, rfl, rfl, Nat.zero_le _, hc, fun k x hx => by simp at hx⟩
def JCell (w : World) (cur : Array Value) (k : Nat) (x : Bool × List Nat) : Prop :=
 ∃ A n c, cur[k * 2]? = some (.bool x.1) ∧ cur[k * 2 + 1]? = some (.slice A n c) ∧ Num w w.heap.size (.slice A n c) x.2
def JOwn (base : Nat) (w : World) (v : Value) (ls : List (Bool × List Nat)) : Prop :=
 (v = .slice none 0 0 ∧ ls = []) ∨ ∃ g cap cur, v = .slice (some ⟨g, 0, none⟩) ls.length cap ∧ base ≤ g ∧ Box w g cur 24 ∧ ls.length ≤ cap ∧ cap ≤ maxLen ∧ cur.size = cap * 2 ∧ noLimb cur = true ∧ ∀ k x, ls[k]? = some x → JCell w cur k x
theorem JOwn.list {base : Nat} {w : World} {v : Value} {ls : List (Bool × List Nat)} (h : JOwn base w v ls) : ZList w v ls := by
 rcases h with ⟨rfl, rfl⟩ | ⟨g, cap, cur, rfl, hb, hbox, hc, hm, hs, hno, hz⟩
 ·exact ZList.nil _ _ (Nat.zero_le _) _
 ·refine ⟨_, _, _, rfl, rfl, hc, hm, fun k x hk => ⟨_, rfl, hbox.lt, ?_⟩⟩
  obtain ⟨A, n, c, h0, h1, h2⟩ := hz k x hk
  refine ⟨A, n, c, ?_, ?_, h2⟩
  ·rw [Addr.add_lit, Nat.zero_add]; exact hbox.cell h0
  ·rw [Addr.add_lit, Addr.add_lit, Nat.zero_add]; exact hbox.cell h1
theorem JCell.kz {w w' : World} {cur : Array Value} {k : Nat} {x : Bool × List Nat} (h : JCell w cur k x) (e : Keeps w w') : JCell w' cur k x := by
 obtain ⟨A, n, c, h0, h1, h2⟩ := h
 exact ⟨A, n, c, h0, h1, e _ _ h2⟩
theorem JOwn.up {base : Nat} {w w' : World} {v : Value} {ls : List (Bool × List Nat)} (h : JOwn base w v ls) (e : Ext w w') : JOwn base w' v ls := by
 rcases h with ⟨rfl, rfl⟩ | ⟨g, cap, cur, rfl, hb, hbox, hc, hm, hs, hno, hz⟩
 ·exact .inl ⟨rfl, rfl⟩
 ·exact .inr ⟨g, cap, cur, rfl, hb, hbox.up e, hc, hm, hs, hno, fun k x hk => (hz k x hk).kz e.keeps⟩
theorem JOwn.shape {base : Nat} {w : World} {v : Value} {ls : List (Bool × List Nat)} (h : JOwn base w v ls) : ∃ A n c, v = .slice A n c := h.list.shape
theorem JOwn.blk {base : Nat} {w : World} {v : Value} {ls : List (Bool × List Nat)} (h : JOwn base w v ls) : base ≤ ownBlk base v := by
 rcases h with ⟨rfl, rfl⟩ | ⟨g, cap, cur, rfl, hb, _⟩
 ·exact Nat.le_refl _
 ·exact hb
theorem JOwn.kept {base g' : Nat} {w w' : World} {v : Value} {ls : List (Bool × List Nat)} (h : JOwn base w v ls) (hk : Kept [g'] w w') (hs : Keeps w w') (hg : g' < base) : JOwn base w' v ls := by
 rcases h with ⟨rfl, rfl⟩ | ⟨g, cap, cur, rfl, hb, hbox, hc, hm, hz, hno, hl⟩
 ·exact .inl ⟨rfl, rfl⟩
 ·exact .inr ⟨g, cap, cur, rfl, hb, hbox.kept hk (by simp; omega), hc, hm, hz, hno, fun k x hx => (hl k x hx).kz hs⟩
theorem info_IntJ : (Tryz.prog.info? 24).map (fun i => (i.zero, i.size, i.bytes)) = some (some (.agg #[.bool false, .slice none 0 0]), 2, 32) := by kernel_rfl
theorem noLimb_zerosJ (n : Nat) : noLimb (Builtin.zeroCells (Value.agg #[.bool false, .slice none 0 0]).cells n) = true := by
 unfold noLimb
 rw [List.all_eq_true]
 intro v hv
 have hz : (Value.agg #[.bool false, .slice none 0 0]).cells = #[.bool false, .slice none 0 0] := rfl
 rw [hz] at hv
 simp [Builtin.zeroCells] at hv
 obtain ⟨i, _, rfl⟩ := hv
 rcases (show i % 2 = 0 ∨ i % 2 = 1 by omega) with e | e <;> rw [e] <;> rfl
theorem noLimb_litJ (b : Bool) (A : Option Addr) (n c : Nat) : noLimb #[.bool b, .slice A n c] = true := rfl
theorem jcell_app {w : World} {cur CS : Array Value} {ls : List (Bool × List Nat)} {b : Bool} {A : Option Addr} {n c : Nat} {l : List Nat} {rest : List Value} (hs : ls.length * 2 ≤ cur.size)
 (hCS : CS.toList = cur.toList.take (ls.length * 2) ++ (.bool b :: .slice A n c :: rest)) (hz : ∀ k x, ls[k]? = some x → JCell w cur k x) (hm : Num w w.heap.size (.slice A n c) l) :
 ∀ k x, (ls ++ [(b, l)])[k]? = some x → JCell w CS k x := by
 intro k x hk
 have hget : ∀ i, CS[i]? = CS.toList[i]? := fun i => Array.getElem?_toList.symm
 have hlt : (cur.toList.take (ls.length * 2)).length = ls.length * 2 := by
  have e : cur.toList.length = cur.size := Array.length_toList
  rw [List.length_take, e]; omega
 rcases Nat.lt_or_ge k ls.length with h | h
 ·rw [List.getElem?_append_left h] at hk
  obtain ⟨A', n', c', h0, h1, h2⟩ := hz k x hk
  refine ⟨A', n', c', ?_, ?_, h2⟩
  ·rw [hget, hCS, List.getElem?_append_left (by rw [hlt]; omega), List.getElem?_take, if_pos (by omega), Array.getElem?_toList]; exact h0
  ·rw [hget, hCS, List.getElem?_append_left (by rw [hlt]; omega), List.getElem?_take, if_pos (by omega), Array.getElem?_toList]; exact h1
 ·rw [List.getElem?_append_right h] at hk
  have hk0 : k = ls.length := by
   rcases Nat.eq_zero_or_pos (k - ls.length) with e | e
   ·omega
   ·rw [List.getElem?_eq_none (by simp; omega)] at hk; cases hk
  subst hk0
  simp at hk
  subst hk
  refine ⟨A, n, c, ?_, ?_, hm⟩
  ·rw [hget, hCS, List.getElem?_append_right (by rw [hlt]; omega), hlt, Nat.sub_self]; rfl
  ·rw [hget, hCS, List.getElem?_append_right (by rw [hlt]; omega), hlt, show ls.length * 2 + 1 - ls.length * 2 = 1 by omega]; rfl
theorem appJ_run {base : Nat} {w : World} {v : Value} {ls : List (Bool × List Nat)} {b : Bool} {A : Option Addr} {n c : Nat} {l : List Nat} {gL : Nat} {tL : TypeId} (h : JOwn base w v ls) (hL : Box w gL #[.bool b, .slice A n c] tL)
 (hm : Num w w.heap.size (.slice A n c) l) (hlen : ls.length + 1 ≤ 1000000) (hbase : base ≤ w.heap.size) (ty : TypeId) :
 ∃ v' w', (Builtin.append_ #[121, 121] ty #[v, .slice (some ⟨gL, 0, none⟩) 1 1]).run Tryz.prog w = .ok v' w' ∧ JOwn base w' v' (ls ++ [(b, l)]) ∧ Kept [ownBlk base v] w w' ∧ Keeps w w' := by
 obtain ⟨i0, hi, hz0, hz1, hz2⟩ := info_parts info_IntJ
 have hnews : ∀ j u, [Value.bool b, .slice A n c][j]? = some u → w.cell? ((⟨gL, 0, none⟩ : Addr).add j) = some u := by
  intro j u hj
  rw [Addr.add_lit, Nat.zero_add]
  rcases j with _ | _ | j
  ·simp at hj; subst hj; exact hL.cell rfl
  ·simp at hj; subst hj; exact hL.cell rfl
  ·simp at hj
 have hl : [Value.bool b, Value.slice A n c].length = 1 * i0.size := by rw [hz1]; rfl
 have h1 : ∀ u ∈ [Value.bool b, Value.slice A n c], u.oneCell' = true := by
  intro u hu; simp at hu; rcases hu with rfl | rfl <;> rfl
 have hcm : ∀ old, grownCap w (ls.length + 1) old 24 ≤ maxLen := fun old => grownCap_le_maxLen w _ old _ (by unfold maxLen; omega)
 have hge : ∀ old, ls.length + 1 ≤ grownCap w (ls.length + 1) old 24 := fun old => grownCap_ge w _ old _
 have hll : (ls ++ [(b, l)]).length = ls.length + 1 := by simp
 rcases h with ⟨rfl, rfl⟩ | ⟨g, cap, cur, rfl, hb, hbox, hc, hmx, hs, hno, hz⟩
 ·have hr := run_append_nil (P := Tryz.prog) w 121 ty 24 i0 _ Tryz.underlying121 hi hz0 ⟨gL, 0, none⟩ 1 1 _ hl hnews (by omega) (by omega) (by rw [hz2]; omega)
  have hE : Ext w (w.drew.alloc (.cells ([Value.bool b, Value.slice A n c].toArray ++ Builtin.zeroCells (Value.agg #[.bool false, .slice none 0 0]).cells (grownCap w 1 0 24 - 1)) 24)) := ((Ext.refl w).drew').alloc' _
  refine ⟨_, _, hr, .inr ⟨w.heap.size, _, _, rfl, hbase, Box.new w.drew _ _, hge 0, hcm 0, ?_, noLimb_appendL (noLimb_litJ _ _ _ _) (noLimb_zerosJ _), ?_⟩, hE.kept _, hE.keeps⟩
  ·rw [Array.size_append, size_zeroCells]
   have := hge 0
   simp [Value.cells] at this ⊢
   omega
  ·intro k x hk
   exact (jcell_app (w := w) (cur := #[]) (ls := []) (by simp) (by simp; rfl) (by simp) hm k x hk).kz hE.keeps
 ·have hsz : ls.length * 2 ≤ cur.size := by rw [hs]; omega
  rcases Nat.lt_or_ge cap (ls.length + 1) with hcap | hcap
  ·have hr := run_append_grow (P := Tryz.prog) w 121 ty 24 i0 _ Tryz.underlying121 hi hz0 ⟨g, 0, none⟩ ls.length cap (cur.toList.take (ls.length * 2)) (by have e : cur.toList.length = cur.size := Array.length_toList; rw [List.length_take, e, hz1]; omega)
    (fun j u hj => by
     rw [Addr.add_lit, Nat.zero_add]
     rw [List.getElem?_take] at hj
     split at hj
     ·exact hbox.cell (by rw [← Array.getElem?_toList]; exact hj)
     ·cases hj) ⟨gL, 0, none⟩ 1 1 _ hl hnews hcap (by omega) (growslice_fits hcap (by rw [hz2]; omega))
   have hE : ∀ cs, Ext w (w.drew.alloc (.cells cs 24)) := fun cs => ((Ext.refl w).drew').alloc' _
   refine ⟨_, _, hr, .inr ⟨w.heap.size, _, _, by rw [hll], hbase, Box.new w.drew _ _, by rw [hll]; exact hge cap, hcm cap, ?_, noLimb_appendL (noLimb_appendL (noLimb_takeL hno _) (noLimb_litJ _ _ _ _)) (noLimb_zerosJ _), ?_⟩, (hE _).kept _, (hE _).keeps⟩
   ·rw [Array.size_append, Array.size_append, size_zeroCells]
    have := hge cap
    simp [Value.cells, List.length_take] at this ⊢
    omega
   ·intro k x hk
    exact (jcell_app (w := w) (cur := cur) (ls := ls) hsz (by simp; rfl) hz hm k x hk).kz (hE _).keeps
  ·have hr := run_append_room (P := Tryz.prog) w 121 ty 24 i0 Tryz.underlying121 hi g ls.length cap cur hbox ⟨gL, 0, none⟩ 1 1 _ hl hnews h1 hcap (by rw [hz1, hs]; simp; omega)
   rw [hz1] at hr
   have hk := kept_rowL (w := w) (g := g) (cur.toList.take (ls.length * 2) ++ [Value.bool b, Value.slice A n c] ++ cur.toList.drop (ls.length * 2 + [Value.bool b, Value.slice A n c].length)).toArray
   have hkeep := keeps_store hbox hno hk
   refine ⟨_, _, hr, .inr ⟨g, cap, _, by rw [hll], hb, setRow_heap w g cur _ _ _ hbox, by rw [hll]; exact hcap, hmx, ?_, ?_, ?_⟩, hk, hkeep⟩
   ·simp [List.length_take, List.length_drop, hs]; omega
   ·have := noLimb_appendL (noLimb_appendL (noLimb_takeL hno (ls.length * 2)) (noLimb_litJ b A n c)) (noLimb_dropL hno (ls.length * 2 + 2))
    simpa using this
   ·intro k x hk'
    exact (jcell_app (w := w) (cur := cur) (ls := ls) hsz (by simp; rfl) hz hm k x hk').kz hkeep
theorem wpList_appN {base : Nat} {w : World} {ops : Array Oper} {rest : List Oper} {o : Oper} {a : Act} {Q : Exit → Act → World → Prop} (hgd : o.guard = none) (s x : Operand)
 (ho : o.op = .call { callee := .builtin .append, args := #[s, x], argTypes := #[121, 121] }) {v : Value} {ls : List (Bool × List Nat)} {b : Bool} {A : Option Addr} {n c : Nat} {l : List Nat} {gL : Nat} {tL : TypeId}
 (hs : a.eval s = v) (hx : a.eval x = .slice (some ⟨gL, 0, none⟩) 1 1) (h : JOwn base w v ls) (hL : Box w gL #[.bool b, .slice A n c] tL) (hm : Num w w.heap.size (.slice A n c) l) (hlen : ls.length + 1 ≤ 1000000) (hbase : base ≤ w.heap.size)
 (hq : ∀ v' w', JOwn base w' v' (ls ++ [(b, l)]) → Kept [ownBlk base v] w w' → wpList Tryz.prog ops Q rest (a.put o.dst v') w') : wpList Tryz.prog ops Q (o :: rest) a w := by
 obtain ⟨v', w', hr, h2, h3, h4⟩ := appJ_run h hL hm hlen hbase o.type
 refine wpList_plain hgd fun K hK => ?_
 unfold Oper.wp execOp
 simp only [ho, resolve, invoke, builtin, Sem.run_bind, Sem.run_pure, Result.andThen_ok, List.map_toArray, List.map_cons, List.map_nil, hs, hx, hr]
 exact hK _ _ (hq v' w' h2 h3)
def GivesNs (w : World) (ls : List (Bool × List Nat)) (e : Ending) (w' : World) : Prop := ∃ v, e = .returned v ∧ JOwn w.heap.size w' v ls ∧ Ext w w'
theorem JOwn.nil (base : Nat) (w : World) : JOwn base w (.slice none 0 0) [] := .inl ⟨rfl, rfl⟩
set_option maxHeartbeats 4000000 in
theorem numbers_v {ks : List M.Vl} {v : Value} {w : World} (h : VList w v ks) (hlen : ks.length ≤ 100000) : Calls Tryz.prog 97 #[v] w (GivesNs w (ks.map (·.2))) := by
 obtain ⟨A, n, c, rfl⟩ := h.shape
 obtain ⟨hn, hl2, hl3⟩ := h.count
 rw [← hn] at hlen
 have HK := hid h
 have HN := hid hn.symm
 clear h hn
 go_enter Tryz.func97, Tryz.ntmps97
 go_wp2_with fail
 go_loopw [3, 8] (fun x i wr => ∃ k : Nat, k ≤ n ∧ i = .int .i64 k ∧ Hid (JOwn w.heap.size wr x ((ks.take k).map (·.2)) ∧ Ext w wr)) (fun _ i _ => n - (intOf i).toNat)
 case atStart => exact ⟨0, Nat.zero_le _, rfl, JOwn.nil _ _, Ext.refl _⟩
 case round =>
  obtain ⟨k, hk, rfl, hR⟩ := hrel
  have E := hid hR.out.2
  obtain ⟨L, hL⟩ : ∃ L, (ks.take k).map (·.2) = L := ⟨_, rfl⟩
  have hO := hR.out.1
  rw [hL] at hO
  have HL := hid hL
  have HLK := hid (show L.length = k by rw [← HL.out, List.length_map, List.length_take, HN.out]; omega)
  obtain ⟨IA, m, ic, rfl⟩ := hO.shape
  have HO := hid hO
  clear hR hL hO
  rcases Nat.lt_or_ge k n with hlt | hge
  ·have hlt' : (k : Int) < (n : Int) := by omega
   obtain ⟨x, hx⟩ : ∃ x, ks[k]? = some x := ⟨_, List.getElem?_eq_getElem (by rw [HN.out]; exact hlt)⟩
   obtain ⟨ad, N', nn', nc', rfl, c0, c1, c2, hv⟩ := (HK.out.up E.out).get hx
   replace c0 : wr.cell? (ad.add (k * 3)) = some (.int .i64 x.1) := c0
   replace c1 : wr.cell? ⟨(ad.add (k * 3)).block, (ad.add (k * 3)).off + 1, none⟩ = some (.bool x.2.1) := c1
   replace c2 : wr.cell? ⟨(ad.add (k * 3)).block, (ad.add (k * 3)).off + 2, none⟩ = some (.slice N' nn' nc') := c2
   have HU := hid hx
   have HV := hid hv
   have hlen9 := hid (show L.length + 1 ≤ 1000000 by have := HLK.out; omega)
   clear hx hv
   go_wp2_with (at_builtin; refine wpList_appN rfl (.tmp 12) (.tmp 15) rfl (base := w.heap.size) (ls := L) (b := x.2.1) (A := N') (n := nn') (c := nc') (l := x.2.2) (gL := wr.heap.size + 1) (tL := 24) rfl rfl ?own ?box ?num hlen9.out ?base ?_)
   case own => exact HO.out.up ((Ext.alloc wr _).alloc' _)
   case box => exact Box.at_ (w := wr.alloc _) _ _ (by simp)
   case num => exact HV.out.up ((Ext.alloc wr _).alloc' _)
   case base => have := E.out.size; simp; omega
   intro v' w5 hO5 hk5
   have HO5 := hid hO5
   have E5 := hid (show Ext w w5 from ((E.out.alloc' _).alloc' _).keptG hk5 HO.out.blk)
   clear hO5 hk5
   go_wp2_with fail
   go_roundw
   case rel => exact ⟨k + 1, by omega, by simp, by rw [List.take_add_one, HU.out, List.map_append, HL.out]; exact HO5.out, E5.out⟩
   case measure => simp [intOf]; omega
  ·obtain rfl : k = n := by omega
   go_wp2
   go_ret
   refine ⟨_, rfl, ?_, E.out⟩
   have h1 := HL.out
   rw [← HN.out, List.take_length] at h1
   rw [h1]
   exact HO.out
theorem box2v {w : World} {k : Nat} {x0 x1 : Value} {T : TypeId} (h : Box w k #[x0, x1] T) : (w.cell? ⟨k, 0, none⟩ = some x0 ∧ w.cell? ⟨k, 1, none⟩ = some x1) ∧ (w.frozen? ⟨k, 0, none⟩ = false ∧ w.frozen? ⟨k, 1, none⟩ = false) ∧ k < w.heap.size := ⟨⟨h.k 0, h.k 1⟩, ⟨h.free 0, h.free 1⟩, h.lt⟩
abbrev put2v (w : World) (k : Nat) (x0 x1 : Value) : World := (w.setCell ⟨k, 0, none⟩ x0).setCell ⟨k, 1, none⟩ x1
theorem mSum_take {l : List Int} {k : Nat} {x : Int} (h : l[k]? = some x) : M.mSum (l.take (k + 1)) = M.mSum (l.take k) + x := by
 unfold M.mSum
 rw [List.take_add_one, h]; simp
theorem isZ_zeroS (w : World) (MS : List Int) (k : Nat) : IsZ w (.agg #[.bool false, .slice none 0 0]) (M.mSum (MS.take 0)) k := by
 have e : M.limbs 0 = [] := by simp [M.limbs]
 have hz : M.mSum (MS.take 0) = 0 := rfl
 rw [hz]
 exact ⟨none, 0, 0, rfl, by rw [show (0 : Int).natAbs = 0 from rfl, e]; exact LNum.nil _, by rw [show (0 : Int).natAbs = 0 from rfl, e]; exact Nat.zero_le _⟩
set_option maxHeartbeats 4000000 in
theorem sum_v {ls : List (Bool × List Nat)} {v : Value} {w : World} {W : Nat} (h : ZList w v ls) (hlen : ls.length ≤ 100000) (hW : ∀ x ∈ ls, x.2.length ≤ W) (hW2 : W ≤ 100000) : Calls Tryz.prog 116 #[v] w (GivesZ w (M.mSum (ls.map fun x => M.zv x.1 x.2)) (W + ls.length)) := by
 obtain ⟨A, n, c, rfl⟩ := h.shape
 obtain ⟨hn, hl2, hl3⟩ := h.count
 rw [← hn] at hlen ⊢
 have HK := hid h
 have HN := hid hn.symm
 have HW := hid hW
 obtain ⟨MS, hMS⟩ : ∃ l, ls.map (fun x => M.zv x.1 x.2) = l := ⟨_, rfl⟩
 rw [hMS]
 have HMS := hid hMS
 clear h hn hW hMS
 go_enter Tryz.func116, Tryz.ntmps116
 go_upto_region 2 with (fail)
 refine vwp_at (fun W => Box W w.heap.size #[.bool false, .slice none 0 0] 24 ∧ Box W (w.heap.size + 1) #[.bool false, .slice none 0 0] 24 ∧ Ext w W) ⟨(Box.new w _ _).alloc _, Box.at_ (w := w.alloc (.cells #[.bool false, .slice none 0 0] 24)) (g := w.heap.size + 1) _ _ (by simp), alloc_two w _ _⟩ ?_
 intro W0 ⟨hb2, hb3, he⟩
 obtain ⟨g2, hg2⟩ : ∃ k, w.heap.size = k := ⟨_, rfl⟩
 have HG := hid hg2
 rw [hg2] at hb2 hb3 ⊢
 have HB2 := hid hb2
 have HB3 := hid hb3
 have E0 := hid he
 clear hb2 hb3 he hg2
 go_wp2_with fail
 go_loopw [8] (fun i wr => ∃ k : Nat, k ≤ n ∧ i = .int .i64 k ∧ Hid (Box wr g2 #[.bool false, .slice none 0 0] 24 ∧ (∃ b B m d, Box wr (g2 + 1) #[.bool b, .slice B m d] 24 ∧ IsZ wr (.agg #[.bool b, .slice B m d]) (M.mSum (MS.take k)) (W + k)) ∧ Ext w wr)) (fun i _ => n - (intOf i).toNat)
 case atStart => exact ⟨0, Nat.zero_le _, rfl, HB2.out, ⟨false, none, 0, 0, HB3.out, isZ_zeroS _ MS _⟩, E0.out⟩
 case round =>
  obtain ⟨k, hk, rfl, hR⟩ := hrel
  obtain ⟨h2, ⟨b, B, m, d, h3, hz⟩, h4⟩ := hR.out
  have R2 := hid h2
  have R3 := hid h3
  have RZ := hid hz
  have E := hid h4
  clear hR h2 h3 hz h4
  rcases Nat.lt_or_ge k n with hlt | hge
  ·have hlt' : (k : Int) < (n : Int) := by omega
   obtain ⟨x, hx⟩ : ∃ x, ls[k]? = some x := ⟨_, List.getElem?_eq_getElem (by rw [HN.out]; exact hlt)⟩
   obtain ⟨ad, N', nn', nc', rfl, c0, c1, hv⟩ := (HK.out.up E.out).get hx
   replace c0 : wr.cell? (ad.add (k * 2)) = some (.bool x.1) := c0
   replace c1 : wr.cell? ⟨(ad.add (k * 2)).block, (ad.add (k * 2)).off + 1, none⟩ = some (.slice N' nn' nc') := c1
   have HX := hid (show x.2.length ≤ W from HW.out x (List.mem_of_getElem? hx))
   have HS := hid (show M.mSum (MS.take (k + 1)) = M.mSum (MS.take k) + M.zv x.1 x.2 from mSum_take (by rw [← HMS.out, List.getElem?_map, hx]; rfl))
   have HC := hid (show ∀ w', Ext wr w' → Calls Tryz.prog 143 #[.agg #[.bool b, .slice B m d], .agg #[.bool x.1, .slice N' nn' nc']] w' (GivesZ w' (M.mSum (MS.take (k + 1))) (W + k + 1)) from fun w' e => by
    rw [HS.out]
    have := add_w (worth_up RZ.out.worth e) (worth_up (worth_tm (g := x.1) hv) e) (by omega) (by have := HX.out; omega)
    rw [show max (W + k) x.2.length = W + k by have := HX.out; omega] at this
    exact this)
   clear hx hv
   have EA := hid (Ext.alloc wr (.cells #[.bool x.1, .slice N' nn' nc'] 24))
   obtain ⟨⟨b0, b1⟩, -, -⟩ := box2v (R3.out.up EA.out)
   go_wp2_with fail
   refine (HC.out _ EA.out).mono ?_
   rintro e w1 ⟨v1, rfl, ⟨A1, n1, c1', rfl, hn1, hk1⟩, hb⟩
   have E1 := hid (show Ext wr w1 from EA.out.trans hb)
   have HZ1 := hid hn1
   have HZ2 := hid hk1
   have hb3 := R3.out.up E1.out
   have HB3' := hid hb3
   obtain ⟨⟨r0, r1⟩, ⟨f0, f1⟩, hz⟩ := box2v hb3
   obtain ⟨d1, hd1⟩ : ∃ d1, decide (M.mSum (MS.take (k + 1)) < 0) = d1 := ⟨_, rfl⟩
   rw [hd1]
   have HD := hid hd1
   clear hb hn1 hk1 hb3 b0 b1 HC hd1
   go_wp2_with fail
   have hkp : Kept [g2 + 1] w1 (put2v w1 (g2 + 1) (.bool d1) (.slice A1 n1 c1')) := (kept_setAt _).trans (kept_setAt _)
   have hks := keeps_store HB3'.out rfl hkp
   have HP := hid (show Box (put2v w1 (g2 + 1) (.bool d1) (.slice A1 n1 c1')) g2 #[.bool false, .slice none 0 0] 24 ∧ Box (put2v w1 (g2 + 1) (.bool d1) (.slice A1 n1 c1')) (g2 + 1) #[.bool d1, .slice A1 n1 c1'] 24 ∧ IsZ (put2v w1 (g2 + 1) (.bool d1) (.slice A1 n1 c1')) (.agg #[.bool d1, .slice A1 n1 c1']) (M.mSum (MS.take (k + 1))) (W + (k + 1)) ∧ Ext w (put2v w1 (g2 + 1) (.bool d1) (.slice A1 n1 c1')) from
    ⟨(R2.out.up E1.out).kept hkp (by simp), HB3'.out.set2 _ _, ⟨A1, n1, c1', by rw [HD.out], hks _ _ HZ1.out, HZ2.out⟩, (E.out.trans E1.out).keptG hkp (by rw [HG.out]; omega)⟩)
   clear hkp hks
   go_wp2_with fail
   go_roundw
   case rel => exact ⟨k + 1, by omega, by simp, HP.out.1, ⟨d1, A1, n1, c1', HP.out.2.1, HP.out.2.2.1⟩, HP.out.2.2.2⟩
   case measure => simp [intOf]; omega
  ·obtain rfl : k = n := by omega
   obtain ⟨⟨r0, r1⟩, ⟨f0, f1⟩, hz⟩ := box2v R2.out
   obtain ⟨⟨b0, b1⟩, -, -⟩ := box2v R3.out
   go_wp2_with fail
   refine bodyPost_ret (v := .agg #[.bool b, .slice B m d]) (by simp [results, Tryz.results116, go_sem, r0, r1, hz]) rfl ?_
   have hkp : Kept [g2] wr (put2v wr g2 (.bool b) (.slice B m d)) := (kept_setAt _).trans (kept_setAt _)
   have hks := keeps_store R2.out rfl hkp
   obtain ⟨A1, n1, c1', e, hn1, hk1⟩ := RZ.out
   have ht : MS.take k = MS := List.take_of_length_le (by rw [← HMS.out, List.length_map, HN.out]; exact Nat.le_refl _)
   rw [ht] at e hn1 hk1
   exact ⟨_, rfl, ⟨A1, n1, c1', e, by injection e with e; cases e; exact hks _ _ hn1, hk1⟩, E.out.keptG hkp (by rw [HG.out]; exact Nat.le_refl _)⟩
def M.mLess (a : Int) (r : List Int) : Int := if r = [] then -a else a - M.mSum r
set_option maxHeartbeats 4000000 in
theorem less_v {ls : List (Bool × List Nat)} {u v : Value} {Z : Int} {j : Nat} {w : World} {W : Nat} (hu : Worth w u Z j) (h : ZList w v ls) (hlen : ls.length ≤ 100000) (hW : ∀ x ∈ ls, x.2.length ≤ W) (hW2 : W ≤ 100000) (hj : j ≤ 100000) :
 Calls Tryz.prog 117 #[u, v] w (GivesZ w (M.mLess Z (ls.map fun x => M.zv x.1 x.2)) (max j (W + ls.length) + 1)) := by
 obtain ⟨A, n, c, rfl⟩ := h.shape
 obtain ⟨hn, hl2, hl3⟩ := h.count
 obtain ⟨b, B, m, d, rfl⟩ := worth_shape hu
 obtain ⟨MS, hMS⟩ : ∃ l, ls.map (fun x => M.zv x.1 x.2) = l := ⟨_, rfl⟩
 rw [hMS, ← hn]
 have HS := hid (show ∀ w', Ext w w' → Calls Tryz.prog 116 #[.slice A n c] w' (GivesZ w' (M.mSum MS) (W + n)) from fun w' e => by
  have := sum_v (h.up e) hlen hW hW2
  rw [hMS, ← hn] at this
  exact this)
 have HNG := hid (show ∀ w', Ext w w' → Calls Tryz.prog 144 #[.agg #[.bool b, .slice B m d]] w' (GivesZ w' (-Z) j) from fun w' e => neg_w (worth_up hu e) (by omega))
 have HU := hid hu
 have HM := hid (show MS.length = n by rw [← hMS, List.length_map, hn])
 rw [← hn] at hlen
 clear h hn hu hW hMS
 obtain ⟨R, hR⟩ : ∃ R, M.mLess Z MS = R := ⟨_, rfl⟩
 rw [hR]
 have HR := hid hR
 clear hR
 go_enter Tryz.func117, Tryz.ntmps117
 go_upto_region 1 with (fail)
 refine vwp_at (fun W => Box W w.heap.size #[.bool b, .slice B m d] 24 ∧ Box W (w.heap.size + 1) #[.bool false, .slice none 0 0] 24 ∧ Ext w W) ⟨(Box.new w _ _).alloc _, Box.at_ (w := w.alloc (.cells #[.bool b, .slice B m d] 24)) (g := w.heap.size + 1) _ _ (by simp), alloc_two w _ _⟩ ?_
 intro W0 ⟨hb2, hb3, he⟩
 obtain ⟨g2, hg2⟩ : ∃ k, w.heap.size = k := ⟨_, rfl⟩
 have HG := hid hg2
 rw [hg2] at hb2 hb3 ⊢
 have HB2 := hid hb2
 have HB3 := hid hb3
 have E0 := hid he
 clear hb2 hb3 he hg2
 by_cases h0 : n = 0
 ·subst h0
  have HE := hid (show R = -Z by rw [← HR.out, M.mLess, if_pos (List.eq_nil_of_length_eq_zero HM.out)])
  obtain ⟨⟨b0, b1⟩, -, -⟩ := box2v HB2.out
  go_wp2_with fail
  refine (HNG.out _ E0.out).mono ?_
  rintro e w1 ⟨v1, rfl, ⟨A1, n1, c1, rfl, hn1, hk1⟩, hb⟩
  have E1 := hid (E0.out.trans hb)
  have HB := hid (HB3.out.up hb)
  obtain ⟨⟨r0, r1⟩, ⟨f0, f1⟩, hz⟩ := box2v HB.out
  obtain ⟨d1, hd1⟩ : ∃ d1, decide (-Z < 0) = d1 := ⟨_, rfl⟩
  rw [hd1]
  have HD := hid hd1
  have HZ1 := hid hn1
  have HZ2 := hid hk1
  clear hb hn1 hk1 hd1 b0 b1
  go_wp2_with fail
  refine bodyPost_ret (v := .agg #[.bool d1, .slice A1 n1 c1]) (by simp [results, Tryz.results117, go_sem, r0, r1, hz]) rfl ?_
  have hkp : Kept [g2 + 1] w1 (put2v w1 (g2 + 1) (.bool d1) (.slice A1 n1 c1)) := (kept_setAt _).trans (kept_setAt _)
  have hks := keeps_store HB.out rfl hkp
  rw [HE.out]
  exact ⟨_, rfl, ⟨A1, n1, c1, by rw [HD.out], hks _ _ HZ1.out, Nat.le_trans HZ2.out (by omega)⟩, E1.out.keptG hkp (by rw [HG.out]; omega)⟩
 ·have HE := hid (show R = Z - M.mSum MS by rw [← HR.out, M.mLess, if_neg (fun e => by have := HM.out; rw [e] at this; simp at this; omega)])
  have hb0 : ((n : Int) == 0) = false := by simp; omega
  go_upto_region 3 with (fail)
  refine wp_region_D [(0, 0), (1, 0), (2, 1), (3, 1), (4, 4)] fun wd hb => ?_
  replace E0 := hid (E0.out.trans hb)
  replace HB2 := hid (HB2.out.up hb)
  replace HB3 := hid (HB3.out.up hb)
  clear hb
  refine WE.q 10 (.agg #[.bool b, .slice B m d]) rfl (fun w' hk => by
   have c0 := (HB2.out.up hk).k 0
   have c1 := (HB2.out.up hk).k 1
   go_simp) ?_
  simp only [pX]
  refine WE.p 11 (.slice A n c) ?_
  simp only [pX]
  refine WE.c 12 ((HS.out _ E0.out).mono ?_)
  rintro e w1 ⟨v1, rfl, hz1, hb⟩
  obtain ⟨b1, B1, m1, d1, rfl⟩ := worth_shape hz1.worth
  refine ⟨_, rfl, hb, ?_⟩
  have E1 := hid (E0.out.trans hb)
  replace HB3 := hid (HB3.out.up hb)
  have HZ := hid hz1
  clear hb hz1
  simp only [pX]
  refine WE.c 13 ((sub_w (worth_up HU.out E1.out) HZ.out.worth (by omega) (by omega)).mono ?_)
  rintro e w2 ⟨v2, rfl, ⟨A2, n2, c2, rfl, hn2, hk2⟩, hb⟩
  refine ⟨_, rfl, hb, ?_⟩
  have E2 := hid (E1.out.trans hb)
  have HB := hid (HB3.out.up hb)
  obtain ⟨⟨r0, r1⟩, ⟨f0, f1⟩, hz⟩ := box2v HB.out
  obtain ⟨dd, hdd⟩ : ∃ dd, decide (Z - M.mSum MS < 0) = dd := ⟨_, rfl⟩
  rw [hdd]
  have HD := hid hdd
  have HZ1 := hid hn2
  have HZ2 := hid hk2
  clear hb hn2 hk2 hdd
  simp only [pX]
  refine WE.store (w' := put2v w2 (g2 + 1) (.bool dd) (.slice A2 n2 c2)) rfl rfl (by rfl) (by go_simp) (by simp) ?_
  refine WE.done ?_
  have hkp : Kept [g2 + 1] w2 (put2v w2 (g2 + 1) (.bool dd) (.slice A2 n2 c2)) := (kept_setAt _).trans (kept_setAt _)
  have hks := keeps_store HB.out rfl hkp
  have HP := hid (show IsZ (put2v w2 (g2 + 1) (.bool dd) (.slice A2 n2 c2)) (.agg #[.bool dd, .slice A2 n2 c2]) R (max j (W + n) + 1) ∧ Ext w (put2v w2 (g2 + 1) (.bool dd) (.slice A2 n2 c2)) ∧ Box (put2v w2 (g2 + 1) (.bool dd) (.slice A2 n2 c2)) (g2 + 1) #[.bool dd, .slice A2 n2 c2] 24 from by
   rw [HE.out]
   exact ⟨⟨A2, n2, c2, by rw [HD.out], hks _ _ HZ1.out, HZ2.out⟩, E2.out.keptG hkp (by rw [HG.out]; omega), HB.out.set2 _ _⟩)
  obtain ⟨W3, hW3⟩ : ∃ W3, W3 = put2v w2 (g2 + 1) (.bool dd) (.slice A2 n2 c2) := ⟨_, rfl⟩
  rw [← hW3] at HP ⊢
  clear hW3 hkp hks r0 r1 f0 f1 hz
  obtain ⟨⟨r0, r1⟩, -, hz⟩ := box2v HP.out.2.2
  go_wp2_with fail
  refine bodyPost_ret (v := .agg #[.bool dd, .slice A2 n2 c2]) (by simp [results, Tryz.results117, go_sem, r0, r1, hz]) rfl ?_
  exact ⟨_, rfl, HP.out.1, HP.out.2.1⟩
end Go.Proofs.YtkhmgdfhggejaaaGreatDoor.Q
