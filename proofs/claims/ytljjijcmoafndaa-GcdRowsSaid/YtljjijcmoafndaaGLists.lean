/-
  Lists of integers that a call itself makes and appends to; lists of numbers of 32 bits and their parts; package mullionlaw4's ints; what GcdRows's ways share.
-/
import Derived.Test.YtljjijcmoafndaaGKnown
import Derived.Laws.Tables
import Derived.Deep.Cut
import Derived.Test.YtljjijcmoafndaaHeldY
import Derived.Deep.Slices
namespace Go.Proofs.Ytljjijcmoafndaa
open Go.RowKit
set_option linter.unusedSimpArgs false
set_option linter.unusedVariables false

/-- What stands at place k of a row of integers. -/
def ZCell (w : World) (cur : Array Value) (k : Nat) (x : Bool × List Nat) : Prop :=
  ∃ A n c, cur[k * 2]? = some (.bool x.1) ∧ cur[k * 2 + 1]? = some (.slice A n c) ∧ Num w w.heap.size (.slice A n c) x.2
/-- A list of integers of the call's own: its block lies at base or above. -/
def ZOwn (base : Nat) (w : World) (v : Value) (ls : List (Bool × List Nat)) : Prop :=
  (v = .slice none 0 0 ∧ ls = []) ∨ ∃ g cap cur, v = .slice (some ⟨g, 0, none⟩) ls.length cap ∧ base ≤ g ∧ Box w g cur 24 ∧ ls.length ≤ cap ∧ cap ≤ maxLen ∧ cur.size = cap * 2 ∧ noLimb cur = true ∧ ∀ k x, ls[k]? = some x → ZCell w cur k x
theorem ZOwn.list {base : Nat} {w : World} {v : Value} {ls : List (Bool × List Nat)} (h : ZOwn base w v ls) : ZList w v ls := by
  rcases h with ⟨rfl, rfl⟩ | ⟨g, cap, cur, rfl, hb, hbox, hc, hm, hs, hno, hz⟩
  · exact ZList.nil _ _ (Nat.zero_le _) _
  · refine ⟨_, _, _, rfl, rfl, hc, hm, fun k x hk => ⟨_, rfl, hbox.lt, ?_⟩⟩
    obtain ⟨A, n, c, h0, h1, h2⟩ := hz k x hk
    refine ⟨A, n, c, ?_, ?_, h2⟩
    · rw [Addr.add_lit, Nat.zero_add]; exact hbox.cell h0
    · rw [Addr.add_lit, Addr.add_lit, Nat.zero_add]; exact hbox.cell h1
theorem ZCell.kz {w w' : World} {cur : Array Value} {k : Nat} {x : Bool × List Nat} (h : ZCell w cur k x) (e : Keeps w w') : ZCell w' cur k x := by
  obtain ⟨A, n, c, h0, h1, h2⟩ := h
  exact ⟨A, n, c, h0, h1, e _ _ h2⟩
theorem ZOwn.up {base : Nat} {w w' : World} {v : Value} {ls : List (Bool × List Nat)} (h : ZOwn base w v ls) (e : Ext w w') : ZOwn base w' v ls := by
  rcases h with ⟨rfl, rfl⟩ | ⟨g, cap, cur, rfl, hb, hbox, hc, hm, hs, hno, hz⟩
  · exact .inl ⟨rfl, rfl⟩
  · exact .inr ⟨g, cap, cur, rfl, hb, hbox.up e, hc, hm, hs, hno, fun k x hk => (hz k x hk).kz e.keeps⟩
theorem ZOwn.nil (base : Nat) (w : World) : ZOwn base w (.slice none 0 0) [] := .inl ⟨rfl, rfl⟩
theorem info_Int : (Try.prog.info? 24).map (fun i => (i.zero, i.size, i.bytes)) = some (some (.agg #[.bool false, .slice none 0 0]), 2, 32) := by kernel_rfl
theorem noLimb_append {x y : Array Value} (hx : noLimb x = true) (hy : noLimb y = true) : noLimb (x ++ y) = true := by
  unfold noLimb at *
  rw [Array.toList_append, List.all_append, hx, hy]; rfl
theorem noLimb_zeros (n : Nat) : noLimb (Builtin.zeroCells (Value.agg #[.bool false, .slice none 0 0]).cells n) = true := by
  unfold noLimb
  rw [List.all_eq_true]
  intro v hv
  have hz : (Value.agg #[.bool false, .slice none 0 0]).cells = #[.bool false, .slice none 0 0] := rfl
  rw [hz] at hv
  simp [Builtin.zeroCells] at hv
  obtain ⟨i, _, rfl⟩ := hv
  rcases Nat.mod_two_eq_zero_or_one i with e | e <;> rw [e] <;> rfl
theorem noLimb_take {x : Array Value} (hx : noLimb x = true) (k : Nat) : noLimb (x.toList.take k).toArray = true := by
  unfold noLimb at *
  rw [List.all_eq_true] at *
  intro v hv
  exact hx v (List.mem_of_mem_take (by simpa using hv))
theorem noLimb_drop {x : Array Value} (hx : noLimb x = true) (k : Nat) : noLimb (x.toList.drop k).toArray = true := by
  unfold noLimb at *
  rw [List.all_eq_true] at *
  intro v hv
  exact hx v (List.mem_of_mem_drop (by simpa using hv))
theorem noLimb_lit (b : Bool) (A : Option Addr) (n c : Nat) : noLimb #[.bool b, .slice A n c] = true := rfl
theorem kept_row {w : World} {g : Nat} (cs : Array Value) : Kept [g] w (w.setRow g cs) := by
  refine ⟨⟨rfl, rfl, rfl, by simp [World.setRow], fun k hk => absurd hk (Nat.not_lt_zero _)⟩, fun k _ hx => ?_⟩
  have hne : g ≠ k := by simp at hx; omega
  unfold World.setRow
  simp only
  rw [Array.getElem?_modify, if_neg hne]
theorem zcell_app {w : World} {cur CS : Array Value} {ls : List (Bool × List Nat)} {b : Bool} {A : Option Addr} {n c : Nat} {l : List Nat} {rest : List Value} (hs : ls.length * 2 ≤ cur.size)
    (hCS : CS.toList = cur.toList.take (ls.length * 2) ++ (.bool b :: .slice A n c :: rest)) (hz : ∀ k x, ls[k]? = some x → ZCell w cur k x) (hm : Num w w.heap.size (.slice A n c) l) :
    ∀ k x, (ls ++ [(b, l)])[k]? = some x → ZCell w CS k x := by
  intro k x hk
  have hget : ∀ i, CS[i]? = CS.toList[i]? := fun i => Array.getElem?_toList.symm
  have hlt : (cur.toList.take (ls.length * 2)).length = ls.length * 2 := by
    have e : cur.toList.length = cur.size := Array.length_toList
    rw [List.length_take, e]; omega
  rcases Nat.lt_or_ge k ls.length with h | h
  · rw [List.getElem?_append_left h] at hk
    obtain ⟨A', n', c', h0, h1, h2⟩ := hz k x hk
    refine ⟨A', n', c', ?_, ?_, h2⟩
    · rw [hget, hCS, List.getElem?_append_left (by rw [hlt]; omega), List.getElem?_take, if_pos (by omega), Array.getElem?_toList]; exact h0
    · rw [hget, hCS, List.getElem?_append_left (by rw [hlt]; omega), List.getElem?_take, if_pos (by omega), Array.getElem?_toList]; exact h1
  · rw [List.getElem?_append_right h] at hk
    have hk0 : k = ls.length := by
      rcases Nat.eq_zero_or_pos (k - ls.length) with e | e
      · omega
      · rw [List.getElem?_eq_none (by simp; omega)] at hk; cases hk
    subst hk0
    simp at hk
    subst hk
    refine ⟨A, n, c, ?_, ?_, hm⟩
    · rw [hget, hCS, List.getElem?_append_right (by rw [hlt]; omega), hlt, Nat.sub_self]; rfl
    · rw [hget, hCS, List.getElem?_append_right (by rw [hlt]; omega), hlt, show ls.length * 2 + 1 - ls.length * 2 = 1 by omega]; rfl
/-- 'append(out, x)' onto a list of the call's own. -/
theorem appZ_run {base : Nat} {w : World} {v : Value} {ls : List (Bool × List Nat)} {b : Bool} {A : Option Addr} {n c : Nat} {l : List Nat} {gL : Nat} {tL : TypeId} (h : ZOwn base w v ls) (hL : Box w gL #[.bool b, .slice A n c] tL)
    (hm : Num w w.heap.size (.slice A n c) l) (hlen : ls.length + 1 ≤ 1000000) (hbase : base ≤ w.heap.size) (ty : TypeId) :
    ∃ v' w', (Builtin.append_ #[25, 25] ty #[v, .slice (some ⟨gL, 0, none⟩) 1 1]).run Try.prog w = .ok v' w' ∧ ZOwn base w' v' (ls ++ [(b, l)]) ∧ (Ext w w' ∨ ∃ g, base ≤ g ∧ Kept [g] w w') := by
  obtain ⟨i0, hi, hz0, hz1, hz2⟩ := info_parts info_Int
  have hnews : ∀ j u, [Value.bool b, .slice A n c][j]? = some u → w.cell? ((⟨gL, 0, none⟩ : Addr).add j) = some u := by
    intro j u hj
    rw [Addr.add_lit, Nat.zero_add]
    rcases j with _ | _ | j
    · simp at hj; subst hj; exact hL.cell rfl
    · simp at hj; subst hj; exact hL.cell rfl
    · simp at hj
  have hl : [Value.bool b, Value.slice A n c].length = 1 * i0.size := by rw [hz1]; rfl
  have h1 : ∀ u ∈ [Value.bool b, Value.slice A n c], u.oneCell' = true := by
    intro u hu; simp at hu; rcases hu with rfl | rfl <;> rfl
  have hcm : ∀ old, grownCap w (ls.length + 1) old 24 ≤ maxLen := fun old => grownCap_le_maxLen w _ old _ (by unfold maxLen; omega)
  have hge : ∀ old, ls.length + 1 ≤ grownCap w (ls.length + 1) old 24 := fun old => grownCap_ge w _ old _
  have hll : (ls ++ [(b, l)]).length = ls.length + 1 := by simp
  rcases h with ⟨rfl, rfl⟩ | ⟨g, cap, cur, rfl, hb, hbox, hc, hmx, hs, hno, hz⟩
  · have hr := run_append_nil (P := Try.prog) w 25 ty 24 i0 _ Try.underlying25 hi hz0 ⟨gL, 0, none⟩ 1 1 _ hl hnews (by omega) (by omega) (by rw [hz2]; omega)
    have hE : Ext w (w.drew.alloc (.cells ([Value.bool b, Value.slice A n c].toArray ++ Builtin.zeroCells (Value.agg #[.bool false, .slice none 0 0]).cells (grownCap w 1 0 24 - 1)) 24)) := ((Ext.refl w).drew').alloc' _
    refine ⟨_, _, hr, .inr ⟨w.heap.size, _, _, rfl, hbase, Box.new w.drew _ _, hge 0, hcm 0, ?_, noLimb_append (noLimb_lit _ _ _ _) (noLimb_zeros _), ?_⟩, .inl hE⟩
    · rw [Array.size_append, size_zeroCells]
      have := hge 0
      simp [Value.cells] at this ⊢
      omega
    · intro k x hk
      exact (zcell_app (w := w) (cur := #[]) (ls := []) (by simp) (by simp; rfl) (by simp) hm k x hk).kz hE.keeps
  · have hsz : ls.length * 2 ≤ cur.size := by rw [hs]; omega
    rcases Nat.lt_or_ge cap (ls.length + 1) with hcap | hcap
    · have hr := run_append_grow (P := Try.prog) w 25 ty 24 i0 _ Try.underlying25 hi hz0 ⟨g, 0, none⟩ ls.length cap (cur.toList.take (ls.length * 2)) (by have e : cur.toList.length = cur.size := Array.length_toList; rw [List.length_take, e, hz1]; omega)
        (fun j u hj => by
          rw [Addr.add_lit, Nat.zero_add]
          rw [List.getElem?_take] at hj
          split at hj
          · exact hbox.cell (by rw [← Array.getElem?_toList]; exact hj)
          · cases hj) ⟨gL, 0, none⟩ 1 1 _ hl hnews hcap (by omega) (growslice_fits hcap (by rw [hz2]; omega))
      have hE : ∀ cs, Ext w (w.drew.alloc (.cells cs 24)) := fun cs => ((Ext.refl w).drew').alloc' _
      refine ⟨_, _, hr, .inr ⟨w.heap.size, _, _, by rw [hll], hbase, Box.new w.drew _ _, by rw [hll]; exact hge cap, hcm cap, ?_, noLimb_append (noLimb_append (noLimb_take hno _) (noLimb_lit _ _ _ _)) (noLimb_zeros _), ?_⟩, .inl (hE _)⟩
      · rw [Array.size_append, Array.size_append, size_zeroCells]
        have := hge cap
        simp [Value.cells, List.length_take] at this ⊢
        omega
      · intro k x hk
        exact (zcell_app (w := w) (cur := cur) (ls := ls) hsz (by simp; rfl) hz hm k x hk).kz (hE _).keeps
    · have hr := run_append_room (P := Try.prog) w 25 ty 24 i0 Try.underlying25 hi g ls.length cap cur hbox ⟨gL, 0, none⟩ 1 1 _ hl hnews h1 hcap (by rw [hz1, hs]; simp; omega)
      rw [hz1] at hr
      have hk := kept_row (w := w) (g := g) (cur.toList.take (ls.length * 2) ++ [Value.bool b, Value.slice A n c] ++ cur.toList.drop (ls.length * 2 + [Value.bool b, Value.slice A n c].length)).toArray
      have hkeep := keeps_store hbox hno hk
      refine ⟨_, _, hr, .inr ⟨g, cap, _, by rw [hll], hb, setRow_heap w g cur _ _ _ hbox, by rw [hll]; exact hcap, hmx, ?_, ?_, ?_⟩, .inr ⟨g, hb, hk⟩⟩
      · simp [List.length_take, List.length_drop, hs]; omega
      · have := noLimb_append (noLimb_append (noLimb_take hno (ls.length * 2)) (noLimb_lit b A n c)) (noLimb_drop hno (ls.length * 2 + 2))
        simpa using this
      · intro k x hk'
        exact (zcell_app (w := w) (cur := cur) (ls := ls) hsz (by simp; rfl) hz hm k x hk').kz hkeep

/-- A list of numbers of 32 bits in memory. -/
def IList (w : World) (v : Value) (xs : List Int) : Prop :=
  ∃ A n c, v = .slice A n c ∧ n = xs.length ∧ n ≤ c ∧ c ≤ maxLen ∧ (∀ x ∈ xs, -2147483648 ≤ x ∧ x ≤ 2147483647) ∧ ∀ (k : Nat) x, xs[k]? = some x → ∃ ad, A = some ad ∧ ad.block < w.heap.size ∧ w.cell? (ad.add k) = some (.int .i32 x)
theorem IList.up {w w' : World} {v : Value} {xs : List Int} (h : IList w v xs) (e : Ext w w') : IList w' v xs := by
  obtain ⟨A, n, c, h1, h2, h3, h4, h5, h6⟩ := h
  refine ⟨A, n, c, h1, h2, h3, h4, h5, fun k x hx => ?_⟩
  obtain ⟨ad, ha, hb, hc⟩ := h6 k x hx
  exact ⟨ad, ha, Nat.lt_of_lt_of_le hb e.size, by rw [e.below.cell (by rw [addr_block]; exact hb)]; exact hc⟩
theorem IList.shape {w : World} {v : Value} {xs : List Int} (h : IList w v xs) : ∃ A n c, v = .slice A n c := by
  obtain ⟨A, n, c, h, _⟩ := h; exact ⟨A, n, c, h⟩
theorem IList.count {w : World} {A : Option Addr} {n c : Nat} {xs : List Int} (h : IList w (.slice A n c) xs) : n = xs.length ∧ n ≤ c ∧ c ≤ maxLen ∧ n ≤ 9223372036854775807 := by
  obtain ⟨A', n', c', e, hn, hc, hm, _⟩ := h
  injection e with e1 e2 e3
  have hm' := hm
  unfold maxLen at hm'
  exact ⟨by omega, by omega, by rw [e3]; exact hm, by omega⟩
theorem IList.get {w : World} {A : Option Addr} {n c : Nat} {xs : List Int} (h : IList w (.slice A n c) xs) {k : Nat} (hk : k < n) :
    ∃ ad x, A = some ad ∧ xs[k]? = some x ∧ (-2147483648 ≤ x ∧ x ≤ 2147483647) ∧ w.cell? (ad.add k) = some (.int .i32 x) := by
  obtain ⟨A', n', c', e, hn, hc, hm, hb, hz⟩ := h
  injection e with e1 e2 e3
  subst e1
  have hx : xs[k]? = some xs[k] := List.getElem?_eq_getElem (by omega)
  obtain ⟨ad, ha, _, hcell⟩ := hz k _ hx
  exact ⟨ad, _, ha, hx, hb _ (List.getElem_mem _), hcell⟩
theorem wpList_appZ {w : World} {ops : Array Oper} {rest : List Oper} {o : Oper} {a : Act} {Q : Exit → Act → World → Prop} (hgd : o.guard = none) (s x : Operand)
    (ho : o.op = .call { callee := .builtin .append, args := #[s, x], argTypes := #[25, 25] }) (v : Value) (hs : a.eval s = v) (gL : Nat) (hx : a.eval x = .slice (some ⟨gL, 0, none⟩) 1 1)
    {base : Nat} {ls : List (Bool × List Nat)} {b : Bool} {A : Option Addr} {n c : Nat} {l : List Nat} {tL : TypeId} (h : ZOwn base w v ls) (hL : Box w gL #[.bool b, .slice A n c] tL)
    (hm : Num w w.heap.size (.slice A n c) l) (hlen : ls.length + 1 ≤ 1000000) (hbase : base ≤ w.heap.size)
    (hk : ∀ v' w', ZOwn base w' v' (ls ++ [(b, l)]) → (Ext w w' ∨ ∃ g, base ≤ g ∧ Kept [g] w w') → wpList Try.prog ops Q rest (a.put o.dst v') w') : wpList Try.prog ops Q (o :: rest) a w := by
  obtain ⟨v', w', hrun, h1, h2⟩ := appZ_run h hL hm hlen hbase o.type
  refine wpList_plain hgd fun K hK => ?_
  unfold Oper.wp execOp
  simp only [ho, resolve, invoke, builtin, Sem.run_bind, Sem.run_pure, Result.andThen_ok, List.map_toArray, List.map_cons, List.map_nil, hs, hx, hrun]
  exact hK _ _ (hk v' w' h1 h2)
namespace M
/-- How the integer x stands in memory. -/
def raw (x : Int) : Bool × List Nat := (decide (x < 0), limbs x.natAbs)
theorem zv_raw (x : Int) : zv (raw x).1 (raw x).2 = x := zv_of x
end M
theorem ZOwn.shape {base : Nat} {w : World} {v : Value} {ls : List (Bool × List Nat)} (h : ZOwn base w v ls) : ∃ A n c, v = .slice A n c := h.list.shape

set_option maxHeartbeats 1000000 in
theorem ints_w {w : World} {v : Value} {xs : List Int} (hx : IList w v xs) (hlen : xs.length ≤ 1000) :
    Calls Try.prog 25 #[v] w (fun e w' => ∃ v', e = .returned v' ∧ ZList w' v' (xs.map M.raw) ∧ Ext w w') := by
  obtain ⟨A, n, c, rfl⟩ := hx.shape
  have HX := hid hx
  have HC := hid hx.count
  have HL := hid hlen
  have hb9 : n ≤ 9223372036854775807 := hx.count.2.2.2
  clear hx hlen
  go_enter Try.func25, Try.ntmps25
  go_wp2
  go_loopw [3, 4] (fun out i wr => ∃ (k : Nat) (A2 : Option Addr) (n2 c2 : Nat), k ≤ n ∧ i = .int .i64 (k : Int) ∧ out = .slice A2 n2 c2 ∧ Hid (ZOwn w.heap.size wr (.slice A2 n2 c2) ((xs.take k).map M.raw)) ∧ Hid (Ext w wr)) (fun _ i _ => n - (intOf i).toNat)
  case atStart => exact ⟨0, none, 0, 0, Nat.zero_le _, rfl, rfl, ZOwn.nil _ _, Ext.refl _⟩
  case round =>
    obtain ⟨k, A2, n2, c2, hk, rfl, rfl, HO, E⟩ := hrel
    by_cases hlt : k < n
    · have hlt' : decide ((k : Int) < (n : Int)) = true := decide_eq_true (by omega)
      obtain ⟨ad, x, rfl, hxk, hxb, hcell⟩ := (HX.out.up E.out).get hlt
      have HXK := hid hxk
      have HXB := hid hxb
      have hwx : IntKind.i64.wrap x = x := by rw [IntKind.wrap_i64]; omega
      clear hxk hxb
      go_wp2_with fail
      refine (rOf_z (n := x) (by have := HXB.out; omega) (by have := HXB.out; omega) _).mono ?_
      rintro e wn ⟨vx, rfl, hz, hb⟩
      obtain ⟨g4, A4, n4, c4, rfl, hs4, hr4⟩ := hz.form
      have HS4 := hid hs4
      have R4 := hid hr4
      have E2 := hid (E.out.trans hb)
      have HO2 := hid (HO.out.up hb)
      clear hs4 hr4 hb hz
      go_wp2_with (at_builtin; refine wpList_appZ rfl (.tmp 11) (.tmp 18) rfl _ rfl wn.heap.size rfl (HO2.out.up (Ext.alloc wn _)) (Box.new wn _ _) (R4.out.1.up (Ext.alloc wn _)) ?c1 ?c2 ?_)
      case c1 => have h1 := HL.out; have h2 := HC.out.1; simp; omega
      case c2 => have := (E2.out.alloc' (.cells #[.bool g4, .slice A4 n4 c4] 24)).size; exact this
      intro v' w' hown hworld
      have HO3 := hid hown
      have E3 : Hid (Ext w w') := hid (by
        have e1 := E2.out.alloc' (.cells #[.bool g4, .slice A4 n4 c4] 24)
        rcases hworld with h | ⟨g, hg, h⟩
        · exact e1.trans h
        · exact e1.keptG h hg)
      obtain ⟨A5, n5, c5, rfl⟩ := hown.shape
      clear hown hworld
      go_wp2
      go_roundw
      case rel =>
        refine ⟨k + 1, A5, n5, c5, by omega, by go_num, rfl, ?_, E3⟩
        obtain ⟨hk1, hk2⟩ := List.getElem?_eq_some_iff.1 HXK.out
        have h3 := HO3.out
        have e : (xs.take (k + 1)).map M.raw = (xs.map M.raw).take k ++ [(decide (x < 0), M.limbs x.natAbs)] := by
          rw [List.take_succ_eq_append_getElem hk1, List.map_append, hk2, List.map_take]; rfl
        rw [HS4.out] at h3
        rw [e]
        exact h3
      case measure => simp [intOf]; all_goals omega
    · obtain rfl : k = n := by omega
      have hlt' : decide ((k : Int) < (k : Int)) = false := by simp
      go_wp2
      go_ret
      refine ⟨_, rfl, ?_, E.out⟩
      have h3 := HO.out.list
      rw [List.take_of_length_le (by rw [HC.out.1]; exact Nat.le_refl _)] at h3
      exact h3

theorem cells_i32 : Try.prog.cellsOf 21 = 1 := by kernel_rfl
theorem info_i32 : (Try.prog.info? 21).map (fun i => (i.zero, i.size, i.bytes)) = some (some (.int .i32 0), 1, 4) := by kernel_rfl
theorem slice_from {A : Option Addr} {n c k : Nat} (hk : k ≤ n) (w : World) :
    (Instr.slice 43 (.slice A n c) (some (.int .i64 (k : Int))) none none).run Try.prog w = .ok (.slice (if c = k then A else A.map (·.add (k * 1))) (n - k) (c - k)) w := by
  obtain ⟨i0, hi, hz0, hz1, hz2⟩ := info_parts info_i32
  simp [Instr.slice, run_underlying Try.underlying43, Instr.sliceBounds, run_sliceBound, sizeOf, typeInfo, hi, hz1, hk]
theorem slice_to {A : Option Addr} {n c k : Nat} (hk : k ≤ c) (w : World) :
    (Instr.slice 43 (.slice A n c) none (some (.int .i64 (k : Int))) none).run Try.prog w = .ok (.slice (if c = 0 then A else A.map (·.add (0 * 1))) k c) w := by
  obtain ⟨i0, hi, hz0, hz1, hz2⟩ := info_parts info_i32
  simp [Instr.slice, run_underlying Try.underlying43, Instr.sliceBounds, run_sliceBound, sizeOf, typeInfo, hi, hz1, hk]
theorem IList.from_ {w : World} {A : Option Addr} {n c : Nat} {xs : List Int} (h : IList w (.slice A n c) xs) {k : Nat} (hk : k ≤ n) : IList w (.slice (if c = k then A else A.map (·.add (k * 1))) (n - k) (c - k)) (xs.drop k) := by
  have hcount := h.count
  obtain ⟨A', n', c', e, hn, hc, hm, hb, hz⟩ := h
  injection e with e1 e2 e3
  subst e1
  refine ⟨_, _, _, rfl, by rw [List.length_drop]; omega, by omega, by unfold maxLen at *; omega, fun x hx => hb x (List.mem_of_mem_drop hx), fun j x hx => ?_⟩
  rw [List.getElem?_drop] at hx
  have hlt : k + j < xs.length := (List.getElem?_eq_some_iff.1 hx).1
  obtain ⟨ad, ha, hbl, hcell⟩ := hz _ _ hx
  rw [if_neg (by omega), ha]
  refine ⟨ad.add (k * 1), rfl, by rw [addr_block]; exact hbl, ?_⟩
  rw [Go.Deep.add_add, Nat.mul_one]
  exact hcell
theorem IList.to_ {w : World} {A : Option Addr} {n c : Nat} {xs : List Int} (h : IList w (.slice A n c) xs) {k : Nat} (hk : k ≤ n) : IList w (.slice (if c = 0 then A else A.map (·.add (0 * 1))) k c) (xs.take k) := by
  have hcount := h.count
  obtain ⟨A', n', c', e, hn, hc, hm, hb, hz⟩ := h
  injection e with e1 e2 e3
  subst e1
  refine ⟨_, _, _, rfl, by rw [List.length_take]; omega, by omega, by rw [e3]; exact hm, fun x hx => hb x (List.mem_of_mem_take hx), fun j x hx => ?_⟩
  rw [List.getElem?_take] at hx
  split at hx
  · obtain ⟨ad, ha, hbl, hcell⟩ := hz _ _ hx
    have hlt : j < xs.length := (List.getElem?_eq_some_iff.1 hx).1
    rw [if_neg (by omega), ha]
    refine ⟨ad, ?_, hbl, hcell⟩
    show some (ad.add (0 * 1)) = some ad
    rw [Nat.zero_mul]; rfl
  · cases hx
set_option maxRecDepth 100000 in
/-- A row of numbers of 32 bits that the call itself has made reads as a list. -/
theorem IList.own {w : World} {base : Nat} {v : Value} {xs : List Int} (h : w.ownsRow base 21 1 v xs.length (xs.map fun x => Value.int .i32 x)) (hb : ∀ x ∈ xs, -2147483648 ≤ x ∧ x ≤ 2147483647) : IList w v xs := by
  have hh := h
  obtain ⟨hl, h2⟩ := h
  rcases h2 with ⟨rfl, h0⟩ | ⟨g, cap, cur, rfl, hbs, hg, hc, hm, _, _⟩
  · have : xs = [] := List.eq_nil_of_length_eq_zero h0
    subst this
    exact ⟨none, 0, 0, rfl, rfl, Nat.le_refl _, Nat.zero_le _, hb, fun k x hx => by simp at hx⟩
  · refine ⟨_, _, _, rfl, rfl, hc, hm, hb, fun k x hx => ⟨_, rfl, (Array.getElem?_eq_some_iff.1 hg).1, ?_⟩⟩
    exact hh.cells (g := g) rfl k _ (by rw [List.getElem?_map, hx]; rfl)
set_option maxRecDepth 100000 in
/-- 'append(row, l...)' onto a row of numbers of 32 bits of the call's own. -/
theorem appI_run {base : Nat} {w : World} {v : Value} {ys xs : List Int} {A : Option Addr} {n c : Nat} (h : w.ownsRow base 21 1 v ys.length (ys.map fun x => Value.int .i32 x)) (hx : IList w (.slice A n c) xs)
    (hlen : ys.length + xs.length ≤ 1000) (hbase : base ≤ w.heap.size) (ty : TypeId) :
    ∃ v' w', (Builtin.append_ #[43, 43] ty #[v, .slice A n c]).run Try.prog w = .ok v' w' ∧ w'.ownsRow base 21 1 v' (ys ++ xs).length ((ys ++ xs).map fun x => Value.int .i32 x) ∧ w.grownBy w' v.ownBlock := by
  obtain ⟨i0, hi, hz0, hz1, hz2⟩ := info_parts info_i32
  have hcount := hx.count
  have hl : ((ys ++ xs).map fun x => Value.int .i32 x) = (ys.map fun x => Value.int .i32 x) ++ xs.map fun x => Value.int .i32 x := List.map_append
  rcases A with _ | ad
  · have h0 : xs = [] := by
      rcases xs with _ | ⟨x, r⟩
      · rfl
      · obtain ⟨A', n', c', e, _, _, _, _, hz⟩ := hx
        injection e with e1
        obtain ⟨ad, ha, _⟩ := hz 0 x rfl
        rw [← e1] at ha; cases ha
    subst h0
    have hn0 : n = 0 := hcount.1
    subst hn0
    refine ⟨v, w, ?_, by simpa using h, World.grownBy.refl w _⟩
    rcases h.2 with ⟨rfl, _⟩ | ⟨g, cap, cur, rfl, _, _, hnc, _⟩
    · simp [Builtin.append_, run_underlying Try.underlying43, sizeOf, typeInfo, hi, Builtin.lenOf, Builtin.firstCells]
    · simp [Builtin.append_, run_underlying Try.underlying43, sizeOf, typeInfo, hi, Builtin.lenOf, Builtin.firstCells, hnc, storeCells]
  · obtain ⟨A', n', c', e, hn, hc, hm, hb, hz⟩ := hx
    injection e with e1 e2 e3
    subst e1
    obtain ⟨v', w', hr, h1, h2, _⟩ := run_append_own (P := Try.prog) w base 43 ty 21 i0 (.int .i32 0) 1 4 Try.underlying43 hi hz0 hz1 hz2 rfl (by decide) v ys.length _ h ad n c (xs.map fun x => Value.int .i32 x) (by simp; omega)
      (fun j u hj => by
        rw [List.getElem?_map] at hj
        obtain ⟨y, hy, rfl⟩ := Option.map_eq_some_iff.1 hj
        obtain ⟨ad', ha, _, hcell⟩ := hz j y hy
        injection ha with ha
        subst ha
        exact hcell) (fun u hu => by
        obtain ⟨y, _, rfl⟩ := List.mem_map.1 hu
        rfl) (by unfold maxLen; omega) (by omega) hbase
    refine ⟨v', w', hr, ?_, h2⟩
    rw [hl, List.length_append]
    rw [e2, hn] at h1
    exact h1
namespace M
theorem gl_append (a b : List (Bool × List Nat)) : gl (a ++ b) = Nat.gcd (gl a) (gl b) := by
  have key : ∀ (r b : List (Bool × List Nat)), b = r.reverse → gl (a ++ b) = Nat.gcd (gl a) (gl b) := by
    intro r
    induction r with
    | nil => intro b hb; subst hb; simp [gl_nil]
    | cons x r ih =>
      intro b hb
      subst hb
      rw [List.reverse_cons, ← List.append_assoc, gl_snoc, gl_snoc, ih _ rfl]
      rw [← Nat.gcd_assoc, Nat.gcd_comm (zv x.1 x.2).natAbs, Nat.gcd_assoc]
  exact key b.reverse b (by simp)
theorem gl_halves (xs : List Int) (k : Nat) : ((Int.gcd (gl ((xs.take k).map raw) : Int) (gl ((xs.drop k).map raw) : Int) : Nat) : Int) = (gl (xs.map raw) : Int) := by
  show ((Nat.gcd (gl ((xs.take k).map raw) : Int).natAbs (gl ((xs.drop k).map raw) : Int).natAbs : Nat) : Int) = _
  rw [Int.natAbs_natCast, Int.natAbs_natCast, ← gl_append, ← List.map_append, List.take_append_drop]
theorem gl_turned (xs : List Int) (k : Nat) : (gl ((xs.drop k ++ xs.take k).map raw) : Int) = (gl (xs.map raw) : Int) := by
  rw [List.map_append, gl_append, Nat.gcd_comm, ← gl_append, ← List.map_append, List.take_append_drop]
end M
theorem raw_short {xs : List Int} (hb : ∀ x ∈ xs, -2147483648 ≤ x ∧ x ≤ 2147483647) : ∀ y ∈ xs.map M.raw, y.2.length ≤ 20 := by
  intro y hy
  obtain ⟨x, hx, rfl⟩ := List.mem_map.1 hy
  have := hb x hx
  exact Nat.le_trans (M.limbs_length_le (k := 2) (by omega)) (by omega)

open Go.ChangeShapes Go.WideShapes Go.ChangeAt Go.RowKit

theorem exec_append {w w' : World} {v u v' : Value} {o : Oper} {a : Act} {t : TypeId} (s x : Operand) (ho : o.op = .call { callee := .builtin .append, args := #[s, x], argTypes := #[t, t] })
    (hs : a.eval s = v) (hx : a.eval x = u) (hrun : (Builtin.append_ #[t, t] o.type #[v, u]).run Try.prog w = .ok v' w') : (execOp a.eval o).run Try.prog w = .ok (.value v') w' := by
  unfold execOp
  simp only [ho, resolve, invoke, builtin, Sem.run_bind, Sem.run_pure, Result.andThen_ok, List.map_toArray, List.map_cons, List.map_nil, hs, hx, hrun]
theorem grown_kept {w w' : World} {g : Nat} (h : w.grownBy w' (some g)) : Kept [g] w w' :=
  ⟨(Below.refl 0 w).grown h (Nat.zero_le _) (fun k _ => Nat.zero_le _), fun k hk hx => h.block k hk (by
    intro e
    injection e with e
    exact hx (by simp [e]))⟩
theorem grown_ext {w w' : World} (h : w.grownBy w' none) : Ext w w' := (Below.refl w.heap.size w).grown h (Nat.le_refl _) (fun k hk => by cases hk)
theorem owns_up {w w' : World} {base : Nat} {e : TypeId} {size n : Nat} {v : Value} {xs : List Value} (h : w.ownsRow base e size v n xs) (hb : Ext w w') : w'.ownsRow base e size v n xs :=
  h.kept (row := none) ⟨hb.os, hb.tape, hb.output, hb.size, fun k hk _ => hb.block k hk⟩ (by cases v.ownBlock <;> simp)
section
variable {H : Type} {enc : TypeId × Value → H} {W : World}
theorem open_IL {r : Reach} {b0 : Nat} {v : Value} {d : DataW H} {ps : List MemPlace} (hval : Value.okWide Try.prog W r b0 43 v) (h : DataW.Trod enc Try.prog W 0 (fun _ => true) true 43 v d ps) :
    ∃ A n c xs, v = .slice A n c ∧ IList W (.slice A n c) xs := by
  obtain ⟨a0, len, cap, rfl⟩ := okWide_slice Try.underlying43 hval
  obtain ⟨fuel, hf⟩ := h
  have hf' : DataW.trod enc Try.prog W 0 (fun _ => true) true fuel 43 [.slice a0 len cap] = some (d, ps) := hf
  rcases open_ints Try.underlying43 Try.underlying21 cells_i32 hf' with ⟨hcs, _⟩ | ⟨a, len', cap', zs, hcs, _, hl, hm, hz, _, hcell, hwz⟩
  · injection hcs with hcs
    injection hcs with e1 e2 e3
    subst e1 e2 e3
    exact ⟨none, 0, 0, [], rfl, none, 0, 0, rfl, rfl, Nat.le_refl _, Nat.zero_le _, by simp, fun k x hx => by simp at hx⟩
  · injection hcs with hcs
    injection hcs with e1 e2 e3
    subst e1 e2 e3
    simp only [if_true] at hz
    refine ⟨some a, _, _, zs.take len, rfl, some a, _, _, rfl, by simp; omega, hl, hm, fun x hx => ?_, fun k x hx => ⟨a, rfl, ?_, ?_⟩⟩
    · have := hwz x (List.mem_of_mem_take hx)
      simpa [Lit.wf, IntKind.min, IntKind.max, IntKind.signed, IntKind.bits] using this
    all_goals
      rw [List.getElem?_take] at hx
      split at hx
      · obtain ⟨hi, he⟩ := List.getElem?_eq_some_iff.1 hx
        have hc := hcell k hi
        have e : zs.getD k 0 = x := by simp [List.getD, hi, he]
        rw [e] at hc
        first
        | exact hc
        | (have := World.block_lt_of_cell? W _ hc; rwa [addr_block] at this)
      · cases hx
end
end Go.Proofs.Ytljjijcmoafndaa
