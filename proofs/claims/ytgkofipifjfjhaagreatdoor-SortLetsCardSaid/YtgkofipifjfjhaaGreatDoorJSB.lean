/-
  Layer 11: bindings in memory; contract of slices.Backward over them.
-/
import Derived.Test.YtgkofipifjfjhaaGreatDoorJTN
import Derived.Test.YtgkofipifjfjhaaGreatDoorJKA
import Derived.Test.YtgkofipifjfjhaaGreatDoorJQH
import Derived.Test.YtgkofipifjfjhaaGreatDoorJKD
import Derived.Test.YtgkofipifjfjhaaGreatDoorJKC
import Derived.Test.YtgkofipifjfjhaaGreatDoorJKL
import Derived.Test.YtgkofipifjfjhaaGreatDoorJSA
import Derived.Test.YtgkofipifjfjhaaGreatDoorJKF
import Derived.Test.YtgkofipifjfjhaaGreatDoorJTB
namespace Go.Proofs.YtgkofipifjfjhaaGreatDoor.Q
set_option linter.unusedSimpArgs false
set_option linter.unusedVariables false
open Go.RowKit Go.Shelf
attribute [local go_sem] Oper.semAt_some

/-- A name and what it is bound to. -/
abbrev M.Bd := List UInt8 × M.Tm
/-- A binding's value. -/
abbrev bv (s : List UInt8) (op : Int) (g : Bool) (N : Option Addr) (nn nc : Nat) (nm : List UInt8) (so : Int) (A : Option Addr) (n c : Nat) : Value := .agg #[str s, .int .i64 op, .bool g, .slice N nn nc, str nm, .int .i64 so, .slice A n c]
def BdAt (w : World) (p : M.Bd) (a : Addr) : Prop := ∃ N nn nc A n c, (w.cell? a = some (str p.1) ∧ w.cell? (a.add 1) = some (.int .i64 p.2.op) ∧ w.cell? (a.add 2) = some (.bool p.2.g) ∧ w.cell? (a.add 3) = some (.slice N nn nc) ∧ w.cell? (a.add 4) = some (str p.2.name) ∧ w.cell? (a.add 5) = some (.int .i64 p.2.sort) ∧ w.cell? (a.add 6) = some (.slice A n c)) ∧ LNum w (.slice N nn nc) p.2.ls ∧ Tms w p.2.kids (.slice A n c)
theorem lnum_sub {w w' : World} {v : Value} {ls : List Nat} (h : LNum w v ls) (e : Sub w w') : LNum w' v ls := by
 obtain ⟨A, n, c, h1, h2, h3, h4, h5, h6⟩ := h
 refine ⟨A, n, c, h1, h2, h3, h4, h5, fun hne => ?_⟩
 obtain ⟨ad, ha, hb, hc⟩ := h6 hne
 exact ⟨ad, ha, Nat.lt_of_lt_of_le hb e.1, fun i x hx => e.2 _ _ (hc i x hx)⟩
theorem tmAt_sub {w w' : World} (e : Sub w w') (t : M.Tm) : ∀ {a : Addr}, TmAt w t a → TmAt w' t a := by
 refine M.Tm.indA (P := fun t => ∀ {a : Addr}, TmAt w t a → TmAt w' t a) (fun op g ls nm s ks ih a h => ?_) t
 obtain ⟨N, nn, nc, v, h6, hn, hk⟩ := tmAt_mk.1 h
 obtain ⟨A, n, c, h1, h2, h3, h4, h5⟩ := hk.at_
 refine tmAt_mk.2 ⟨N, nn, nc, v, ⟨⟨e.2 _ _ h6.1.1, e.2 _ _ h6.1.2.1, e.2 _ _ h6.1.2.2⟩, e.2 _ _ h6.2.1, e.2 _ _ h6.2.2.1, e.2 _ _ h6.2.2.2⟩, lnum_sub hn e, Tms.mk_ ⟨A, n, c, h1, h2, h3, h4, fun hne => ?_⟩⟩
 obtain ⟨ad, e1, e2, e3⟩ := h5 hne
 exact ⟨ad, e1, Nat.lt_of_lt_of_le e2 e.1, fun k t hk => ih k t hk (e3 k t hk)⟩
theorem tms_sub {w w' : World} {ks : List M.Tm} {v : Value} (h : Tms w ks v) (e : Sub w w') : Tms w' ks v := by
 obtain ⟨A, n, c, h1, h2, h3, h4, h5⟩ := h.at_
 refine Tms.mk_ ⟨A, n, c, h1, h2, h3, h4, fun hne => ?_⟩
 obtain ⟨ad, e1, e2, e3⟩ := h5 hne
 exact ⟨ad, e1, Nat.lt_of_lt_of_le e2 e.1, fun k t hk => tmAt_sub e t (e3 k t hk)⟩
theorem BdAt.sub {w w' : World} {p : M.Bd} {a : Addr} (h : BdAt w p a) (e : Sub w w') : BdAt w' p a := by
 obtain ⟨N, nn, nc, A, n, c, ⟨h0, h1, h2, h3, h4, h5, h6⟩, h7, h8⟩ := h
 exact ⟨N, nn, nc, A, n, c, ⟨e.2 _ _ h0, e.2 _ _ h1, e.2 _ _ h2, e.2 _ _ h3, e.2 _ _ h4, e.2 _ _ h5, e.2 _ _ h6⟩, lnum_sub h7 e, tms_sub h8 e⟩
/-- A list of bindings in memory; without any, nil. -/
def Bds (w : World) (b : List M.Bd) (v : Value) : Prop := (b = [] ∧ v = .slice none 0 0) ∨ ∃ ad c, v = .slice (some ad) b.length c ∧ b ≠ [] ∧ b.length ≤ c ∧ c ≤ maxLen ∧ ad.block < w.heap.size ∧ ∀ k p, b[k]? = some p → BdAt w p (ad.add (k * 7))
theorem Bds.nil (w : World) : Bds w [] (.slice none 0 0) := .inl ⟨rfl, rfl⟩
theorem Bds.sub {w w' : World} {b : List M.Bd} {v : Value} (h : Bds w b v) (e : Sub w w') : Bds w' b v := by
 rcases h with h | ⟨ad, c, h1, h2, h3, h4, h5, h6⟩
 ·exact .inl h
 ·exact .inr ⟨ad, c, h1, h2, h3, h4, Nat.lt_of_lt_of_le h5 e.1, fun k p hk => (h6 k p hk).sub e⟩
theorem Bds.up {w w' : World} {b : List M.Bd} {v : Value} (h : Bds w b v) (e : Ext w w') : Bds w' b v := h.sub e.sub
theorem Bds.shape {w : World} {b : List M.Bd} {v : Value} (h : Bds w b v) : ∃ A c, v = .slice A b.length c ∧ b.length ≤ c ∧ c ≤ 9223372036854775807 := by
 rcases h with ⟨rfl, rfl⟩ | ⟨ad, c, h1, h2, h3, h4, h5, h6⟩
 ·exact ⟨none, 0, rfl, Nat.le_refl _, by decide⟩
 ·exact ⟨_, c, h1, h3, by unfold maxLen at h4; omega⟩
/-- The value of a binding, what it has of memory. -/
def BdV (w : World) (p : M.Bd) (u : Value) : Prop := ∃ N nn nc A n c, u = bv p.1 p.2.op p.2.g N nn nc p.2.name p.2.sort A n c ∧ LNum w (.slice N nn nc) p.2.ls ∧ Tms w p.2.kids (.slice A n c)
theorem Bds.get {w : World} {A : Option Addr} {n c : Nat} {b : List M.Bd} (h : Bds w b (.slice A n c)) {k : Nat} (hk : k < n) :
 ∃ ad p N nn nc B m d, A = some ad ∧ b[k]? = some p ∧ (w.cell? (ad.add (k * 7)) = some (str p.1) ∧ w.cell? ⟨(ad.add (k * 7)).block, (ad.add (k * 7)).off + 1, none⟩ = some (.int .i64 p.2.op) ∧ w.cell? ⟨(ad.add (k * 7)).block, (ad.add (k * 7)).off + 2, none⟩ = some (.bool p.2.g) ∧ w.cell? ⟨(ad.add (k * 7)).block, (ad.add (k * 7)).off + 3, none⟩ = some (.slice N nn nc)
  ∧ w.cell? ⟨(ad.add (k * 7)).block, (ad.add (k * 7)).off + 4, none⟩ = some (str p.2.name) ∧ w.cell? ⟨(ad.add (k * 7)).block, (ad.add (k * 7)).off + 5, none⟩ = some (.int .i64 p.2.sort) ∧ w.cell? ⟨(ad.add (k * 7)).block, (ad.add (k * 7)).off + 6, none⟩ = some (.slice B m d))
  ∧ BdV w p (bv p.1 p.2.op p.2.g N nn nc p.2.name p.2.sort B m d) := by
 rcases h with ⟨rfl, e⟩ | ⟨ad, c', e, h2, h3, h4, h5, h6⟩
 ·injection e with e1 e2 e3
  subst e2
  omega
 ·injection e with e1 e2 e3
  subst e1 e2 e3
  obtain ⟨p, hp⟩ : ∃ p, b[k]? = some p := ⟨_, List.getElem?_eq_getElem (by omega)⟩
  obtain ⟨N, nn, nc, B, m, d, hc, hn, ht⟩ := h6 k p hp
  exact ⟨ad, p, N, nn, nc, B, m, d, rfl, hp, hc, N, nn, nc, B, m, d, rfl, hn, ht⟩
namespace M
/-- What the innermost let that binds a name binds it to. -/
def bindOf (b : List Bd) (s : List UInt8) : Option Tm := (b.reverse.find? fun p => decide (p.1 = s)).map Prod.snd
theorem bindOf_none {b : List Bd} {s : List UInt8} (h : ∀ p ∈ b, p.1 ≠ s) : bindOf b s = none := by
 unfold bindOf
 rw [List.find?_eq_none.2 fun p hp => by simpa using h p (by simpa using hp)]; rfl
theorem bindOf_hit {b pre post : List Bd} {p : Bd} {s : List UInt8} (hb : b.reverse = pre ++ p :: post) (h : ∀ q ∈ pre, q.1 ≠ s) (hp : p.1 = s) : bindOf b s = some p.2 := by
 unfold bindOf
 rw [hb, List.find?_append, List.find?_eq_none.2 fun q hq => by simpa using h q hq]
 simp [hp]
end M
/-- One that the iterator gives: its place, the binding, its value. -/
abbrev BX (w : World) (b : List M.Bd) := { x : Nat × M.Bd × Value // b[x.1]? = some x.2.1 ∧ BdV w x.2.1 x.2.2 }
theorem drop_atB {α : Type} {l : List α} {k : Nat} {x : α} (h : l[k]? = some x) : l.drop k = x :: l.drop (k + 1) := by
 obtain ⟨h1, h2⟩ := List.getElem?_eq_some_iff.1 h
 rw [List.drop_eq_getElem_cons h1, h2]
theorem seenB {w : World} {b : List M.Bd} {k : Nat} {p : M.Bd} {u : Value} (h : b[k]? = some p) (hv : BdV w p u) {pre : List (BX w b)} (hp : pre.map (fun y => y.1.2.1) = (b.drop (k + 1)).reverse) :
 (pre ++ [(⟨(k, p, u), h, hv⟩ : BX w b)]).map (fun y => y.1.2.1) = (b.drop k).reverse := by
 rw [drop_atB h, List.reverse_cons, List.map_append, hp]; rfl
set_option maxRecDepth 100000 in
set_option maxHeartbeats 2000000 in
theorem bback1_in (F : Fence) (n : Nat) (hf : F.fn 261) (hro : F.round = none) (hn : 1 ≤ n) (l Bs : Nat) (G w0 : World) (hG : Sub G w0) (A : Option Addr) (len c : Nat) (b : List M.Bd) (hlen : len = b.length) (hle : len ≤ 1000000000)
 (hb0 : Bds G b (.slice A len c)) (J Jx : List (BX G b) → World → Prop)
 (hY : ∀ pre x W, J pre W → pre.length < len → YieldAt F (n - 1) Tryz.prog l #[.int .i64 (x.1.1 : Int), x.1.2.2] W fun e W' =>
  (e = .returned (.bool true) ∧ J (pre ++ [x]) W' ∧ BackK Bs w0.heap.size W W') ∨ (e = .returned (.bool false) ∧ Jx (pre ++ [x]) W'))
 (W : World) (hBs : W.cell? ⟨Bs, 0, none⟩ = some (.slice A len c)) (hW : Ext w0 W) (h0 : J [] W) :
 CallsIn F n Tryz.prog 261 #[.func (.yield l) #[] #[], .pointer (some ⟨Bs, 0, none⟩)] W fun e W' => (∃ v, e = .returned v) ∧
  ((∃ ys : List (BX G b), ys.map (fun y => y.1.2.1) = b.reverse ∧ J ys W') ∨ (∃ pre : List (BX G b), (∃ k, pre.map (fun y => y.1.2.1) = (b.drop k).reverse) ∧ Jx pre W')) := by
 have HLEN := hid hlen
 have HB0 := hid hb0
 have HW := hid hW
 clear hlen hb0 hW
 refine callsIn_of_wp Tryz.func261 rfl hf ?_ hro
 simp only [Tryz.ntmps261, List.size_toArray, List.length_cons, List.length_nil, Nat.reduceAdd, Nat.reduceSub, Array.replicate_succ, Array.replicate_zero, List.push_toArray, List.append_toArray, List.nil_append, List.cons_append]
 gi_wp2
 gi_loopw [3] (fun i wr => ∃ (k : Nat) (z : Int) (pre : List (BX G b)), k ≤ len ∧ z = (k : Int) - 1 ∧ i = .int .i64 z ∧ J pre wr ∧ pre.map (fun y => y.1.2.1) = (b.drop k).reverse ∧ BackK Bs w0.heap.size W wr)
  (fun i _ => (intOf i + 1).toNat)
 case atStart => exact ⟨len, _, [], Nat.le_refl _, rfl, rfl, h0, by rw [HLEN.out, List.drop_length]; rfl, BackK.refl _ _ _⟩
 case round =>
  obtain ⟨k, z, pre, hk, hz, rfl, hJs, hpre, hnx⟩ := hrel
  have hcb := hnx.cell.trans hBs
  rcases k with _ | k
  ·obtain rfl : z = -1 := by omega
   clear hz
   gi_wp2
   go_end0
   exact ⟨⟨_, rfl⟩, .inl ⟨pre, by rw [hpre, List.drop_zero], hJs⟩⟩
  ·obtain rfl : z = (k : Int) := by omega
   clear hz
   have hlt : k < len := by omega
   obtain ⟨ad, p, N, nn, nc, B, m, d, rfl, hp, ⟨c0, c1, c2, c3, c4, c5, c6⟩, hv⟩ := HB0.out.get hlt
   have ER : Ext w0 wr := Below.trans (B := w0.heap.size) HW.out hnx.1
   replace c0 := ER.cell (hG.2 _ _ c0)
   replace c1 := ER.cell (hG.2 _ _ c1)
   replace c2 := ER.cell (hG.2 _ _ c2)
   replace c3 := ER.cell (hG.2 _ _ c3)
   replace c4 := ER.cell (hG.2 _ _ c4)
   replace c5 := ER.cell (hG.2 _ _ c5)
   replace c6 := ER.cell (hG.2 _ _ c6)
   have hpl : pre.length < len := by
    have := congrArg List.length hpre
    have h2 := HLEN.out
    simp at this; omega
   obtain ⟨fn, tmps, assign, body, hy, hR⟩ := hY pre ⟨(k, p, _), hp, hv⟩ wr hJs hpl
   have HPV := hid (And.intro hp hv)
   dsimp only at hy
   have hk0 : (0 : Int) ≤ (k : Int) := by omega
   have hk1 : (k : Int) < (len : Int) := by omega
   have hsn := hid (seenB hp hv hpre)
   gi_wp2
   refine hR.mono ?_
   rintro e W3 (⟨rfl, hJ3, hk3⟩ | ⟨rfl, hJx3⟩)
   ·gi_wp2
    go_roundw
    case rel => exact ⟨k, _, _, by omega, rfl, by go_num, hJ3, hsn.out, hnx.trans hk3⟩
    case measure => simp [intOf]; all_goals omega
   ·gi_wp2
    refine bodyPost_ret (results_none rfl _ _ _) rfl ?_
    exact ⟨⟨_, rfl⟩, .inr ⟨_, ⟨k, hsn.out⟩, hJx3⟩⟩
set_option maxHeartbeats 1000000 in
theorem bback_n (a : Option Addr) (len cap : Nat) (w : World) :
 Calls Tryz.prog 205 #[.slice a len cap] w fun e w' => e = .returned (.func (.func 261) #[] #[.pointer (some ⟨w.heap.size, 0, none⟩)]) ∧ w' = w.alloc (.cells #[.slice a len cap] 102) := by
 go_enter Tryz.func205, Tryz.ntmps205
 go_wp2
 go_ret
 exact ⟨rfl, rfl⟩
theorem bback_stops (F : Fence) (n : Nat) (hf : F.fn 261) (hro : F.round = none) (hn : 1 ≤ n) (Bs : Nat) (G w0 : World) (hG : Sub G w0) (A : Option Addr) (len c : Nat) (b : List M.Bd) (hlen : len = b.length) (hle : len ≤ 1000000000)
 (hb0 : Bds G b (.slice A len c)) (w : World) (hBs : Bs < w.heap.size) (hw : Ext w0 w) (hc : w.cell? ⟨Bs, 0, none⟩ = some (.slice A len c)) :
 SeqStopsK F n Tryz.prog 261 #[.pointer (some ⟨Bs, 0, none⟩)] (fun x : BX G b => #[Value.int .i64 (x.1.1 : Int), x.1.2.2]) (BackK Bs w0.heap.size) (fun ys => ys.map (fun y => y.1.2.1) = b.reverse) (fun pre => ∃ k, pre.map (fun y => y.1.2.1) = (b.drop k).reverse) b.length w := fun l J Jx W hW _ _ hY h0 => by
 have hc' := (hW.cell (p := ⟨Bs, 0, none⟩) hBs).trans hc
 exact bback1_in F n hf hro hn l Bs G w0 hG A len c b hlen hle hb0 J Jx (by rw [hlen]; exact hY) W hc' (hw.trans hW) h0
end Go.Proofs.YtgkofipifjfjhaaGreatDoor.Q

/-
  Contract of package sort: binds.
-/
namespace Go.Proofs.YtgkofipifjfjhaaGreatDoor.Q
set_option linter.unusedSimpArgs false
set_option linter.unusedVariables false
open Go.RowKit Go.Shelf
attribute [local go_sem] Oper.semAt_some

theorem box_grown {W W' : World} {g : Nat} {cs : Array Value} {T : TypeId} {row : Option Nat} (h : Box W g cs T) (hg : W.grownBy W' row) (hr : ∀ r, row = some r → ∃ o : Obj, W.heap[r]? = some o ∧ o.isCells = false) : Box W' g cs T :=
 (grownBy_keeps_cells hg hr h rfl).trans h
theorem swp_at {P : Program} {code : Code} {Q : Exit → Act → World → Prop} {a : Act} {W : World} (X : World → Prop) (h : X W) (k : ∀ W, X W → code.wp P Q a W) : code.wp P Q a W := k W h
theorem gp_up {p : Nat → Prop} [DecidablePred p] {w w' : World} (e : Ext w w') : Sub (gp p w) (gp p w') := gp_mono e.size fun k hk h => ⟨h, e.block k hk⟩
/-- What binds gives. -/
def GivesBd (p : Nat → Prop) [DecidablePred p] (w : World) (r : Option M.Tm) (e : Ending) (w' : World) : Prop := ∃ v, e = .returned (.tuple #[v, .bool r.isSome]) ∧ IsTm (gp p w') (r.getD M.K0) v ∧ Ext w w'
set_option maxHeartbeats 4000000 in
set_option maxRecDepth 100000 in
theorem binds_t {p : Nat → Prop} [DecidablePred p] {b : List M.Bd} {A SA : Option Addr} {n c sn sc : Nat} {s : List UInt8} {w : World} (h : Bds (gp p w) b (.slice A n c)) (hn : n = b.length) (hle : n ≤ 1000000) (hc : c ≤ 9223372036854775807) :
 Calls Tryz.prog 158 #[.agg #[.slice A n c, .slice SA sn sc], str s] w (GivesBd p w (M.bindOf b s)) := by
 have HB := hid h
 have HN := hid hn
 clear h hn
 refine (callsIn_wide (n := 9)).1 (callsIn_of_wp_marks Tryz.func158 rfl trivial ?_ rfl)
 refine wpIn_wide.2 ?_
 simp only [Tryz.ntmps158, List.size_toArray, List.length_cons, List.length_nil, Nat.reduceAdd, Nat.reduceSub, Array.replicate_succ, Array.replicate_zero, List.push_toArray, List.append_toArray, List.nil_append, List.cons_append]
 go_wp2_with (go_at_call 205; refine (bback_n _ _ _ _).mono ?_; rintro e w' ⟨rfl, rfl⟩)
 obtain ⟨K, hK⟩ : ∃ K, K = w.heap.size := ⟨_, rfl⟩
 refine swp_at (fun W3 => Box W3 (K + 1) #[str s] 9 ∧ Box W3 (K + 1 + 1) zero6 33 ∧ Box W3 (K + 1 + 1 + 1) #[.bool false] 4 ∧ Box W3 (K + 1 + 1 + 1 + 1) #[.slice A n c] 102 ∧ Ext w W3) ?facts ?_
 case facts =>
  subst hK
  refine ⟨?_, ?_, ?_, ?_, ?_⟩
  ·exact (((Box.at_ (w := w.alloc _) _ _ (by simp)).alloc _).alloc _).alloc _
  ·exact ((Box.at_ (w := (w.alloc _).alloc _) _ _ (by simp)).alloc _).alloc _
  ·exact (Box.at_ (w := ((w.alloc _).alloc _).alloc _) _ _ (by simp)).alloc _
  ·exact Box.at_ (w := (((w.alloc _).alloc _).alloc _).alloc _) _ _ (by simp)
  ·exact ((((Ext.alloc w _).alloc' _).alloc' _).alloc' _).alloc' _
 intro W3 ⟨hb1, hb2, hb3, hb4, he⟩
 have hsz : w.heap.size ≤ W3.heap.size := he.size
 have hB5 : K + 1 + 1 + 1 + 1 < W3.heap.size := hb4.lt
 rw [← hK]
 rw [← hK] at hsz
 have HKW := hid hK
 clear hK
 refine (wpIn_wide (n := 9)).1 ?_
 refine wpIn_rangeFunc_ownH (F := Fence.wide) (n := 9) rfl (by decide) (gf := 261) (lb := #[.pointer (some ⟨K + 1 + 1 + 1 + 1, 0, none⟩)]) rfl trivial (enters_of Tryz.func261 (by kernel_rfl) rfl)
  (bback_stops Fence.wide 8 trivial rfl (by decide) (K + 1 + 1 + 1 + 1) (gp p w) w (gp_sub p w) A n c b HN.out (by omega) HB.out W3 hB5 he (hb4.k 0))
  (fun h k => BackK.trans h k) (backK_b (by rw [← HKW.out]; exact hsz) hB5) (Below.refl _ _) (fun _ => rfl)
  (fun (pre : List (BX (gp p w) b)) W => (∀ y ∈ pre, y.1.2.1.1 ≠ s) ∧ Ext w W ∧ Box W (K + 1) #[str s] 9 ∧ Box W (K + 1 + 1) zero6 33 ∧ Box W (K + 1 + 1 + 1) #[.bool false] 4 ∧ Box W (K + 1 + 1 + 1 + 1) #[.slice A n c] 102)
  (fun cd pre W => cd = .ret ∧ ∃ (pre' : List (BX (gp p w) b)) (y : BX (gp p w) b), pre = pre' ++ [y] ∧ (∀ z ∈ pre', z.1.2.1.1 ≠ s) ∧ y.1.2.1.1 = s ∧ Ext w W ∧ (∃ N nn nc B m d, Box W (K + 1 + 1) #[.int .i64 y.1.2.1.2.op, .bool y.1.2.1.2.g, .slice N nn nc, str y.1.2.1.2.name, .int .i64 y.1.2.1.2.sort, .slice B m d] 33 ∧ LNum (gp p w) (.slice N nn nc) y.1.2.1.2.ls ∧ Tms (gp p w) y.1.2.1.2.kids (.slice B m d)) ∧ Box W (K + 1 + 1 + 1) #[.bool true] 4)
  (fun sx X Y row hs hg hr => ⟨hs.1, Below.grown hs.2.1 hg hs.2.1.size (fun k hk => by rw [← HKW.out]; exact Nat.le_trans hsz (hr k hk).1), box_grown hs.2.2.1 hg (fun r e => (hr r e).2), box_grown hs.2.2.2.1 hg (fun r e => (hr r e).2), box_grown hs.2.2.2.2.1 hg (fun r e => (hr r e).2), box_grown hs.2.2.2.2.2 hg (fun r e => (hr r e).2)⟩)
  (fun cd sx X Y row hs hg hr => by
   obtain ⟨h1, pre', y, h2, h3, h4, h5, ⟨N, nn, nc, B, m, d, h6, h7⟩, h8⟩ := hs
   exact ⟨h1, pre', y, h2, h3, h4, Below.grown h5 hg h5.size (fun k hk => by rw [← HKW.out]; exact Nat.le_trans hsz (hr k hk).1), ⟨N, nn, nc, B, m, d, box_grown h6 hg (fun r e => (hr r e).2), h7⟩, box_grown h8 hg (fun r e => (hr r e).2)⟩)
  ⟨fun y hy => (by cases hy), he, hb1, hb2, hb3, hb4⟩
  (fun x a' W => ∃ g cs, K ≤ g ∧ x.1.2.2 = .agg cs ∧ Box W g cs 227 ∧ a' = { tmps := #[.agg #[.slice A n c, .slice SA sn sc], str s, .pointer (some ⟨K, 0, none⟩), .pointer (some ⟨K + 1, 0, none⟩), .pointer (some ⟨K + 1 + 1, 0, none⟩), .pointer (some ⟨K + 1 + 1 + 1, 0, none⟩), undef, .pointer (some ⟨g, 0, none⟩), .pointer (some ⟨K, 0, none⟩), .slice A n c, .func (.func 261) #[] #[.pointer (some ⟨K + 1 + 1 + 1 + 1, 0, none⟩)], .int .i64 (x.1.1 : Int), x.1.2.2, undef, undef, undef, undef, undef, undef, undef], defers := [] })
  (fun x a' sx X Y row hs hg hr => by
   obtain ⟨g, cs, h1, h2, h3, h4⟩ := hs
   exact ⟨g, cs, h1, h2, box_grown h3 hg (fun r e => (hr r e).2), h4⟩)
  ?assign ?body ?done ?stop
 case assign =>
  rintro l' pre x W KK ⟨hpre, hE, hx1, hx2, hx3, hx4⟩ hKK
  obtain ⟨N, nn, nc, B, m, d, hu, hn, ht⟩ := x.2.2
  have HK := hid hKK
  clear hKK
  dsimp only
  rw [hu]
  gi_wp2
  refine HK.out _ _ ((KeepsOthers.alloc W _).from _) ⟨Below.mono (Ext.alloc W _) hE.size, (Ext.alloc W _).block _ hx4.lt⟩ ⟨hpre, hE.alloc' _, hx1.alloc _, hx2.alloc _, hx3.alloc _, hx4.alloc _⟩ ⟨W.heap.size, _, by have := hE.size; rw [← HKW.out] at this; exact this, hu, Box.new _ _ _, ?_⟩
  rw [hu]
 case body =>
  rintro l' pre x a' W hl ⟨r, hr⟩ ⟨hpre, hE, hx1, hx2, hx3, hx4⟩ ⟨g, cs, hg, hcs, hbx, rfl⟩ hlen
  obtain ⟨N, nn, nc, B, m, d, hu, hn, ht⟩ := x.2.2
  obtain rfl : cs = #[str x.1.2.1.1, .int .i64 x.1.2.1.2.op, .bool x.1.2.1.2.g, .slice N nn nc, str x.1.2.1.2.name, .int .i64 x.1.2.1.2.sort, .slice B m d] := by
   rw [hu] at hcs
   injection hcs with hcs
   exact hcs.symm
  have b0 := hbx.k 0
  have b1 := hbx.k 1
  have b2 := hbx.k 2
  have b3 := hbx.k 3
  have b4 := hbx.k 4
  have b5 := hbx.k 5
  have b6 := hbx.k 6
  have n0 := hx1.k 0
  obtain ⟨sx, hsx⟩ : ∃ sx, x.1.2.1.1 = sx := ⟨_, rfl⟩
  rw [hsx] at b0
  have HSX := hid hsx
  have HU := hid hu
  clear hcs hsx hu
  by_cases hs : sx = s
  ·have hs' : (sx == s) = true := by simpa using hs
   have HS := hid hs
   obtain ⟨⟨r0, r1, r2, r3, r4, r5⟩, ⟨f0, f1, f2, f3, f4, f5⟩, hzr⟩ := boxF6 hx2
   have r6 := hx3.k 0
   have f6 := hx3.free 0
   have hz6 := hx3.lt
   clear hs
   gi_wp2
   refine ⟨((((((((KeepsOthers.setCell _ _ _).trans (KeepsOthers.setCell _ _ _)).trans (KeepsOthers.setCell _ _ _)).trans (KeepsOthers.setCell _ _ _)).trans (KeepsOthers.setCell _ _ _)).trans (KeepsOthers.setCell _ _ _)).trans (KeepsOthers.setCell _ _ _)).from _), rfl, pre, x, rfl, hpre, HSX.out.trans HS.out, ?_, ⟨N, nn, nc, B, m, d, ?_, hn, ht⟩, ?_⟩
   ·exact (put6_ext hE (by rw [← HKW.out]; omega)).set' (by rw [← HKW.out]; show K ≤ K + 1 + 1 + 1; omega) _
   ·exact ((((((hx2.setAt 0 _).setAt 1 _).setAt 2 _).setAt 3 _).setAt 4 _).setAt 5 _).far (by show K + 1 + 1 ≠ K + 1 + 1 + 1; omega) _
   ·exact (((((((hx3.far (by show K + 1 + 1 + 1 ≠ K + 1 + 1; omega) _).far (by show K + 1 + 1 + 1 ≠ K + 1 + 1; omega) _).far (by show K + 1 + 1 + 1 ≠ K + 1 + 1; omega) _).far (by show K + 1 + 1 + 1 ≠ K + 1 + 1; omega) _).far (by show K + 1 + 1 + 1 ≠ K + 1 + 1; omega) _).far (by show K + 1 + 1 + 1 ≠ K + 1 + 1; omega) _)).setAt 0 _
  ·have hs' : (sx == s) = false := by simpa using hs
   have HS := hid hs
   clear hs
   gi_wp2
   exact ⟨KeepsFrom.refl _ _, BackK.refl _ _ _, fun y hy => by
    rcases List.mem_append.1 hy with hy | hy
    ·exact hpre y hy
    ·obtain rfl := List.mem_singleton.1 hy
     rw [HSX.out]; exact HS.out, hE, hx1, hx2, hx3, hx4⟩
 case done =>
  rintro D xs W hD hS ⟨hpre, hE, hx1, hx2, hx3, hx4⟩ hdef
  have HR := hid (show M.bindOf b s = none from M.bindOf_none fun q hq => by
   have : q ∈ xs.map (fun y => y.1.2.1) := by rw [hS]; simpa using hq
   obtain ⟨y, hy, rfl⟩ := List.mem_map.1 this
   exact hpre y hy)
  obtain ⟨⟨r0, r1, r2, r3, r4, r5⟩, ⟨f0, f1, f2, f3, f4, f5⟩, hzr⟩ := boxF6 hx2
  have r6 := hx3.k 0
  have f6 := hx3.free 0
  have hz6 := hx3.lt
  clear hpre hS
  go_wp2
  have hKO := (((((((KeepsOthers.setCell W ⟨K + 1 + 1, 0, none⟩ (.int .i64 0)).trans (KeepsOthers.setCell _ ⟨K + 1 + 1, 1, none⟩ (.bool false))).trans (KeepsOthers.setCell _ ⟨K + 1 + 1, 2, none⟩ (.slice none 0 0))).trans (KeepsOthers.setCell _ ⟨K + 1 + 1, 3, none⟩ (.string ⟨#[]⟩))).trans (KeepsOthers.setCell _ ⟨K + 1 + 1, 4, none⟩ (.int .i64 0))).trans (KeepsOthers.setCell _ ⟨K + 1 + 1, 5, none⟩ (.slice none 0 0))).trans (KeepsOthers.setCell _ ⟨K + 1 + 1 + 1, 0, none⟩ (.bool false)))
  have hdef' := hKO.same D _ hdef rfl
  have hE' : Ext w _ := (put6_ext (x0 := .int .i64 0) (x1 := .bool false) (x2 := .slice none 0 0) (x3 := .string ⟨#[]⟩) (x4 := .int .i64 0) (x5 := .slice none 0 0) hE (by rw [← HKW.out]; exact Nat.le_add_right K 2)).set' (p := ⟨K + 1 + 1 + 1, 0, none⟩) (by rw [← HKW.out]; show K ≤ K + 1 + 1 + 1; omega) (.bool false)
  have hy2 : Box _ (K + 1 + 1) zero6 33 := ((((((hx2.setAt 0 (.int .i64 0)).setAt 1 (.bool false)).setAt 2 (.slice none 0 0)).setAt 3 (.string ⟨#[]⟩)).setAt 4 (.int .i64 0)).setAt 5 (.slice none 0 0)).far (p := ⟨K + 1 + 1 + 1, 0, none⟩) (by show K + 1 + 1 ≠ K + 1 + 1 + 1; omega) (.bool false)
  have hy3 : Box _ (K + 1 + 1 + 1) #[.bool false] 4 := (((((((hx3.far (p := ⟨K + 1 + 1, 0, none⟩) (by show K + 1 + 1 + 1 ≠ K + 1 + 1; omega) (.int .i64 0)).far (p := ⟨K + 1 + 1, 1, none⟩) (by show K + 1 + 1 + 1 ≠ K + 1 + 1; omega) (.bool false)).far (p := ⟨K + 1 + 1, 2, none⟩) (by show K + 1 + 1 + 1 ≠ K + 1 + 1; omega) (.slice none 0 0)).far (p := ⟨K + 1 + 1, 3, none⟩) (by show K + 1 + 1 + 1 ≠ K + 1 + 1; omega) (.string ⟨#[]⟩)).far (p := ⟨K + 1 + 1, 4, none⟩) (by show K + 1 + 1 + 1 ≠ K + 1 + 1; omega) (.int .i64 0)).far (p := ⟨K + 1 + 1, 5, none⟩) (by show K + 1 + 1 + 1 ≠ K + 1 + 1; omega) (.slice none 0 0))).setAt 0 (.bool false)
  refine ⟨by simp, .inl ⟨_, _, rfl, run_takeDeferred hdef', ?_⟩⟩
  have hz2 := box_grown hy2 (grownBy_putObj' _ D (.deferred none)) (fun r e => by cases e; exact ⟨_, hdef', rfl⟩)
  have hz3 := box_grown hy3 (grownBy_putObj' _ D (.deferred none)) (fun r e => by cases e; exact ⟨_, hdef', rfl⟩)
  obtain ⟨⟨q0, q1, q2, q3, q4, q5⟩, -, -⟩ := boxF6 hz2
  have q6 := hz3.k 0
  have hDw : w.heap.size ≤ D := by rw [← HKW.out]; omega
  have hEE : Ext w _ := Below.grown hE' (grownBy_putObj' _ D (.deferred none)) hE'.size (fun k e => by cases e; exact hDw)
  refine ⟨.tuple #[kv 0 false none 0 0 [] 0 none 0 0, .bool false], ?_, ?_⟩
  ·simp [results, Tryz.f158, go_sem, q0, q1, q2, q3, q4, q5, q6]
  ·rw [HR.out]
   exact ⟨_, rfl, IsTm.zero _, hEE⟩
 case stop =>
  rintro D cd pre W hD hSp ⟨rfl, pre', y, rfl, h3, h4, hE, ⟨N, nn, nc, B, m, d, h6, h7, h8⟩, h9⟩ hdef
  have HR := hid (show M.bindOf b s = some y.1.2.1.2 by
   obtain ⟨k, hk⟩ := hSp
   have e0 : b.reverse = (b.drop k).reverse ++ (b.take k).reverse := by rw [← List.reverse_append, List.take_append_drop]
   have e : b.reverse = (pre'.map fun z => z.1.2.1) ++ y.1.2.1 :: (b.take k).reverse := by
    rw [e0, ← hk]; simp
   exact M.bindOf_hit e (fun q hq => by
    obtain ⟨z, hz, rfl⟩ := List.mem_map.1 hq
    exact h3 z hz) h4)
  clear hSp h3
  gi_wp2
  refine ⟨by simp, .inl ⟨_, _, rfl, run_takeDeferred hdef, ?_⟩⟩
  have hz2 := box_grown h6 (grownBy_putObj' _ D (.deferred none)) (fun r e => by cases e; exact ⟨_, hdef, rfl⟩)
  have hz3 := box_grown h9 (grownBy_putObj' _ D (.deferred none)) (fun r e => by cases e; exact ⟨_, hdef, rfl⟩)
  obtain ⟨⟨q0, q1, q2, q3, q4, q5⟩, -, -⟩ := boxF6 hz2
  have q6 := hz3.k 0
  have hDw : w.heap.size ≤ D := by rw [← HKW.out]; omega
  have hEE : Ext w (W.putObj D (.deferred none)) := Below.grown hE (grownBy_putObj' _ D _) hE.size (fun k e => by cases e; exact hDw)
  refine ⟨.tuple #[kv y.1.2.1.2.op y.1.2.1.2.g N nn nc y.1.2.1.2.name y.1.2.1.2.sort B m d, .bool true], ?_, ?_⟩
  ·simp [results, Tryz.f158, go_sem, q0, q1, q2, q3, q4, q5, q6]
  ·rw [HR.out]
   obtain ⟨A', c', e⟩ := h8.shape
   injection e with e1 e2 e3
   subst e2
   exact ⟨_, rfl, ⟨N, nn, nc, B, d, rfl, lnum_sub h7 (gp_up hEE), tms_sub h8 (gp_up hEE)⟩, hEE⟩
end Go.Proofs.YtgkofipifjfjhaaGreatDoor.Q

/-
  Contracts of package sort: the Sig of a name.
-/
namespace Go.Proofs.YtgkofipifjfjhaaGreatDoor.Q
set_option linter.unusedSimpArgs false
set_option linter.unusedVariables false
open Go.RowKit

namespace M
def sgOf (l : List Sg) (s : List UInt8) : Option Sg := l.find? fun g => decide (g.name = s)
theorem sgOf_hit {l : List Sg} {k : Nat} {g : Sg} {s : List UInt8} (h : ∀ u ∈ l.take k, u.name ≠ s) (hk : l[k]? = some g) (hg : g.name = s) : sgOf l s = some g := by
 have e : l = l.take k ++ (g :: l.drop (k + 1)) := by
  obtain ⟨hlt, ht⟩ := List.getElem?_eq_some_iff.1 hk
  rw [← ht, ← List.drop_eq_getElem_cons hlt, List.take_append_drop]
 unfold sgOf
 rw [e, List.find?_append, List.find?_eq_none.2 fun u hu => by simpa using h u hu]
 simp [hg]
theorem sgOf_miss {l : List Sg} {s : List UInt8} (h : ∀ u ∈ l, u.name ≠ s) : sgOf l s = none := by
 unfold sgOf
 rw [List.find?_eq_none.2 fun u hu => by simpa using h u hu]
end M
theorem named_t {nm s : List UInt8} {A : Option Addr} {n c : Nat} {r : Int} {k : Nat} {q : Bool} {w : World} (h : w.cell? ⟨k, 0, none⟩ = some (str s)) (hq : (nm == s) = q) : Calls Tryz.prog 207 #[sgv nm A n c r, .pointer (some ⟨k, 0, none⟩)] w (GivesB w q) := by
 have hlt := World.block_lt_of_cell? w _ h
 have h' := fun o => (Ext.alloc w o).cell h
 go_enter Tryz.func207, Tryz.ntmps207
 go_wp2
 go_ret
 exact ⟨rfl, Ext.alloc w _⟩
/-- Where the Sig of a name stands. -/
def IsAt (l : List M.Sg) (s : List UInt8) (z : Int) : Prop := (z = -1 ∧ M.sgOf l s = none) ∨ ∃ (k : Nat) (g : M.Sg), z = (k : Int) ∧ l[k]? = some g ∧ M.sgOf l s = some g
set_option maxHeartbeats 2000000 in
theorem indexS_t {l : List M.Sg} {v : Value} {s : List UInt8} {kb : Nat} {w : World} (h : Sgs w l v) (hs : w.cell? ⟨kb, 0, none⟩ = some (str s)) :
 Calls Tryz.prog 206 #[v, .func (.func 207) #[] #[.pointer (some ⟨kb, 0, none⟩)]] w (fun e w' => ∃ z : Int, e = .returned (.int .i64 z) ∧ Hid (IsAt l s z) ∧ Ext w w') := by
 obtain ⟨A, c, rfl⟩ := h.shape
 obtain ⟨hl1, hl2, hl3⟩ := h.le
 obtain ⟨n, hn⟩ : ∃ n, l.length = n := ⟨_, rfl⟩
 rw [hn] at h hl2 ⊢
 have HK := hid h
 have HN := hid hn
 have HS := hid hs
 clear h hl1 hn hs
 go_enter Tryz.func206, Tryz.ntmps206
 go_wp2_with fail
 go_loopw [8] (fun i wr => ∃ (k : Nat), i = .int .i64 (k : Int) ∧ k ≤ n ∧ Hid ((∀ u ∈ l.take k, u.name ≠ s) ∧ Ext w wr)) (fun i _ => n - (intOf i).toNat)
 case atStart => exact ⟨0, rfl, Nat.zero_le _, hid ⟨fun u hu => by simp at hu, Ext.refl _⟩⟩
 case round =>
  obtain ⟨k, rfl, hk, hR⟩ := hrel
  have E := hid hR.out.2
  have HQ := hid hR.out.1
  clear hR
  rcases Nat.lt_or_ge k n with hlt | hge
  ·have hlt' : (k : Int) < (n : Int) := by omega
   obtain ⟨ad, g, B, d, rfl, hg, ⟨c0, c1, c2⟩, hv⟩ := (HK.out.up E.out).get hlt
   obtain ⟨m, hm⟩ : ∃ m, g.args.length = m := ⟨_, rfl⟩
   rw [hm] at c1
   have HG := hid hg
   obtain ⟨q, hq⟩ : ∃ q, (g.name == s) = q := ⟨_, rfl⟩
   have HC := hid (named_t (A := B) (n := m) (c := d) (r := g.ret) (w := wr) (E.out.cell HS.out) hq)
   have HQ2 := hid hq
   clear hg hv hq hm
   cases q
   ·go_wp2_with fail
    refine HC.out.mono ?_
    rintro e w1 ⟨rfl, hb⟩
    have E1 := hid (E.out.trans hb)
    clear hb
    go_wp2_with fail
    go_roundw
    case rel => exact ⟨k + 1, by simp, by omega, hid ⟨fun u hu => by
     rw [List.take_add_one, HG.out] at hu
     simp only [List.mem_append, Option.toList_some, List.mem_singleton] at hu
     rcases hu with hu | rfl
     ·exact HQ.out u hu
     ·simpa using HQ2.out, E1.out⟩⟩
    case measure => simp [intOf]; omega
   ·go_wp2_with fail
    refine HC.out.mono ?_
    rintro e w1 ⟨rfl, hb⟩
    have E1 := hid (E.out.trans hb)
    clear hb
    go_wp2_with fail
    go_ret
    exact ⟨_, rfl, hid (.inr ⟨k, g, rfl, HG.out, M.sgOf_hit HQ.out HG.out (by simpa using HQ2.out)⟩), E1.out⟩
  ·obtain rfl : k = n := by omega
   have HM := hid (show M.sgOf l s = none from M.sgOf_miss fun u hu => HQ.out u (by rw [← HN.out, List.take_length]; exact hu))
   clear HQ
   go_wp2
   go_ret
   exact ⟨_, rfl, hid (.inl ⟨rfl, HM.out⟩), E.out⟩
end Go.Proofs.YtgkofipifjfjhaaGreatDoor.Q

/-
  Layer 11, words: lists of bindings of the call's own.
-/
namespace Go.Proofs.YtgkofipifjfjhaaGreatDoor.Q
set_option linter.unusedSimpArgs false
set_option linter.unusedVariables false
open Go.RowKit

/-- The cells of a list of bindings. -/
def BdC (w : World) : List M.Bd → List Value → Prop
 | [], xs => xs = []
 | p :: r, xs => ∃ N nn nc A n c ys, xs = str p.1 :: .int .i64 p.2.op :: .bool p.2.g :: .slice N nn nc :: str p.2.name :: .int .i64 p.2.sort :: .slice A n c :: ys ∧ LNum w (.slice N nn nc) p.2.ls ∧ Tms w p.2.kids (.slice A n c) ∧ BdC w r ys
theorem BdC.len {w : World} : ∀ {l : List M.Bd} {xs : List Value}, BdC w l xs → xs.length = l.length * 7
 | [], _, h => by rw [show _ = [] from h]; rfl
 | t :: r, _, ⟨N, nn, nc, A, n, c, ys, h1, h2, h3, h4⟩ => by
  have := BdC.len h4
  rw [h1]; simp; omega
theorem BdC.app {w : World} : ∀ {l l' : List M.Bd} {xs ys : List Value}, BdC w l xs → BdC w l' ys → BdC w (l ++ l') (xs ++ ys)
 | [], _, _, _, h, h' => by rw [show _ = [] from h]; exact h'
 | t :: r, _, _, _, ⟨N, nn, nc, A, n, c, zs, h1, h2, h3, h4⟩, h' => ⟨N, nn, nc, A, n, c, _, by rw [h1]; rfl, h2, h3, BdC.app h4 h'⟩
theorem BdC.cell1 {w : World} : ∀ {l : List M.Bd} {xs : List Value}, BdC w l xs → ∀ u ∈ xs, u.oneCell' = true
 | [], _, h => by rw [show _ = [] from h]; intro u hu; simp at hu
 | t :: r, _, ⟨N, nn, nc, A, n, c, ys, h1, h2, h3, h4⟩ => by
  intro u hu
  rw [h1] at hu
  simp only [List.mem_cons] at hu
  rcases hu with rfl | rfl | rfl | rfl | rfl | rfl | rfl | hu
  ·rfl
  ·rfl
  ·rfl
  ·rfl
  ·rfl
  ·rfl
  ·rfl
  ·exact BdC.cell1 h4 u hu
theorem BdC.get {w : World} : ∀ {l : List M.Bd} {xs : List Value}, BdC w l xs → ∀ (k : Nat) (p : M.Bd), l[k]? = some p → ∃ N nn nc A n c, (xs[k * 7]? = some (str p.1) ∧ xs[k * 7 + 1]? = some (.int .i64 p.2.op) ∧ xs[k * 7 + 2]? = some (.bool p.2.g) ∧ xs[k * 7 + 3]? = some (.slice N nn nc) ∧ xs[k * 7 + 4]? = some (str p.2.name) ∧ xs[k * 7 + 5]? = some (.int .i64 p.2.sort) ∧ xs[k * 7 + 6]? = some (.slice A n c)) ∧ LNum w (.slice N nn nc) p.2.ls ∧ Tms w p.2.kids (.slice A n c)
 | [], _, _, _, _, hk => by simp at hk
 | t :: r, _, ⟨N, nn, nc, A, n, c, ys, h1, h2, h3, h4⟩, 0, s, hk => by
  simp at hk
  subst hk h1
  exact ⟨N, nn, nc, A, n, c, ⟨rfl, rfl, rfl, rfl, rfl, rfl, rfl⟩, h2, h3⟩
 | t :: r, _, ⟨N, nn, nc, A, n, c, ys, h1, h2, h3, h4⟩, k + 1, s, hk => by
  obtain ⟨N', nn', nc', A', n', c', ⟨g0, g1, g2, g3, g4, g5, g6⟩, g7⟩ := BdC.get h4 k s (by simpa using hk)
  subst h1
  have e : ∀ j, (k + 1) * 7 + j = k * 7 + j + 1 + 1 + 1 + 1 + 1 + 1 + 1 := fun j => by omega
  refine ⟨N', nn', nc', A', n', c', ⟨?_, ?_, ?_, ?_, ?_, ?_, ?_⟩, g7⟩
  ·have := e 0; rw [Nat.add_zero] at this; rw [this]; simpa using g0
  ·rw [e 1]; simpa using g1
  ·rw [e 2]; simpa using g2
  ·rw [e 3]; simpa using g3
  ·rw [e 4]; simpa using g4
  ·rw [e 5]; simpa using g5
  ·rw [e 6]; simpa using g6
theorem BdC.of {w : World} {ad : Addr} : ∀ (l : List M.Bd) (j : Nat), (∀ (k : Nat) (p : M.Bd), l[k]? = some p → BdAt w p (ad.add ((j + k) * 7))) → ∃ xs, BdC w l xs ∧ ∀ (i : Nat) (u : Value), xs[i]? = some u → w.cell? (ad.add (j * 7 + i)) = some u
 | [], j, _ => ⟨[], rfl, fun i u h => by simp at h⟩
 | p :: r, j, h => by
  obtain ⟨ys, hy, hc⟩ := BdC.of (ad := ad) r (j + 1) (fun k t hk => by
   have := h (k + 1) t (by simpa using hk)
   rwa [show (j + (k + 1)) * 7 = (j + 1 + k) * 7 by omega] at this)
  obtain ⟨N, nn, nc, B, m, d, ⟨c0, c1, c2, c3, c4, c5, c6⟩, hn, hk⟩ := h 0 _ rfl
  rw [Addr.add_add] at c1 c2 c3 c4 c5 c6
  refine ⟨_, ⟨N, nn, nc, B, m, d, ys, rfl, hn, hk, hy⟩, fun i u hi => ?_⟩
  match i, hi with
  | 0, hi => simp at hi; subst hi; exact c0
  | 1, hi => simp at hi; subst hi; exact c1
  | 2, hi => simp at hi; subst hi; exact c2
  | 3, hi => simp at hi; subst hi; exact c3
  | 4, hi => simp at hi; subst hi; exact c4
  | 5, hi => simp at hi; subst hi; exact c5
  | 6, hi => simp at hi; subst hi; exact c6
  | i + 7, hi =>
   have := hc i u (by simpa using hi)
   rwa [show (j + 1) * 7 + i = j * 7 + (i + 7) by omega] at this
/-- A list of bindings of the call's own, from block B on; what its terms have of memory lies in V. -/
def OwnB (B : Nat) (V w : World) (v : Value) (l : List M.Bd) : Prop := ∃ xs, w.ownsRow B 227 7 v l.length xs ∧ BdC V l xs
theorem OwnB.nil (B : Nat) (V w : World) : OwnB B V w (.slice none 0 0) [] := ⟨[], World.ownsRow_nil w _ _ 7, rfl⟩
theorem OwnB.empty (B : Nat) (V w : World) (hb : B ≤ w.heap.size) : OwnB B V (w.alloc (.cells #[] 227)) (.slice (some ⟨w.heap.size, 0, none⟩) 0 0) [] := ⟨[], World.ownsRow_lit w #[] 0 hb (by unfold maxLen; omega) rfl, rfl⟩
theorem OwnB.frame {B : Nat} {V w w' : World} {v : Value} {l : List M.Bd} (h : OwnB B V w v l) (hb : ∀ b, B ≤ b → b < w.heap.size → v.ownBlock = some b → w'.heap[b]? = w.heap[b]?) : OwnB B V w' v l := by
 obtain ⟨xs, ⟨h1, h2⟩, h3⟩ := h
 refine ⟨xs, ⟨h1, h2.imp id ?_⟩, h3⟩
 rintro ⟨g, cap, cur, rfl, h4, h5, h6⟩
 exact ⟨g, cap, cur, rfl, h4, by rw [hb g h4 (Array.getElem?_eq_some_iff.1 h5).1 rfl]; exact h5, h6⟩
theorem OwnB.lt {B : Nat} {V w : World} {v : Value} {l : List M.Bd} (h : OwnB B V w v l) : ∀ b, v.ownBlock = some b → B ≤ b ∧ b < w.heap.size := by
 obtain ⟨cs, h1, _⟩ := h
 exact fun b hb => World.ownsRow.lt h1 b hb
theorem OwnB.shape {B : Nat} {V w : World} {v : Value} {l : List M.Bd} (h : OwnB B V w v l) : ∃ A c, v = .slice A l.length c := by
 obtain ⟨xs, h1, _⟩ := h
 obtain ⟨A, c, h, _⟩ := sshape h1
 exact ⟨A, c, h⟩
/-- Bindings of the call's own, read in a world G that holds what lies in V, and their own block. -/
theorem OwnB.bds {B : Nat} {V w G : World} {v : Value} {l : List M.Bd} (h : OwnB B V w v l) (hne : l ≠ []) (e : Sub V G) (hG : ∀ a u, B ≤ a.block → w.cell? a = some u → G.cell? a = some u) (hs : w.heap.size ≤ G.heap.size) : Bds G l v := by
 obtain ⟨cs, h1, h2⟩ := h
 have hh := h1
 obtain ⟨hl, h3⟩ := h1
 rcases h3 with ⟨rfl, h0⟩ | ⟨b, cap, cur, rfl, hb, hc, hc1, hm, _, _⟩
 ·exact absurd (List.eq_nil_of_length_eq_zero h0) hne
 ·refine .inr ⟨_, _, rfl, hne, hc1, hm, Nat.lt_of_lt_of_le (Array.getElem?_eq_some_iff.1 hc).1 hs, fun k p hk => ?_⟩
  obtain ⟨N, nn, nc, A, n, c, ⟨g0, g1, g2, g3, g4, g5, g6⟩, g7, g8⟩ := h2.get k p hk
  have key : ∀ j u, cs[j]? = some u → G.cell? ((⟨b, 0, none⟩ : Addr).add j) = some u := fun j u hu => hG _ _ (by rw [addr_block]; exact hb) (World.ownsRow.cells hh (g := b) rfl _ _ hu)
  have cell : ∀ {j : Nat} {u : Value}, cs[k * 7 + j]? = some u → G.cell? (((⟨b, 0, none⟩ : Addr).add (k * 7)).add j) = some u := fun hj => by
   rw [Addr.add_add]; exact key _ _ hj
  exact ⟨N, nn, nc, A, n, c, ⟨key _ _ g0, cell g1, cell g2, cell g3, cell g4, cell g5, cell g6⟩, lnum_sub g7 e, tms_sub g8 e⟩
theorem info_bd : (Tryz.prog.info? 227).map (fun i => (i.zero, i.size, i.bytes)) = some (some (.agg #[.string ⟨#[]⟩, .int .i64 0, .bool false, .slice none 0 0, .string ⟨#[]⟩, .int .i64 0, .slice none 0 0]), 7, 104) := by kernel_rfl
/-- What is put behind it. -/
def BdSrc (V w : World) (l : List M.Bd) (A : Option Addr) (n : Nat) : Prop := n = l.length ∧ l ≠ [] ∧ ∃ xs, BdC V l xs ∧ ∃ ad, A = some ad ∧ ∀ (i : Nat) (u : Value), xs[i]? = some u → w.cell? (ad.add i) = some u
theorem Bds.src {V w : World} {l : List M.Bd} {A : Option Addr} {n c : Nat} (h : Bds V l (.slice A n c)) (hne : l ≠ []) (e : Sub V w) : BdSrc V w l A n := by
 rcases h with ⟨h, _⟩ | ⟨ad, c', h1, h2, h3, h4, h5, h6⟩
 ·exact absurd h hne
 ·injection h1 with e1 e2 e3
  subst e1 e2 e3
  obtain ⟨xs, hx, hcell⟩ := BdC.of (w := V) (ad := ad) l 0 (fun k s hk => by rw [Nat.zero_add]; exact h6 k s hk)
  exact ⟨rfl, hne, xs, hx, ad, rfl, fun i u hi => e.2 _ _ (by have := hcell i u hi; rwa [Nat.zero_mul, Nat.zero_add] at this)⟩
theorem bdSrc_one {V w : World} {s : List UInt8} {op : Int} {g : Bool} {ls : List Nat} {nm : List UInt8} {so : Int} {ks : List M.Tm} {k nn nc n c : Nat} {N A : Option Addr} {T : TypeId} (h : Box w k #[str s, .int .i64 op, .bool g, .slice N nn nc, str nm, .int .i64 so, .slice A n c] T) (hn : LNum V (.slice N nn nc) ls) (hk : Tms V ks (.slice A n c)) : BdSrc V w [(s, .mk op g ls nm so ks)] (some ⟨k, 0, none⟩) 1 := by
 refine ⟨rfl, by simp, _, ⟨N, nn, nc, A, n, c, [], rfl, hn, hk, rfl⟩, _, rfl, fun i u hu => ?_⟩
 rw [Addr.add_lit, Nat.zero_add]
 match i, hu with
 | 0, hu => simp at hu; subst hu; exact h.k 0
 | 1, hu => simp [M.Tm.op] at hu; subst hu; exact h.k 1
 | 2, hu => simp [M.Tm.g] at hu; subst hu; exact h.k 2
 | 3, hu => simp at hu; subst hu; exact h.k 3
 | 4, hu => simp [M.Tm.name] at hu; subst hu; exact h.k 4
 | 5, hu => simp [M.Tm.sort] at hu; subst hu; exact h.k 5
 | 6, hu => simp at hu; subst hu; exact h.k 6
theorem appB_run {B : Nat} {V w : World} {v : Value} {l m : List M.Bd} {A : Option Addr} {n c : Nat} (h : OwnB B V w v l) (hx : BdSrc V w m A n) (hlen : l.length + m.length ≤ 1000000) (hbase : B ≤ w.heap.size) (ty : TypeId) :
 ∃ v' w', (Builtin.append_ #[102, 102] ty #[v, .slice A n c]).run Tryz.prog w = .ok v' w' ∧ OwnB B V w' v' (l ++ m) ∧ Below B w w' ∧ Kept v.ownBlock.toList w w' ∧ (v'.ownBlock = v.ownBlock ∨ v'.ownBlock = some w.heap.size) := by
 obtain ⟨i0, hi, hz0, hz1, hz2⟩ := info_parts info_bd
 obtain ⟨xs, ho, hs⟩ := h
 obtain ⟨hn, hne, ys, hy, ad, rfl, hcell⟩ := hx
 subst hn
 obtain ⟨v', w', hrun, ho', hg, _, hv'⟩ := run_append_own_at (P := Tryz.prog) w B 102 ty 227 i0 _ 7 104 Tryz.underlying102 hi hz0 hz1 hz2 rfl (by decide) v l.length xs ho ad m.length c ys hy.len hcell hy.cell1 (by unfold maxLen; omega) (by omega) hbase
 exact ⟨v', w', hrun, ⟨xs ++ ys, by rw [List.length_append]; exact ho', hs.app hy⟩, (Below.refl _ _).grown hg hbase fun k hk => (World.ownsRow.lt ho k hk).1, sgrown hg, hv'⟩
end Go.Proofs.YtgkofipifjfjhaaGreatDoor.Q

