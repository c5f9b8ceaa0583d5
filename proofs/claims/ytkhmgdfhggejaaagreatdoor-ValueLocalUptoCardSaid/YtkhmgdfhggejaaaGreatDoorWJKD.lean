/-
  Layer 10, the reference: lists of Sigs of the call's own.
-/
import Derived.Test.YtkhmgdfhggejaaaGreatDoorWJKL
import Derived.Test.YtkhmgdfhggejaaaGreatDoorWJQH
namespace Go.Proofs.YtkhmgdfhggejaaaGreatDoor.Q
set_option linter.unusedSimpArgs false
set_option linter.unusedVariables false
open Go.RowKit

/-- The cells of a list of Sigs. -/
def SgC (w : World) : List M.Sg → List Value → Prop
 | [], xs => xs = []
 | s :: r, xs => ∃ A n c ys, xs = str s.name :: .slice A n c :: .int .i64 s.ret :: ys ∧ Ints w s.args (.slice A n c) ∧ SgC w r ys
theorem SgC.up {w w' : World} (e : Ext w w') : ∀ {l : List M.Sg} {xs : List Value}, SgC w l xs → SgC w' l xs
 | [], _, h => h
 | s :: r, _, ⟨A, n, c, ys, h1, h2, h3⟩ => ⟨A, n, c, ys, h1, h2.up e, SgC.up e h3⟩
theorem SgC.len {w : World} : ∀ {l : List M.Sg} {xs : List Value}, SgC w l xs → xs.length = l.length * 3
 | [], _, h => by rw [show _ = [] from h]; rfl
 | s :: r, _, ⟨A, n, c, ys, h1, h2, h3⟩ => by
  have := SgC.len h3
  rw [h1]; simp; omega
theorem SgC.app {w : World} : ∀ {l l' : List M.Sg} {xs ys : List Value}, SgC w l xs → SgC w l' ys → SgC w (l ++ l') (xs ++ ys)
 | [], _, _, _, h, h' => by rw [show _ = [] from h]; exact h'
 | s :: r, _, _, _, ⟨A, n, c, zs, h1, h2, h3⟩, h' => ⟨A, n, c, _, by rw [h1]; rfl, h2, SgC.app h3 h'⟩
theorem SgC.cell1 {w : World} : ∀ {l : List M.Sg} {xs : List Value}, SgC w l xs → ∀ u ∈ xs, u.oneCell' = true
 | [], _, h => by rw [show _ = [] from h]; intro u hu; simp at hu
 | s :: r, _, ⟨A, n, c, ys, h1, h2, h3⟩ => by
  intro u hu
  rw [h1] at hu
  simp only [List.mem_cons] at hu
  rcases hu with rfl | rfl | rfl | hu
  ·rfl
  ·rfl
  ·rfl
  ·exact SgC.cell1 h3 u hu
theorem SgC.get {w : World} : ∀ {l : List M.Sg} {xs : List Value}, SgC w l xs → ∀ (k : Nat) (s : M.Sg), l[k]? = some s → ∃ A n c, xs[k * 3]? = some (str s.name) ∧ xs[k * 3 + 1]? = some (.slice A n c) ∧ xs[k * 3 + 2]? = some (.int .i64 s.ret) ∧ Ints w s.args (.slice A n c)
 | [], _, _, _, _, hk => by simp at hk
 | s :: r, _, ⟨A, n, c, ys, h1, h2, h3⟩, 0, t, hk => by
  simp at hk
  subst hk h1
  exact ⟨A, n, c, rfl, rfl, rfl, h2⟩
 | s :: r, _, ⟨A, n, c, ys, h1, h2, h3⟩, k + 1, t, hk => by
  obtain ⟨A', n', c', g1, g2, g3, g4⟩ := SgC.get h3 k t (by simpa using hk)
  subst h1
  refine ⟨A', n', c', ?_, ?_, ?_, g4⟩
  ·rw [show (k + 1) * 3 = k * 3 + 1 + 1 + 1 by omega]; simpa using g1
  ·rw [show (k + 1) * 3 + 1 = (k * 3 + 1) + 1 + 1 + 1 by omega]; simpa using g2
  ·rw [show (k + 1) * 3 + 2 = (k * 3 + 2) + 1 + 1 + 1 by omega]; simpa using g3
theorem SgC.of {w : World} {ad : Addr} : ∀ (l : List M.Sg) (j : Nat), (∀ (k : Nat) (s : M.Sg), l[k]? = some s → SgAt w s (ad.add ((j + k) * 3))) → ∃ xs, SgC w l xs ∧ ∀ (i : Nat) (u : Value), xs[i]? = some u → w.cell? (ad.add (j * 3 + i)) = some u
 | [], j, _ => ⟨[], rfl, fun i u h => by simp at h⟩
 | s :: r, j, h => by
  obtain ⟨ys, hy, hc⟩ := SgC.of (ad := ad) r (j + 1) (fun k t hk => by
   have := h (k + 1) t (by simpa using hk)
   rwa [show (j + (k + 1)) * 3 = (j + 1 + k) * 3 by omega] at this)
  obtain ⟨A, n, c, ⟨h0, h1, h2⟩, h3⟩ := h 0 s rfl
  rw [Addr.add_add] at h1 h2
  refine ⟨_, ⟨A, n, c, ys, rfl, h3, hy⟩, fun i u hi => ?_⟩
  match i, hi with
  | 0, hi => simp at hi; subst hi; exact h0
  | 1, hi => simp at hi; subst hi; exact h1
  | 2, hi => simp at hi; subst hi; exact h2
  | i + 3, hi =>
   have := hc i u (by simpa using hi)
   rwa [show (j + 1) * 3 + i = j * 3 + (i + 3) by omega] at this
/-- A list of Sigs of the call's own: their arguments lie in the world that the call found. -/
def OwnS (W w : World) (v : Value) (l : List M.Sg) : Prop := ∃ xs, w.ownsRow W.heap.size 52 3 v l.length xs ∧ SgC W l xs
theorem OwnS.nil (W w : World) : OwnS W w (.slice none 0 0) [] := ⟨[], World.ownsRow_nil w _ _ 3, rfl⟩
theorem OwnS.frame {W w w' : World} {v : Value} {l : List M.Sg} (h : OwnS W w v l) (hb : ∀ b, W.heap.size ≤ b → b < w.heap.size → w'.heap[b]? = w.heap[b]?) : OwnS W w' v l := by
 obtain ⟨xs, h1, h2⟩ := h
 exact ⟨xs, kframe h1 hb, h2⟩
theorem OwnS.up {W w w' : World} {v : Value} {l : List M.Sg} (h : OwnS W w v l) (e : Ext w w') : OwnS W w' v l := h.frame fun b _ hb => e.block b hb
theorem OwnS.base {W w : World} {v : Value} {l : List M.Sg} (h : OwnS W w v l) : ∀ b, b ∈ v.ownBlock.toList → W.heap.size ≤ b := by
 obtain ⟨xs, h1, _⟩ := h
 exact fun b hb => kown_base h1 hb
theorem OwnS.sgs {W w : World} {v : Value} {l : List M.Sg} (h : OwnS W w v l) (e : Ext W w) : Sgs w l v := by
 obtain ⟨xs, h1, h2⟩ := h
 have hh := h1
 obtain ⟨hl, h3⟩ := h1
 rcases h3 with ⟨rfl, h0⟩ | ⟨b, cap, cur, rfl, hb, hc, hc1, hm, _, _⟩
 ·obtain rfl : l = [] := List.eq_nil_of_length_eq_zero h0
  exact Sgs.nil w
 ·refine ⟨_, _, _, rfl, rfl, hc1, hm, fun hn => ⟨_, rfl, (Array.getElem?_eq_some_iff.1 hc).1, fun k s hk => ?_⟩⟩
  obtain ⟨A, n, c, g0, g1, g2, g3⟩ := h2.get k s hk
  refine ⟨A, n, c, ⟨World.ownsRow.cells hh (g := b) rfl _ _ g0, ?_, ?_⟩, g3.up e⟩
  ·rw [Addr.add_add]; exact World.ownsRow.cells hh (g := b) rfl _ _ g1
  ·rw [Addr.add_add]; exact World.ownsRow.cells hh (g := b) rfl _ _ g2
/-- What is put behind it. -/
def SgSrc (W w : World) (l : List M.Sg) (A : Option Addr) (n : Nat) : Prop := n = l.length ∧ ∃ xs, SgC W l xs ∧ (l ≠ [] → ∃ ad, A = some ad ∧ ∀ (i : Nat) (u : Value), xs[i]? = some u → w.cell? (ad.add i) = some u)
theorem Sgs.src {W w : World} {l : List M.Sg} {A : Option Addr} {n c : Nat} (h : Sgs W l (.slice A n c)) (hk : ∀ (a : Addr) (u : Value), W.cell? a = some u → w.cell? a = some u) : SgSrc W w l A n := by
 obtain ⟨A', n', c', e, h2, h3, h4, h5⟩ := h
 injection e with e1 e2 e3
 subst e1 e2 e3
 refine ⟨h2, ?_⟩
 by_cases hne : l = []
 ·subst hne
  exact ⟨[], rfl, fun h => absurd rfl h⟩
 obtain ⟨ad, ha, hb, hc⟩ := h5 hne
 obtain ⟨xs, hx, hcell⟩ := SgC.of (ad := ad) l 0 (fun k s hk => by rw [Nat.zero_add]; exact hc k s hk)
 exact ⟨xs, hx, fun _ => ⟨ad, ha, fun i u hi => hk _ _ (by have := hcell i u hi; rwa [Nat.zero_mul, Nat.zero_add] at this)⟩⟩
theorem sgSrc_one {W w : World} {s : M.Sg} {g n c : Nat} {A : Option Addr} {T : TypeId} (h : Box w g #[str s.name, .slice A n c, .int .i64 s.ret] T) (hi : Ints W s.args (.slice A n c)) : SgSrc W w [s] (some ⟨g, 0, none⟩) 1 := by
 refine ⟨rfl, _, ⟨A, n, c, [], rfl, hi, rfl⟩, fun _ => ⟨_, rfl, fun i u hu => ?_⟩⟩
 rw [Addr.add_lit, Nat.zero_add]
 match i, hu with
 | 0, hu => simp at hu; subst hu; exact h.k 0
 | 1, hu => simp at hu; subst hu; exact h.k 1
 | 2, hu => simp at hu; subst hu; exact h.k 2
theorem info_sig8 : (Tryz.prog.info? 52).map (fun i => (i.zero, i.size, i.bytes)) = some (some (.agg #[.string ⟨#[]⟩, .slice none 0 0, .int .i64 0]), 3, 48) := by kernel_rfl
theorem appS_run {W w : World} {v : Value} {l m : List M.Sg} {A : Option Addr} {n c : Nat} (h : OwnS W w v l) (hx : SgSrc W w m A n) (hlen : l.length + m.length ≤ 10000000) (hbase : W.heap.size ≤ w.heap.size) (ty : TypeId) :
 ∃ v' w', (Builtin.append_ #[47, 47] ty #[v, .slice A n c]).run Tryz.prog w = .ok v' w' ∧ OwnS W w' v' (l ++ m) ∧ Below W.heap.size w w' ∧ Kept v.ownBlock.toList w w' := by
 obtain ⟨i0, hi, hz0, hz1, hz2⟩ := info_parts info_sig8
 obtain ⟨xs, ho, hs⟩ := h
 obtain ⟨hn, ys, hy, hc⟩ := hx
 by_cases hm : m = []
 ·subst hm
  obtain rfl : n = 0 := hn
  refine ⟨v, w, ?_, ⟨xs, by rw [List.append_nil]; exact ho, by rw [List.append_nil]; exact hs⟩, Below.refl _ _, Kept.refl _ _⟩
  rcases ho.2 with ⟨rfl, _⟩ | ⟨g, cap, cur, rfl, _, _, hnc, _⟩
  ·cases A <;> simp [Builtin.append_, run_underlying Tryz.underlying47, sizeOf, typeInfo, hi, Builtin.lenOf, Builtin.firstCells, loadCells, loadCellsFrom]
  ·cases A <;> simp [Builtin.append_, run_underlying Tryz.underlying47, sizeOf, typeInfo, hi, Builtin.lenOf, Builtin.firstCells, hnc, storeCells, loadCells, loadCellsFrom]
 obtain ⟨ad, rfl, hcell⟩ := hc hm
 subst hn
 obtain ⟨v', w', hrun, ho', hg, _, _⟩ := run_append_own_at (P := Tryz.prog) w W.heap.size 47 ty 52 i0 _ 3 48 Tryz.underlying47 hi hz0 hz1 hz2 rfl (by decide) v l.length xs ho ad m.length c ys hy.len hcell hy.cell1 (by unfold maxLen; omega) (by omega) hbase
 refine ⟨v', w', hrun, ⟨xs ++ ys, by rw [List.length_append]; exact ho', hs.app hy⟩, (Below.refl _ _).grown hg hbase fun k hk => (World.ownsRow.lt ho k hk).1, kgrown hg⟩
theorem slice_fromS {A : Option Addr} {n c k : Nat} (hk : k ≤ n) (w : World) :
 (Instr.slice 47 (.slice A n c) (some (.int .i64 (k : Int))) none none).run Tryz.prog w = .ok (.slice (if c = k then A else A.map (·.add (k * 3))) (n - k) (c - k)) w := by
 obtain ⟨i0, hi, hz0, hz1, hz2⟩ := info_parts info_sig8
 simp [Instr.slice, run_underlying Tryz.underlying47, Instr.sliceBounds, run_sliceBound, sizeOf, typeInfo, hi, hz1, hk]
theorem slice_toS {A : Option Addr} {n c k : Nat} (hk : k ≤ c) (w : World) :
 (Instr.slice 47 (.slice A n c) none (some (.int .i64 (k : Int))) none).run Tryz.prog w = .ok (.slice (if c = 0 then A else A.map (·.add (0 * 3))) k c) w := by
 obtain ⟨i0, hi, hz0, hz1, hz2⟩ := info_parts info_sig8
 simp [Instr.slice, run_underlying Tryz.underlying47, Instr.sliceBounds, run_sliceBound, sizeOf, typeInfo, hi, hz1, hk]
theorem Sgs.to_ {w : World} {l : List M.Sg} {A : Option Addr} {n c k : Nat} (h : Sgs w l (.slice A n c)) (hk : k ≤ n) : Sgs w (l.take k) (.slice (if c = 0 then A else A.map (·.add (0 * 3))) k c) := by
 obtain ⟨A', n', c', e, h2, h3, h4, h5⟩ := h
 injection e with e1 e2 e3
 subst e1 e2 e3
 refine ⟨_, _, _, rfl, by rw [List.length_take]; omega, by omega, h4, fun hne => ?_⟩
 obtain ⟨ad, ha, hb, hc⟩ := h5 (by intro e; subst e; simp at hne)
 have hc0 : c ≠ 0 := by
  intro e
  apply hne
  apply List.eq_nil_of_length_eq_zero
  rw [List.length_take]; omega
 rw [if_neg hc0, ha]
 refine ⟨_, rfl, hb, fun j s hj => ?_⟩
 rw [List.getElem?_take] at hj
 split at hj
 ·have := hc j s hj
  rwa [Addr.add_add, Nat.zero_mul, Nat.zero_add]
 ·cases hj
theorem Sgs.from_ {w : World} {l : List M.Sg} {A : Option Addr} {n c k : Nat} (h : Sgs w l (.slice A n c)) (hk : k ≤ n) : Sgs w (l.drop k) (.slice (if c = k then A else A.map (·.add (k * 3))) (n - k) (c - k)) := by
 obtain ⟨A', n', c', e, h2, h3, h4, h5⟩ := h
 injection e with e1 e2 e3
 subst e1 e2 e3
 refine ⟨_, _, _, rfl, by rw [List.length_drop]; omega, by omega, by omega, fun hne => ?_⟩
 obtain ⟨ad, ha, hb, hc⟩ := h5 (by intro e; subst e; simp at hne)
 have hc0 : c ≠ k := by
  intro e
  apply hne
  apply List.eq_nil_of_length_eq_zero
  rw [List.length_drop]; omega
 rw [if_neg hc0, ha]
 refine ⟨_, rfl, by show (ad.add (k * 3)).block < _; unfold Addr.add; split <;> exact hb, fun j s hj => ?_⟩
 rw [List.getElem?_drop] at hj
 have := hc _ s hj
 rwa [Addr.add_add, ← Nat.add_mul]
namespace M
/-- What a name's place in the list asks. -/
def kPre (nm : List UInt8) (l : List Sg) (k : Nat) : Prop := ∀ (j : Nat) (x : Sg), j < k → l[j]? = some x → Go.Op.bytesLess x.name nm = true
theorem kPre_succ {nm : List UInt8} {l : List Sg} {k : Nat} {s : Sg} (h : kPre nm l k) (hs : l[k]? = some s) (hb : Go.Op.bytesLess s.name nm = true) : kPre nm l (k + 1) := by
 intro j x hj hx
 rcases Nat.lt_or_ge j k with h1 | h1
 ·exact h j x h1 hx
 ·obtain rfl : j = k := by omega
  rw [hs] at hx; injection hx with hx; subst hx; exact hb
theorem kadd_found {s x : Sg} {l : List Sg} {ok : Bool} {k : Nat} (h : kPre s.name l k) (hx : l[k]? = some x) (hb : Go.Op.bytesLess x.name s.name = false) (he : x.name = s.name) : kadd s (l, ok) = (l, ok && ksameS x s) := by
 unfold kadd
 rw [show kpl s.name (l, ok).1 = k from kpl_at s.name l k x hx h hb]
 show (match l[k]? with | some x => _ | none => _) = _
 rw [hx]
 exact if_pos he
theorem kadd_new {s x : Sg} {l : List Sg} {ok : Bool} {k : Nat} (h : kPre s.name l k) (hx : l[k]? = some x) (hb : Go.Op.bytesLess x.name s.name = false) (he : x.name ≠ s.name) : kadd s (l, ok) = (l.take k ++ [s] ++ l.drop k, ok) := by
 unfold kadd
 rw [show kpl s.name (l, ok).1 = k from kpl_at s.name l k x hx h hb]
 show (match l[k]? with | some x => _ | none => _) = _
 rw [hx]
 show (if x.name = s.name then _ else _) = _
 rw [if_neg he, List.append_assoc]
 rfl
theorem kadd_end {s : Sg} {l : List Sg} {ok : Bool} (h : kPre s.name l l.length) : kadd s (l, ok) = (l.take l.length ++ [s] ++ l.drop l.length, ok) := by
 unfold kadd
 rw [show kpl s.name (l, ok).1 = l.length from kpl_all s.name l (fun j x hx => h j x (List.getElem?_eq_some_iff.1 hx).1 hx)]
 show (match l[l.length]? with | some x => _ | none => _) = _
 rw [List.getElem?_eq_none (Nat.le_refl _), List.append_assoc]
 rfl
theorem ksigs_mk (op : Int) (g : Bool) (ls : List Nat) (nm : List UInt8) (so : Int) (ks : List Tm) (l : List Sg) (ok : Bool) : ksigs (.mk op g ls nm so ks) (l, ok) = ksigss ks (if op = 4 then kadd ⟨nm, ks.map Tm.sort, so⟩ (l, ok) else (l, ok)) := by rw [ksigs]
end M
/-- Sigs, and whether none has two, that a call gives. -/
def GivesSgs (w : World) (p : List M.Sg × Bool) (e : Ending) (w' : World) : Prop := ∃ v, e = .returned (.tuple #[v, .bool p.2]) ∧ Sgs w' p.1 v ∧ Ext w w'
end Go.Proofs.YtkhmgdfhggejaaaGreatDoor.Q

/-
  A region that draws its order, with two acts that may come in either order.
-/
namespace Go.Proofs.YtkhmgdfhggejaaaGreatDoor.Q
set_option linter.unusedSimpArgs false
set_option linter.unusedVariables false
open Go.RowKit
section
variable {P : Program} {ops : Array Oper} {Q : Exit → Act → World → Prop}
/-- First what only yields, then two acts in either order, then what is left. -/
def WF (P : Program) (ops : Array Oper) (Q : Exit → Act → World → Prop) (X : List Nat) (i j : Nat) (rest : List (Nat × Nat)) : List (Nat × Nat) → Act → World → Prop
 | [], a, w => wpOp P ops Q i (fun a1 w1 => Kept X w w1 ∧ wpOp P ops Q j (fun a2 w2 => Kept X w1 w2 ∧ WK P ops Q X rest a2 w2) a1 w1) a w ∧
  wpOp P ops Q j (fun a1 w1 => Kept X w w1 ∧ wpOp P ops Q i (fun a2 w2 => Kept X w1 w2 ∧ WK P ops Q X rest a2 w2) a1 w1) a w
 | (k, 0) :: r, a, w => ∃ o v, ops[k]? = some o ∧ YieldsIf P ops (fun w' => Kept X w w') o v a ∧ WF P ops Q X i j rest r (a.put o.dst v) w
 | (k, _ + 1) :: r, a, w => ∃ o v, ops[k]? = some o ∧ YieldsIf P ops (fun _ => True) o v a ∧ WF P ops Q X i j rest r (a.put o.dst v) w
def planF (ops : Array Oper) (late : List Nat) (i j : Nat) (rest : List (Nat × Nat)) : List (Nat × Nat) → Array Bool → Bool
 | [], l => (Region.ready .any ops l == [i, j]) && ((Region.ready .any ops (l.setIfInBounds i true) == [j]) && ((Region.ready .any ops (l.setIfInBounds j true) == [i]) && (planK ops late rest ((l.setIfInBounds i true).setIfInBounds j true) && planK ops late rest ((l.setIfInBounds j true).setIfInBounds i true))))
 | (k, m) :: r, l => (Region.ready .any ops l).contains k && (planF ops late i j rest r (l.setIfInBounds k true) && (match m with
  | 0 => Region.free .any ops l k && late.all (fun j => (cover ops 6 (predsD ops j)).contains k)
  | _ + 1 => Region.free .any ops l k))
theorem WF.sound {X : List Nat} {late : List Nat} {i j : Nat} {rest : List (Nat × Nat)} (hs : Region.noSelect ops = true) (hQ : ∀ c a d v w, Q (.panic c) (Act.put a d v) w ↔ Q (.panic c) a w) : ∀ (plan : List (Nat × Nat)) (fuel : Nat) (listed : Array Bool) (a : Act) (w : World),
 plan.length + 2 + rest.length ≤ fuel → planF ops late i j rest plan listed = true → DC ops listed → WF P ops Q X i j rest plan a w → wpK P ops Q X late fuel listed a w
 | [], f, listed, a, w, hf, hp, hdc, h => by
  simp only [planF, Bool.and_eq_true] at hp
  obtain ⟨h1, h2, h3, h4, h5⟩ := hp
  have g1 : Region.ready .any ops listed = [i, j] := by simpa using h1
  have g2 : Region.ready .any ops (listed.setIfInBounds i true) = [j] := by simpa using h2
  have g3 : Region.ready .any ops (listed.setIfInBounds j true) = [i] := by simpa using h3
  have hf' : [].length + 2 + rest.length ≤ f := hf
  obtain ⟨f, rfl⟩ : ∃ f', f = f' + 2 := ⟨f - 2, by simp at hf'; omega⟩
  have hfr : rest.length ≤ f := by simp at hf'; omega
  refine ⟨fun h0 => absurd h0 (by rw [g1]; simp), fun k hk => ?_⟩
  have hk' := hk
  rw [g1] at hk'
  simp only [List.mem_cons, List.not_mem_nil, or_false] at hk'
  rcases hk' with rfl | rfl
  ·refine wpOp_mono (fun a1 w1 hh => ⟨.inr hh.1, ⟨fun h0 => absurd h0 (by rw [g2]; simp), fun k2 hk2 => ?_⟩⟩) h.1
   have hk2' := hk2
   rw [g2] at hk2'
   obtain rfl : k2 = j := by simpa using hk2'
   exact wpOp_mono (fun a2 w2 h2 => ⟨.inr h2.1, WK.sound hs hQ rest f _ a2 w2 hfr h4 ((hdc.set_ hk).set_ hk2) h2.2⟩) hh.2
  ·refine wpOp_mono (fun a1 w1 hh => ⟨.inr hh.1, ⟨fun h0 => absurd h0 (by rw [g3]; simp), fun k2 hk2 => ?_⟩⟩) h.2
   have hk2' := hk2
   rw [g3] at hk2'
   obtain rfl : k2 = i := by simpa using hk2'
   exact wpOp_mono (fun a2 w2 h2 => ⟨.inr h2.1, WK.sound hs hQ rest f _ a2 w2 hfr h5 ((hdc.set_ hk).set_ hk2) h2.2⟩) hh.2
 | (k, m) :: r, 0, listed, a, w, hf, _, _, _ => by simp at hf
 | (k, m) :: r, f + 1, listed, a, w, hf, hp, hdc, h => by
  simp only [planF, Bool.and_eq_true] at hp
  obtain ⟨h0, h4, h5⟩ := hp
  have hri : k ∈ Region.ready .any ops listed := by simpa using h0
  have hf' : r.length + 2 + rest.length ≤ f := by simp at hf; omega
  match m, h, h5 with
  | 0, h, h5 =>
   obtain ⟨o, v, ho, hy, h⟩ := h
   simp only [Bool.and_eq_true] at h5
   exact wpK_first (wl := false) ho (Region.noSelect_spec hs) (fun c a w => (hQ c a _ _ w).1) (.inr fun j hj => by
    have := List.all_eq_true.1 h5.2 j hj
    simpa using this) f listed a w hdc (Region.free_spec ho h5.1) hri (YieldsIf.weaken hy (fun w'' h'' => h''.resolve_left (by simp))) (WF.sound hs hQ r f _ _ w hf' h4 (hdc.set_ hri) h)
  | _ + 1, h, h5 =>
   obtain ⟨o, v, ho, hy, h⟩ := h
   exact wpK_first (wl := true) ho (Region.noSelect_spec hs) (fun c a w => (hQ c a _ _ w).1) (.inl rfl) f listed a w hdc (Region.free_spec ho h5) hri (YieldsIf.weaken hy (fun w'' _ => trivial)) (WF.sound hs hQ r f _ _ w hf' h4 (hdc.set_ hri) h)
/-- The region by its plan. -/
theorem wp_region_F {id : Nat} {a : Act} {w : World} (X : List Nat) (plan : List (Nat × Nat)) (i j : Nat) (rest : List (Nat × Nat)) (h : ∀ wd, Ext w wd → WF P ops Q X i j rest plan a wd) (hm : P.follows .mixedOrders = true := by exact rfl)
 (hp : (Region.noSelect ops && (planF ops (latesK rest) i j rest plan (Array.replicate ops.size false) && decide (plan.length + 2 + rest.length ≤ ops.size))) = true := by kernel_rfl)
 (hQ : ∀ c a d v w, Q (.panic c) (Act.put a d v) w ↔ Q (.panic c) a w := by intro _ _ d _ _; cases d <;> exact Iff.rfl) : (Code.region id ops true).wp P Q a w := by
 simp only [Bool.and_eq_true, decide_eq_true_eq] at hp
 have hdc : DC ops (Array.replicate ops.size false) := by
  intro k hk
  exfalso
  rcases Nat.lt_or_ge k ops.size with h' | h'
  ·simp [h'] at hk
  ·rw [Array.getD_eq_getD_getElem?, Array.getElem?_eq_none (by simpa using h')] at hk; cases hk
 exact wp_region_any hm (wpAny_of_K _ _ _ _ (WF.sound hp.1 hQ plan ops.size _ a { w with drawn := w.drawn + 1 } hp.2.2 hp.2.1 hdc (h _ (Below.drew (Below.refl _ _)))))
variable {X : List Nat} {i j k : Nat} {r rest : List (Nat × Nat)} {a : Act} {w : World}
theorem WF.q (n : Nat) (v : Value) {o : Oper} (ho : ops[k]? = some o) (hy : ∀ w', Kept X w w' → (execOp a.eval o).run P w' = .ok (.value v) w') (h : WF P ops Q X i j rest r (a.put (some n) v) w) (hd : o.dst = some n := by exact rfl) (hw : Region.wanted o (yielded ops a.tmps) = true := by rfl) :
 WF P ops Q X i j rest ((k, 0) :: r) a w := ⟨o, v, ho, .inl ⟨hw, hy⟩, by rw [hd]; exact h⟩
theorem WF.y (n : Nat) (v : Value) (h : WF P ops Q X i j rest r (a.put (some n) v) w) {o : Oper} (ho : ops[k]? = some o := by exact rfl) (hd : o.dst = some n := by exact rfl) (hw : Region.wanted o (yielded ops a.tmps) = true := by rfl)
 (hy : ∀ w', (execOp a.eval o).run P w' = .ok (.value v) w' := by intro w'; go_simp) : WF P ops Q X i j rest ((k, 1) :: r) a w := ⟨o, v, ho, .inl ⟨hw, fun w' _ => hy w'⟩, by rw [hd]; exact h⟩
theorem wpOp_act {n : Nat} {v : Value} {w' : World} {o : Oper} {R : Act → World → Prop} (ho : ops[k]? = some o) (he : (execOp a.eval o).run P w = .ok (.value v) w') (hd : o.dst = some n) (hw : Region.wanted o (yielded ops a.tmps) = true) (h : R (a.put (some n) v) w') :
 wpOp P ops Q k R a w := by
 rw [← hd] at h
 unfold wpOp
 simp only [ho, hw, if_true]
 refine .inl ?_
 unfold Oper.wp
 rw [he]
 exact h
/-- Both orders, then the rest, told once. -/
theorem WF.fork {n m : Nat} {oi oj : Oper} {R : Value → Value → World → Prop} (hoi : ops[i]? = some oi) (hoj : ops[j]? = some oj) (hdi : oi.dst = some n) (hdj : oj.dst = some m) (hne : n ≠ m)
 (h1 : ∃ v w1, (execOp a.eval oi).run P w = .ok (.value v) w1 ∧ Kept X w w1 ∧ ∃ u w2, (execOp (a.put (some n) v).eval oj).run P w1 = .ok (.value u) w2 ∧ Kept X w1 w2 ∧ R v u w2)
 (h2 : ∃ u w1, (execOp a.eval oj).run P w = .ok (.value u) w1 ∧ Kept X w w1 ∧ ∃ v w2, (execOp (a.put (some m) u).eval oi).run P w1 = .ok (.value v) w2 ∧ Kept X w1 w2 ∧ R v u w2)
 (h : ∀ v u w', R v u w' → WK P ops Q X rest ((a.put (some n) v).put (some m) u) w')
 (hwi : oi.guard = none := by exact rfl) (hwj : oj.guard = none := by exact rfl) : WF P ops Q X i j rest [] a w := by
 have gi : ∀ b : Act, Region.wanted oi (yielded ops b.tmps) = true := fun b => by unfold Region.wanted; rw [hwi]
 have gj : ∀ b : Act, Region.wanted oj (yielded ops b.tmps) = true := fun b => by unfold Region.wanted; rw [hwj]
 obtain ⟨v, w1, e1, k1, u, w2, e2, k2, r⟩ := h1
 obtain ⟨u', w1', e1', k1', v', w2', e2', k2', r'⟩ := h2
 refine ⟨wpOp_act hoi e1 hdi (gi _) ⟨k1, wpOp_act hoj e2 hdj (gj _) ⟨k2, h _ _ _ r⟩⟩, wpOp_act hoj e1' hdj (gj _) ⟨k1', wpOp_act hoi e2' hdi (gi _) ⟨k2', ?_⟩⟩⟩
 have := h _ _ _ r'
 have hc : (a.put (some m) u').put (some n) v' = (a.put (some n) v').put (some m) u' := by
  simp only [Act.put]
  rw [Array.setIfInBounds_comm _ _ hne]
 rw [hc]
 exact this
end
end Go.Proofs.YtkhmgdfhggejaaaGreatDoor.Q

