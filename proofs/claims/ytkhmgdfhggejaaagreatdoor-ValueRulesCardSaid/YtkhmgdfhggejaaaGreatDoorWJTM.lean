/-
  Package term, words: terms in a world of some blocks alone; rows that append lays anew.
-/
import Derived.Test.YtkhmgdfhggejaaaGreatDoorWJTB
import Derived.Test.YtkhmgdfhggejaaaGreatDoorWJKD
namespace Go.Proofs.YtkhmgdfhggejaaaGreatDoor.Q
set_option linter.unusedSimpArgs false
set_option linter.unusedVariables false
open Go.RowKit
theorem LNum.sub {w w' : World} {v : Value} {ls : List Nat} (h : LNum w v ls) (e : Sub w w') : LNum w' v ls := by
 obtain ⟨A, n, c, h1, h2, h3, h4, h5, h6⟩ := h
 refine ⟨A, n, c, h1, h2, h3, h4, h5, fun hne => ?_⟩
 obtain ⟨ad, ha, hb, hc⟩ := h6 hne
 exact ⟨ad, ha, Nat.lt_of_lt_of_le hb e.1, fun i x hx => e.2 _ _ (hc i x hx)⟩
theorem TmAt.sub {w w' : World} (e : Sub w w') (t : M.Tm) : ∀ {a : Addr}, TmAt w t a → TmAt w' t a := by
 refine M.Tm.indA (P := fun t => ∀ {a : Addr}, TmAt w t a → TmAt w' t a) (fun op g ls nm s ks ih a h => ?_) t
 obtain ⟨N, nn, nc, v, h6, hn, hk⟩ := tmAt_mk.1 h
 obtain ⟨A, n, c, h1, h2, h3, h4, h5⟩ := hk.at_
 refine tmAt_mk.2 ⟨N, nn, nc, v, ⟨⟨e.2 _ _ h6.1.1, e.2 _ _ h6.1.2.1, e.2 _ _ h6.1.2.2⟩, e.2 _ _ h6.2.1, e.2 _ _ h6.2.2.1, e.2 _ _ h6.2.2.2⟩, hn.sub e, Tms.mk_ ⟨A, n, c, h1, h2, h3, h4, fun hne => ?_⟩⟩
 obtain ⟨ad, e1, e2, e3⟩ := h5 hne
 exact ⟨ad, e1, Nat.lt_of_lt_of_le e2 e.1, fun k t hk => ih k t hk (e3 k t hk)⟩
theorem Tms.sub {w w' : World} {ks : List M.Tm} {v : Value} (h : Tms w ks v) (e : Sub w w') : Tms w' ks v := by
 obtain ⟨A, n, c, h1, h2, h3, h4, h5⟩ := h.at_
 refine Tms.mk_ ⟨A, n, c, h1, h2, h3, h4, fun hne => ?_⟩
 obtain ⟨ad, e1, e2, e3⟩ := h5 hne
 exact ⟨ad, e1, Nat.lt_of_lt_of_le e2 e.1, fun k t hk => TmAt.sub e t (e3 k t hk)⟩
theorem IsTm.sub {w w' : World} {t : M.Tm} {v : Value} (h : IsTm w t v) (e : Sub w w') : IsTm w' t v := by
 obtain ⟨N, nn, nc, A, c, h1, h2, h3⟩ := h
 exact ⟨N, nn, nc, A, c, h1, h2.sub e, h3.sub e⟩
theorem own_ghost {base : Nat} {w : World} {v : Value} {l : List Nat} (h : Own base w v l) {p : Nat → Prop} [DecidablePred p] (hp : ∀ b, base ≤ b → b < w.heap.size → p b) : LNum (gp p w) v l := by
 obtain ⟨h, hs⟩ := h
 have hh := h
 obtain ⟨hl, h2⟩ := h
 rcases h2 with ⟨rfl, h0⟩ | ⟨g, cap, cur, rfl, hb, hg, hc, hm, _, _⟩
 ·have : l = [] := List.eq_nil_of_length_eq_zero h0
  subst this; exact LNum.nil _
 ·have hlt : g < w.heap.size := (Array.getElem?_eq_some_iff.1 hg).1
  refine ⟨_, _, _, rfl, rfl, hc, hm, hs, fun hn => ⟨_, rfl, by rw [gp_size]; exact hlt, fun i x hx => ?_⟩⟩
  exact gp_cell.2 ⟨by rw [addr_block]; exact hp g hb hlt, hh.cells (g := g) rfl i _ (by rw [List.getElem?_map, hx]; rfl)⟩
theorem appU_nil {w : World} {A : Option Addr} {n c : Nat} {l : List Nat} (h : LNum w (.slice A n c) l) (hlen : l.length ≤ 2000000) (ty : TypeId) :
 ∃ v' w', (Builtin.append_ #[22, 22] ty #[.slice none 0 0, .slice A n c]).run Tryz.prog w = .ok v' w' ∧ Own w.heap.size w' v' l ∧ Ext w w' := by
 obtain ⟨i0, hi, hz0, hz1, hz2⟩ := info_parts info_u32
 obtain ⟨A', n', c', e, h2, h3, h4, h5, h6⟩ := h
 injection e with e1 e2 e3
 subst e1 e2 e3
 by_cases hne : l = []
 ·subst hne
  obtain rfl : n = 0 := h2
  refine ⟨.slice none 0 0, w, ?_, Own.nil w _, Ext.refl _⟩
  cases A <;> simp [Builtin.append_, run_underlying Tryz.underlying22, sizeOf, typeInfo, hi, Builtin.lenOf, Builtin.firstCells, loadCells, loadCellsFrom]
 ·obtain ⟨ad, rfl, hb, hc⟩ := h6 hne
  subst h2
  obtain ⟨v', w', hrun, ho', hg, _, _⟩ := run_append_own_at (P := Tryz.prog) w w.heap.size 22 ty 97 i0 _ 1 4 Tryz.underlying22 hi hz0 hz1 hz2 rfl (by decide) (.slice none 0 0) 0 [] (World.ownsRow_nil w _ _ 1) ad l.length c (l.map fun x : Nat => Value.int .u32 (x : Int)) (by simp)
   (by
    intro j u hj
    rw [List.getElem?_map] at hj
    obtain ⟨x, hx, rfl⟩ := Option.map_eq_some_iff.1 hj
    exact hc j x hx)
   (by
    intro u hu
    obtain ⟨x, _, rfl⟩ := List.mem_map.1 hu
    rfl) (by unfold maxLen; omega) (by omega) (Nat.le_refl _)
  refine ⟨v', w', hrun, ⟨by rw [Nat.zero_add, List.nil_append] at ho'; exact ho', h5⟩, (Below.refl _ _).grown hg (Nat.le_refl _) fun k hk => by simp [Value.ownBlock] at hk⟩
def TmC (w : World) : List M.Tm → List Value → Prop
 | [], xs => xs = []
 | t :: r, xs => ∃ N nn nc A n c ys, xs = .int .i64 t.op :: .bool t.g :: .slice N nn nc :: str t.name :: .int .i64 t.sort :: .slice A n c :: ys ∧ LNum w (.slice N nn nc) t.ls ∧ Tms w t.kids (.slice A n c) ∧ TmC w r ys
theorem TmC.sub {w w' : World} (e : Sub w w') : ∀ {l : List M.Tm} {xs : List Value}, TmC w l xs → TmC w' l xs
 | [], _, h => h
 | t :: r, _, ⟨N, nn, nc, A, n, c, ys, h1, h2, h3, h4⟩ => ⟨N, nn, nc, A, n, c, ys, h1, h2.sub e, h3.sub e, TmC.sub e h4⟩
theorem TmC.len {w : World} : ∀ {l : List M.Tm} {xs : List Value}, TmC w l xs → xs.length = l.length * 6
 | [], _, h => by rw [show _ = [] from h]; rfl
 | t :: r, _, ⟨N, nn, nc, A, n, c, ys, h1, h2, h3, h4⟩ => by
  have := TmC.len h4
  rw [h1]; simp; omega
theorem TmC.app {w : World} : ∀ {l l' : List M.Tm} {xs ys : List Value}, TmC w l xs → TmC w l' ys → TmC w (l ++ l') (xs ++ ys)
 | [], _, _, _, h, h' => by rw [show _ = [] from h]; exact h'
 | t :: r, _, _, _, ⟨N, nn, nc, A, n, c, zs, h1, h2, h3, h4⟩, h' => ⟨N, nn, nc, A, n, c, _, by rw [h1]; rfl, h2, h3, TmC.app h4 h'⟩
theorem TmC.cell1 {w : World} : ∀ {l : List M.Tm} {xs : List Value}, TmC w l xs → ∀ u ∈ xs, u.oneCell' = true
 | [], _, h => by rw [show _ = [] from h]; intro u hu; simp at hu
 | t :: r, _, ⟨N, nn, nc, A, n, c, ys, h1, h2, h3, h4⟩ => by
  intro u hu
  rw [h1] at hu
  simp only [List.mem_cons] at hu
  rcases hu with rfl | rfl | rfl | rfl | rfl | rfl | hu
  ·rfl
  ·rfl
  ·rfl
  ·rfl
  ·rfl
  ·rfl
  ·exact TmC.cell1 h4 u hu
theorem TmC.get {w : World} : ∀ {l : List M.Tm} {xs : List Value}, TmC w l xs → ∀ (k : Nat) (t : M.Tm), l[k]? = some t → ∃ N nn nc A n c, (xs[k * 6]? = some (.int .i64 t.op) ∧ xs[k * 6 + 1]? = some (.bool t.g) ∧ xs[k * 6 + 2]? = some (.slice N nn nc) ∧ xs[k * 6 + 3]? = some (str t.name) ∧ xs[k * 6 + 4]? = some (.int .i64 t.sort) ∧ xs[k * 6 + 5]? = some (.slice A n c)) ∧ LNum w (.slice N nn nc) t.ls ∧ Tms w t.kids (.slice A n c)
 | [], _, _, _, _, hk => by simp at hk
 | t :: r, _, ⟨N, nn, nc, A, n, c, ys, h1, h2, h3, h4⟩, 0, s, hk => by
  simp at hk
  subst hk h1
  exact ⟨N, nn, nc, A, n, c, ⟨rfl, rfl, rfl, rfl, rfl, rfl⟩, h2, h3⟩
 | t :: r, _, ⟨N, nn, nc, A, n, c, ys, h1, h2, h3, h4⟩, k + 1, s, hk => by
  obtain ⟨N', nn', nc', A', n', c', ⟨g0, g1, g2, g3, g4, g5⟩, g6⟩ := TmC.get h4 k s (by simpa using hk)
  subst h1
  refine ⟨N', nn', nc', A', n', c', ⟨?_, ?_, ?_, ?_, ?_, ?_⟩, g6⟩
  ·rw [show (k + 1) * 6 = k * 6 + 1 + 1 + 1 + 1 + 1 + 1 by omega]; simpa using g0
  ·rw [show (k + 1) * 6 + 1 = k * 6 + 1 + 1 + 1 + 1 + 1 + 1 + 1 by omega]; simpa using g1
  ·rw [show (k + 1) * 6 + 2 = k * 6 + 2 + 1 + 1 + 1 + 1 + 1 + 1 by omega]; simpa using g2
  ·rw [show (k + 1) * 6 + 3 = k * 6 + 3 + 1 + 1 + 1 + 1 + 1 + 1 by omega]; simpa using g3
  ·rw [show (k + 1) * 6 + 4 = k * 6 + 4 + 1 + 1 + 1 + 1 + 1 + 1 by omega]; simpa using g4
  ·rw [show (k + 1) * 6 + 5 = k * 6 + 5 + 1 + 1 + 1 + 1 + 1 + 1 by omega]; simpa using g5
theorem TmC.of {w : World} {ad : Addr} : ∀ (l : List M.Tm) (j : Nat), (∀ (k : Nat) (t : M.Tm), l[k]? = some t → TmAt w t (ad.add ((j + k) * 6))) → ∃ xs, TmC w l xs ∧ ∀ (i : Nat) (u : Value), xs[i]? = some u → w.cell? (ad.add (j * 6 + i)) = some u
 | [], j, _ => ⟨[], rfl, fun i u h => by simp at h⟩
 | ⟨op, g, ls, nm, so, ks⟩ :: r, j, h => by
  obtain ⟨ys, hy, hc⟩ := TmC.of (ad := ad) r (j + 1) (fun k t hk => by
   have := h (k + 1) t (by simpa using hk)
   rwa [show (j + (k + 1)) * 6 = (j + 1 + k) * 6 by omega] at this)
  obtain ⟨N, nn, nc, v, ⟨⟨c0, c1, c2⟩, c3, c4, c5⟩, hn, hk⟩ := tmAt_mk.1 (h 0 _ rfl)
  obtain ⟨B, d, rfl⟩ := hk.shape
  rw [Addr.add_add] at c1 c2 c3 c4 c5
  refine ⟨_, ⟨N, nn, nc, B, ks.length, d, ys, rfl, hn, hk, hy⟩, fun i u hi => ?_⟩
  match i, hi with
  | 0, hi => simp at hi; subst hi; exact c0
  | 1, hi => simp at hi; subst hi; exact c1
  | 2, hi => simp at hi; subst hi; exact c2
  | 3, hi => simp at hi; subst hi; exact c3
  | 4, hi => simp at hi; subst hi; exact c4
  | 5, hi => simp at hi; subst hi; exact c5
  | i + 6, hi =>
   have := hc i u (by simpa using hi)
   rwa [show (j + 1) * 6 + i = j * 6 + (i + 6) by omega] at this
def OwnTm (B : Nat) (V w : World) (v : Value) (l : List M.Tm) : Prop := ∃ xs, w.ownsRow B 27 6 v l.length xs ∧ TmC V l xs
theorem OwnTm.nil (B : Nat) (V w : World) : OwnTm B V w (.slice none 0 0) [] := ⟨[], World.ownsRow_nil w _ _ 6, rfl⟩
theorem OwnTm.frame {B : Nat} {V w w' : World} {v : Value} {l : List M.Tm} (h : OwnTm B V w v l) (hb : ∀ b, B ≤ b → b < w.heap.size → w'.heap[b]? = w.heap[b]?) : OwnTm B V w' v l := by
 obtain ⟨xs, h1, h2⟩ := h
 exact ⟨xs, kframe h1 hb, h2⟩
theorem OwnTm.up {B : Nat} {V w w' : World} {v : Value} {l : List M.Tm} (h : OwnTm B V w v l) (e : Ext w w') : OwnTm B V w' v l := h.frame fun b _ hb => e.block b hb
theorem OwnTm.world {B : Nat} {V V' w : World} {v : Value} {l : List M.Tm} (h : OwnTm B V w v l) (e : Sub V V') : OwnTm B V' w v l := by
 obtain ⟨xs, h1, h2⟩ := h
 exact ⟨xs, h1, h2.sub e⟩
theorem OwnTm.base {B : Nat} {V w : World} {v : Value} {l : List M.Tm} (h : OwnTm B V w v l) : ∀ b, b ∈ v.ownBlock.toList → B ≤ b := by
 obtain ⟨xs, h1, _⟩ := h
 exact fun b hb => kown_base h1 hb
theorem OwnTm.shape {B : Nat} {V w : World} {v : Value} {l : List M.Tm} (h : OwnTm B V w v l) : ∃ A c, v = .slice A l.length c ∧ l.length ≤ c ∧ c ≤ maxLen := by
 obtain ⟨xs, h1, _⟩ := h
 exact kshape h1
theorem OwnTm.tms {B : Nat} {V w : World} {v : Value} {l : List M.Tm} (h : OwnTm B V w v l) (e : Sub V w) : Tms w l v := by
 obtain ⟨xs, h1, h2⟩ := h
 have hh := h1
 obtain ⟨hl, h3⟩ := h1
 rcases h3 with ⟨rfl, h0⟩ | ⟨b, cap, cur, rfl, hb, hc, hc1, hm, _, _⟩
 ·obtain rfl : l = [] := List.eq_nil_of_length_eq_zero h0
  exact Tms.nil w
 ·refine Tms.mk_ ⟨_, _, _, rfl, rfl, hc1, hm, fun hn => ⟨_, rfl, (Array.getElem?_eq_some_iff.1 hc).1, fun k t hk => ?_⟩⟩
  obtain ⟨N, nn, nc, A, n, c, ⟨g0, g1, g2, g3, g4, g5⟩, g6, g7⟩ := h2.get k t hk
  have cell : ∀ {j : Nat} {u : Value}, xs[k * 6 + j]? = some u → w.cell? (((⟨b, 0, none⟩ : Addr).add (k * 6)).add j) = some u := fun hj => by
   rw [Addr.add_add]; exact World.ownsRow.cells hh (g := b) rfl _ _ hj
  obtain ⟨op, g, ls, nm, so, ks⟩ := t
  exact tmAt_mk.2 ⟨N, nn, nc, _, ⟨⟨World.ownsRow.cells hh (g := b) rfl _ _ g0, cell g1, cell g2⟩, cell g3, cell g4, cell g5⟩, g6.sub e, g7.sub e⟩
def TmSrc (V w : World) (l : List M.Tm) (A : Option Addr) (n : Nat) : Prop := n = l.length ∧ ∃ xs, TmC V l xs ∧ (l ≠ [] → ∃ ad, A = some ad ∧ ∀ (i : Nat) (u : Value), xs[i]? = some u → w.cell? (ad.add i) = some u)
theorem Tms.src {V w : World} {l : List M.Tm} {A : Option Addr} {n c : Nat} (h : Tms V l (.slice A n c)) (e : Sub V w) : TmSrc V w l A n := by
 obtain ⟨A', n', c', e', h2, h3, h4, h5⟩ := h.at_
 injection e' with e1 e2 e3
 subst e1 e2 e3
 refine ⟨h2, ?_⟩
 by_cases hne : l = []
 ·subst hne
  exact ⟨[], rfl, fun h => absurd rfl h⟩
 obtain ⟨ad, ha, hb, hc⟩ := h5 hne
 obtain ⟨xs, hx, hcell⟩ := TmC.of (ad := ad) l 0 (fun k s hk => by rw [Nat.zero_add]; exact hc k s hk)
 exact ⟨xs, hx, fun _ => ⟨ad, ha, fun i u hi => e.2 _ _ (by have := hcell i u hi; rwa [Nat.zero_mul, Nat.zero_add] at this)⟩⟩
theorem tmSrc_one {V w : World} {op : Int} {g : Bool} {ls : List Nat} {nm : List UInt8} {so : Int} {ks : List M.Tm} {k nn nc n c : Nat} {N A : Option Addr} {T : TypeId} (h : Box w k #[.int .i64 op, .bool g, .slice N nn nc, str nm, .int .i64 so, .slice A n c] T) (hn : LNum V (.slice N nn nc) ls) (hk : Tms V ks (.slice A n c)) : TmSrc V w [.mk op g ls nm so ks] (some ⟨k, 0, none⟩) 1 := by
 refine ⟨rfl, _, ⟨N, nn, nc, A, n, c, [], rfl, hn, hk, rfl⟩, fun _ => ⟨_, rfl, fun i u hu => ?_⟩⟩
 rw [Addr.add_lit, Nat.zero_add]
 match i, hu with
 | 0, hu => simp [M.Tm.op] at hu; subst hu; exact h.k 0
 | 1, hu => simp [M.Tm.g] at hu; subst hu; exact h.k 1
 | 2, hu => simp at hu; subst hu; exact h.k 2
 | 3, hu => simp [M.Tm.name] at hu; subst hu; exact h.k 3
 | 4, hu => simp [M.Tm.sort] at hu; subst hu; exact h.k 4
 | 5, hu => simp at hu; subst hu; exact h.k 5
theorem appTm_run {B : Nat} {V w : World} {v : Value} {l m : List M.Tm} {A : Option Addr} {n c : Nat} (h : OwnTm B V w v l) (hx : TmSrc V w m A n) (hlen : l.length + m.length ≤ 1000000) (hbase : B ≤ w.heap.size) (ty : TypeId) :
 ∃ v' w', (Builtin.append_ #[25, 25] ty #[v, .slice A n c]).run Tryz.prog w = .ok v' w' ∧ OwnTm B V w' v' (l ++ m) ∧ Below B w w' ∧ Kept v.ownBlock.toList w w' := by
 obtain ⟨i0, hi, hz0, hz1, hz2⟩ := info_parts info_tm8
 obtain ⟨xs, ho, hs⟩ := h
 obtain ⟨hn, ys, hy, hc⟩ := hx
 by_cases hm : m = []
 ·subst hm
  obtain rfl : n = 0 := hn
  refine ⟨v, w, ?_, ⟨xs, by rw [List.append_nil]; exact ho, by rw [List.append_nil]; exact hs⟩, Below.refl _ _, Kept.refl _ _⟩
  rcases ho.2 with ⟨rfl, _⟩ | ⟨g, cap, cur, rfl, _, _, hnc, _⟩
  ·cases A <;> simp [Builtin.append_, run_underlying Tryz.underlying25, sizeOf, typeInfo, hi, Builtin.lenOf, Builtin.firstCells, loadCells, loadCellsFrom]
  ·cases A <;> simp [Builtin.append_, run_underlying Tryz.underlying25, sizeOf, typeInfo, hi, Builtin.lenOf, Builtin.firstCells, hnc, storeCells, loadCells, loadCellsFrom]
 obtain ⟨ad, rfl, hcell⟩ := hc hm
 subst hn
 obtain ⟨v', w', hrun, ho', hg, _, _⟩ := run_append_own_at (P := Tryz.prog) w B 25 ty 27 i0 _ 6 88 Tryz.underlying25 hi hz0 hz1 hz2 rfl (by decide) v l.length xs ho ad m.length c ys hy.len hcell hy.cell1 (by unfold maxLen; omega) (by omega) hbase
 refine ⟨v', w', hrun, ⟨xs ++ ys, by rw [List.length_append]; exact ho', hs.app hy⟩, (Below.refl _ _).grown hg hbase fun k hk => (World.ownsRow.lt ho k hk).1, kgrown hg⟩
def M.bare (t : M.Tm) : Prop := t.ls = [] ∧ t.kids = []
theorem TmC.any {V V' : World} : ∀ {l : List M.Tm} {xs : List Value}, (∀ t ∈ l, M.bare t) → TmC V l xs → TmC V' l xs
 | [], _, _, h => h
 | t :: r, _, hb, ⟨N, nn, nc, A, n, c, ys, h1, h2, h3, h4⟩ => by
  obtain ⟨b1, b2⟩ := hb t (List.mem_cons_self ..)
  rw [b1] at h2
  rw [b2] at h3
  refine ⟨N, nn, nc, A, n, c, ys, h1, ?_, ?_, TmC.any (fun u hu => hb u (List.mem_cons_of_mem _ hu)) h4⟩
  ·rw [b1]
   obtain ⟨A', n', c', g1, g2, g3, g4, g5, g6⟩ := h2
   exact ⟨A', n', c', g1, g2, g3, g4, g5, fun h => absurd rfl h⟩
  ·rw [b2]
   obtain ⟨A', n', c', g1, g2, g3, g4, g5⟩ := h3
   exact ⟨A', n', c', g1, g2, g3, g4, fun h => absurd rfl h⟩
theorem OwnTm.any {B : Nat} {V V' w : World} {v : Value} {l : List M.Tm} (h : OwnTm B V w v l) (hb : ∀ t ∈ l, M.bare t) : OwnTm B V' w v l := by
 obtain ⟨xs, h1, h2⟩ := h
 exact ⟨xs, h1, h2.any hb⟩
end Go.Proofs.YtkhmgdfhggejaaaGreatDoor.Q
