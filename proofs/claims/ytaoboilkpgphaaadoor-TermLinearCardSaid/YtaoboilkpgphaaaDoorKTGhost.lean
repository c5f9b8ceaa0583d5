/-
  Package term, words: terms in a world of some blocks alone; rows that append lays anew.
-/
import Derived.Test.YtaoboilkpgphaaaDoorQGhost
import Derived.Test.YtaoboilkpgphaaaDoorKTIs
namespace Go.Proofs.YtaoboilkpgphaaaDoor.Q
set_option linter.unusedSimpArgs false
set_option linter.unusedVariables false
open Go.RowKit

theorem LNum.sub {w w' : World} {v : Value} {ls : List Nat} (h : LNum w v ls) (e : Sub w w') : LNum w' v ls := by
 obtain ⟨A, n, c, h1, h2, h3, h4, h5, h6⟩ := h
 refine ⟨A, n, c, h1, h2, h3, h4, h5, fun hne => ?_⟩
 obtain ⟨ad, ha, hb, hc⟩ := h6 hne
 exact ⟨ad, ha, Nat.lt_of_lt_of_le hb e.1, fun i x hx => e.2 _ _ (hc i x hx)⟩
theorem TmAt.sub {w w' : World} (e : Sub w w') (t : M.Tm) : ∀ {a : Addr}, TmAt w t a → TmAt w' t a := by
 refine M.Tm.indA (P := fun t => ∀ {a : Addr}, TmAt w t a → TmAt w' t a) (fun op g ls nm s ks ih a h => ?_) t
 obtain ⟨N, nn, nc, v, h6, hn, hk⟩ := tmAt_mk.1 h
 obtain ⟨A, n, c, h1, h2, h3, h4, h5⟩ := hk.at_
 refine tmAt_mk.2 ⟨N, nn, nc, v, ⟨⟨e.2 _ _ h6.1.1, e.2 _ _ h6.1.2.1, e.2 _ _ h6.1.2.2⟩, e.2 _ _ h6.2.1, e.2 _ _ h6.2.2.1, e.2 _ _ h6.2.2.2⟩, hn.sub e, Tms.mk_ ⟨A, n, c, h1, h2, h3, h4, fun hne => ?_⟩⟩
 obtain ⟨ad, e1, e2, e3⟩ := h5 hne
 exact ⟨ad, e1, Nat.lt_of_lt_of_le e2 e.1, fun k t hk => ih k t hk (e3 k t hk)⟩
theorem Tms.sub {w w' : World} {ks : List M.Tm} {v : Value} (h : Tms w ks v) (e : Sub w w') : Tms w' ks v := by
 obtain ⟨A, n, c, h1, h2, h3, h4, h5⟩ := h.at_
 refine Tms.mk_ ⟨A, n, c, h1, h2, h3, h4, fun hne => ?_⟩
 obtain ⟨ad, e1, e2, e3⟩ := h5 hne
 exact ⟨ad, e1, Nat.lt_of_lt_of_le e2 e.1, fun k t hk => TmAt.sub e t (e3 k t hk)⟩
theorem IsTm.sub {w w' : World} {t : M.Tm} {v : Value} (h : IsTm w t v) (e : Sub w w') : IsTm w' t v := by
 obtain ⟨N, nn, nc, A, c, h1, h2, h3⟩ := h
 exact ⟨N, nn, nc, A, c, h1, h2.sub e, h3.sub e⟩
/-- A row of limbs of the call's own lies in new blocks. -/
theorem own_ghost {base : Nat} {w : World} {v : Value} {l : List Nat} (h : Own base w v l) {p : Nat → Prop} [DecidablePred p] (hp : ∀ b, base ≤ b → b < w.heap.size → p b) : LNum (gp p w) v l := by
 obtain ⟨h, hs⟩ := h
 have hh := h
 obtain ⟨hl, h2⟩ := h
 rcases h2 with ⟨rfl, h0⟩ | ⟨g, cap, cur, rfl, hb, hg, hc, hm, _, _⟩
 ·have : l = [] := List.eq_nil_of_length_eq_zero h0
  subst this; exact LNum.nil _
 ·have hlt : g < w.heap.size := (Array.getElem?_eq_some_iff.1 hg).1
  refine ⟨_, _, _, rfl, rfl, hc, hm, hs, fun hn => ⟨_, rfl, by rw [gp_size]; exact hlt, fun i x hx => ?_⟩⟩
  exact gp_cell.2 ⟨by rw [addr_block]; exact hp g hb hlt, hh.cells (g := g) rfl i _ (by rw [List.getElem?_map, hx]; rfl)⟩
/-- 'append([]uint32(nil), l...)'. -/
theorem appU_nil {w : World} {A : Option Addr} {n c : Nat} {l : List Nat} (h : LNum w (.slice A n c) l) (hlen : l.length ≤ 1000000) (ty : TypeId) :
 ∃ v' w', (Builtin.append_ #[22, 22] ty #[.slice none 0 0, .slice A n c]).run Tryd.prog w = .ok v' w' ∧ Own w.heap.size w' v' l ∧ Ext w w' := by
 obtain ⟨i0, hi, hz0, hz1, hz2⟩ := info_parts info_u32
 obtain ⟨A', n', c', e, h2, h3, h4, h5, h6⟩ := h
 injection e with e1 e2 e3
 subst e1 e2 e3
 by_cases hne : l = []
 ·subst hne
  obtain rfl : n = 0 := h2
  refine ⟨.slice none 0 0, w, ?_, Own.nil w _, Ext.refl _⟩
  cases A <;> simp [Builtin.append_, run_underlying Tryd.underlying22, sizeOf, typeInfo, hi, Builtin.lenOf, Builtin.firstCells, loadCells, loadCellsFrom]
 ·obtain ⟨ad, rfl, hb, hc⟩ := h6 hne
  subst h2
  obtain ⟨v', w', hrun, ho', hg, _, _⟩ := run_append_own_at (P := Tryd.prog) w w.heap.size 22 ty 91 i0 _ 1 4 Tryd.underlying22 hi hz0 hz1 hz2 rfl (by decide) (.slice none 0 0) 0 [] (World.ownsRow_nil w _ _ 1) ad l.length c (l.map fun x : Nat => Value.int .u32 (x : Int)) (by simp)
   (by
    intro j u hj
    rw [List.getElem?_map] at hj
    obtain ⟨x, hx, rfl⟩ := Option.map_eq_some_iff.1 hj
    exact hc j x hx)
   (by
    intro u hu
    obtain ⟨x, _, rfl⟩ := List.mem_map.1 hu
    rfl) (by unfold maxLen; omega) (by omega) (Nat.le_refl _)
  refine ⟨v', w', hrun, ⟨by rw [Nat.zero_add, List.nil_append] at ho'; exact ho', h5⟩, (Below.refl _ _).grown hg (Nat.le_refl _) fun k hk => by simp [Value.ownBlock] at hk⟩
/-- The cells of terms that lie side by side. -/
theorem tms_cells {w : World} {ad : Addr} : ∀ (l : List M.Tm) (j : Nat), (∀ (k : Nat) (t : M.Tm), l[k]? = some t → TmAt w t (ad.add ((j + k) * 6))) → ∃ xs : List Value, xs.length = l.length * 6 ∧ (∀ u ∈ xs, u.oneCell' = true) ∧ ∀ (i : Nat) (u : Value), xs[i]? = some u → w.cell? (ad.add (j * 6 + i)) = some u
 | [], j, _ => ⟨[], rfl, by simp, fun i u h => by simp at h⟩
 | ⟨op, g, ls, nm, so, ks⟩ :: r, j, h => by
  obtain ⟨ys, hy, h1, hc⟩ := tms_cells (ad := ad) r (j + 1) (fun k t hk => by
   have := h (k + 1) t (by simpa using hk)
   rwa [show (j + (k + 1)) * 6 = (j + 1 + k) * 6 by omega] at this)
  obtain ⟨N, nn, nc, v, ⟨⟨c0, c1, c2⟩, c3, c4, c5⟩, -, hk⟩ := tmAt_mk.1 (h 0 _ rfl)
  obtain ⟨B, d, rfl⟩ := hk.shape
  rw [Addr.add_add] at c1 c2 c3 c4 c5
  refine ⟨.int .i64 op :: .bool g :: .slice N nn nc :: str nm :: .int .i64 so :: .slice B ks.length d :: ys, by simp [hy]; omega, ?_, fun i u hi => ?_⟩
  ·intro u hu
   simp only [List.mem_cons] at hu
   rcases hu with rfl | rfl | rfl | rfl | rfl | rfl | hu
   ·rfl
   ·rfl
   ·rfl
   ·rfl
   ·rfl
   ·rfl
   ·exact h1 u hu
  ·match i, hi with
   | 0, hi => simp at hi; subst hi; exact c0
   | 1, hi => simp at hi; subst hi; exact c1
   | 2, hi => simp at hi; subst hi; exact c2
   | 3, hi => simp at hi; subst hi; exact c3
   | 4, hi => simp at hi; subst hi; exact c4
   | 5, hi => simp at hi; subst hi; exact c5
   | i + 6, hi =>
    have := hc i u (by simpa using hi)
    rwa [show (j + 1) * 6 + i = j * 6 + (i + 6) by omega] at this
/-- 'append([]api.Term(nil), l...)': a new row, or none. -/
theorem appT_nil {w : World} {A : Option Addr} {n c : Nat} {l : List M.Tm} (h : Tms w l (.slice A n c)) (hlen : l.length ≤ 1000000) (ty : TypeId) :
 ∃ A' c' w', (Builtin.append_ #[25, 25] ty #[.slice none 0 0, .slice A n c]).run Tryd.prog w = .ok (.slice A' n c') w' ∧ Ext w w' ∧ n ≤ c' ∧ c' ≤ maxLen ∧
  (n ≠ 0 → ∃ g cur, A' = some ⟨g, 0, none⟩ ∧ w.heap.size ≤ g ∧ w'.heap[g]? = some (.cells cur 27 (0, 0)) ∧ n * 6 ≤ cur.size) := by
 obtain ⟨i0, hi, hz0, hz1, hz2⟩ := info_parts info_tm8
 obtain ⟨A', n', c', e, h2, h3, h4, h5⟩ := h.at_
 injection e with e1 e2 e3
 subst e1 e2 e3
 by_cases hne : l = []
 ·subst hne
  obtain rfl : n = 0 := h2
  refine ⟨none, 0, w, ?_, Ext.refl _, Nat.le_refl _, Nat.zero_le _, fun h => absurd rfl h⟩
  cases A <;> simp [Builtin.append_, run_underlying Tryd.underlying25, sizeOf, typeInfo, hi, Builtin.lenOf, Builtin.firstCells, loadCells, loadCellsFrom]
 ·obtain ⟨ad, rfl, hb, hc⟩ := h5 hne
  subst h2
  have hl0 : l.length ≠ 0 := fun e => hne (List.eq_nil_of_length_eq_zero e)
  obtain ⟨xs, hx1, hx2, hx3⟩ := tms_cells (w := w) (ad := ad) l 0 (fun k t hk => by rw [Nat.zero_add]; exact hc k t hk)
  obtain ⟨v', w', hrun, ho', hg, _, _⟩ := run_append_own_at (P := Tryd.prog) w w.heap.size 25 ty 27 i0 _ 6 88 Tryd.underlying25 hi hz0 hz1 hz2 rfl (by decide) (.slice none 0 0) 0 [] (World.ownsRow_nil w _ _ 6) ad l.length c xs hx1
   (by
    intro j u hj
    have := hx3 j u hj
    rwa [Nat.zero_mul, Nat.zero_add] at this) hx2 (by unfold maxLen; omega) (by omega) (Nat.le_refl _)
  rw [Nat.zero_add, List.nil_append] at ho'
  have he : Ext w w' := (Below.refl _ _).grown hg (Nat.le_refl _) fun k hk => by simp [Value.ownBlock] at hk
  rcases ho'.2 with ⟨_, h0⟩ | ⟨g, cap, cur, rfl, hb', hg', hn', hm', hsz, _⟩
  ·exact absurd h0 hl0
  ·exact ⟨_, cap, w', hrun, he, hn', hm', fun _ => ⟨g, cur, rfl, hb', hg', by rw [hsz]; exact Nat.mul_le_mul_right _ hn'⟩⟩
end Go.Proofs.YtaoboilkpgphaaaDoor.Q
