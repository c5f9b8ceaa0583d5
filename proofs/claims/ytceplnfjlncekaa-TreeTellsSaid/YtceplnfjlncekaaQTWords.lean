/-
  Layer 9, words: trees in memory.
-/
import Derived.Test.YtceplnfjlncekaaQTMath
import Derived.Test.YtceplnfjlncekaaQLexD
namespace Go.Proofs.Ytceplnfjlncekaa
set_option linter.unusedSimpArgs false
set_option linter.unusedVariables false
open Go.RowKit

/-- A tree's value. -/
abbrev tv (l : Bool) (tk : M.Tok) (A : Option Addr) (n c : Nat) : Value := .agg #[.bool l, .int .i64 tk.1, str tk.2, .slice A n c]
/-- Its four cells. -/
def Cell4 (w : World) (a : Addr) (l : Bool) (tk : M.Tok) (v : Value) : Prop :=
 w.cell? a = some (.bool l) ∧ w.cell? (a.add 1) = some (.int .i64 tk.1) ∧ w.cell? (a.add 2) = some (str tk.2) ∧ w.cell? (a.add 3) = some v
mutual
/-- Trees, one at every fourth place from k on; a tree at a place. -/
def KidsAt (w : World) : List M.T → Addr → Nat → Prop
 | [], _, _ => True
 | t :: r, ad, k => InAt w t (ad.add (k * 4)) ∧ KidsAt w r ad (k + 1)
def InAt (w : World) : M.T → Addr → Prop
 | .mk l tk ks, a => ∃ A n c, Cell4 w a l tk (.slice A n c) ∧ n = ks.length ∧ n ≤ c ∧ c ≤ maxLen ∧ (ks ≠ [] → ∃ ad, A = some ad ∧ ad.block < w.heap.size ∧ KidsAt w ks ad 0)
end
/-- A list of trees in memory. -/
def Kids (w : World) (ks : List M.T) (v : Value) : Prop := ∃ A n c, v = .slice A n c ∧ n = ks.length ∧ n ≤ c ∧ c ≤ maxLen ∧ (ks ≠ [] → ∃ ad, A = some ad ∧ ad.block < w.heap.size ∧ KidsAt w ks ad 0)
theorem inAt_mk {w : World} {l : Bool} {tk : M.Tok} {ks : List M.T} {a : Addr} : InAt w (.mk l tk ks) a ↔ ∃ v, Cell4 w a l tk v ∧ Kids w ks v := by
 constructor
 ·intro h
  rw [InAt] at h
  obtain ⟨A, n, c, h1, h2⟩ := h
  exact ⟨_, h1, A, n, c, rfl, h2⟩
 ·rintro ⟨v, h1, A, n, c, rfl, h2⟩
  rw [InAt]
  exact ⟨A, n, c, h1, h2⟩
theorem kidsAt_get {w : World} {ad : Addr} : ∀ {ks : List M.T} {j k : Nat} {t : M.T}, KidsAt w ks ad j → ks[k]? = some t → InAt w t (ad.add ((j + k) * 4))
 | [], _, _, _, _, h => by simp at h
 | x :: r, j, 0, t, h, e => by
  simp at e; subst e
  rw [KidsAt] at h
  exact h.1
 | x :: r, j, k + 1, t, h, e => by
  rw [KidsAt] at h
  have := kidsAt_get h.2 (k := k) (t := t) (by simpa using e)
  rw [show j + (k + 1) = j + 1 + k by omega]
  exact this
theorem kidsAt_of {w : World} {ad : Addr} : ∀ {ks : List M.T} {j : Nat}, (∀ k t, ks[k]? = some t → InAt w t (ad.add ((j + k) * 4))) → KidsAt w ks ad j
 | [], _, _ => by rw [KidsAt]; trivial
 | x :: r, j, h => by
  rw [KidsAt]
  refine ⟨h 0 x rfl, kidsAt_of fun k t e => ?_⟩
  have := h (k + 1) t (by simpa using e)
  rw [show j + 1 + k = j + (k + 1) by omega]
  exact this
/-- Kids by their places. -/
theorem Kids.at_ {w : World} {ks : List M.T} {v : Value} (h : Kids w ks v) : ∃ A n c, v = .slice A n c ∧ n = ks.length ∧ n ≤ c ∧ c ≤ maxLen ∧ (ks ≠ [] → ∃ ad, A = some ad ∧ ad.block < w.heap.size ∧ ∀ k t, ks[k]? = some t → InAt w t (ad.add (k * 4))) := by
 obtain ⟨A, n, c, h1, h2, h3, h4, h5⟩ := h
 refine ⟨A, n, c, h1, h2, h3, h4, fun hne => ?_⟩
 obtain ⟨ad, e1, e2, e3⟩ := h5 hne
 exact ⟨ad, e1, e2, fun k t hk => by have := kidsAt_get e3 hk; rwa [Nat.zero_add] at this⟩
theorem Kids.mk_ {w : World} {ks : List M.T} {v : Value} (h : ∃ A n c, v = .slice A n c ∧ n = ks.length ∧ n ≤ c ∧ c ≤ maxLen ∧ (ks ≠ [] → ∃ ad, A = some ad ∧ ad.block < w.heap.size ∧ ∀ k t, ks[k]? = some t → InAt w t (ad.add (k * 4)))) : Kids w ks v := by
 obtain ⟨A, n, c, h1, h2, h3, h4, h5⟩ := h
 refine ⟨A, n, c, h1, h2, h3, h4, fun hne => ?_⟩
 obtain ⟨ad, e1, e2, e3⟩ := h5 hne
 exact ⟨ad, e1, e2, kidsAt_of fun k t hk => by rw [Nat.zero_add]; exact e3 k t hk⟩
theorem InAt.up {w w' : World} (e : Ext w w') (t : M.T) : ∀ {a : Addr}, InAt w t a → InAt w' t a := by
 refine M.T.indA (P := fun t => ∀ {a : Addr}, InAt w t a → InAt w' t a) (fun l tk ks ih a h => ?_) t
 obtain ⟨v, ⟨c0, c1, c2, c3⟩, hk⟩ := inAt_mk.1 h
 obtain ⟨A, n, c, h1, h2, h3, h4, h5⟩ := hk.at_
 refine inAt_mk.2 ⟨v, ⟨e.cell c0, e.cell c1, e.cell c2, e.cell c3⟩, Kids.mk_ ⟨A, n, c, h1, h2, h3, h4, fun hne => ?_⟩⟩
 obtain ⟨ad, e1, e2, e3⟩ := h5 hne
 exact ⟨ad, e1, Nat.lt_of_lt_of_le e2 e.size, fun k t hk => ih k t hk (e3 k t hk)⟩
theorem Kids.up {w w' : World} {ks : List M.T} {v : Value} (h : Kids w ks v) (e : Ext w w') : Kids w' ks v := by
 obtain ⟨A, n, c, h1, h2, h3, h4, h5⟩ := h.at_
 refine Kids.mk_ ⟨A, n, c, h1, h2, h3, h4, fun hne => ?_⟩
 obtain ⟨ad, e1, e2, e3⟩ := h5 hne
 exact ⟨ad, e1, Nat.lt_of_lt_of_le e2 e.size, fun k t hk => InAt.up e t (e3 k t hk)⟩
/-- A tree's value in memory. -/
def IsT (w : World) (t : M.T) (v : Value) : Prop := ∃ A c, v = tv t.list t.tok A t.kids.length c ∧ Kids w t.kids (.slice A t.kids.length c)
theorem IsT.up {w w' : World} {t : M.T} {v : Value} (h : IsT w t v) (e : Ext w w') : IsT w' t v := by
 obtain ⟨A, c, h1, h2⟩ := h
 exact ⟨A, c, h1, h2.up e⟩
theorem Kids.nil (w : World) : Kids w [] (.slice none 0 0) := ⟨none, 0, 0, rfl, rfl, Nat.le_refl _, Nat.zero_le _, fun h => absurd rfl h⟩
theorem Kids.shape {w : World} {ks : List M.T} {v : Value} (h : Kids w ks v) : ∃ A c, v = .slice A ks.length c := by
 obtain ⟨A, n, c, h1, h2, _⟩ := h
 exact ⟨A, c, by rw [h1, h2]⟩
theorem Kids.le {w : World} {A : Option Addr} {n c : Nat} {ks : List M.T} (h : Kids w ks (.slice A n c)) : n = ks.length ∧ n ≤ c ∧ c ≤ maxLen := by
 obtain ⟨A', n', c', e, h2, h3, h4, _⟩ := h
 injection e with e1 e2 e3
 subst e1 e2 e3
 exact ⟨h2, h3, h4⟩
/-- The k-th of them: its cells, its kids. -/
theorem Kids.get {w : World} {A : Option Addr} {n c : Nat} {ks : List M.T} (h : Kids w ks (.slice A n c)) {k : Nat} (hk : k < n) :
 ∃ ad t B d, A = some ad ∧ ks[k]? = some t ∧ w.cell? (ad.add (k * 4)) = some (.bool t.list) ∧ w.cell? ⟨(ad.add (k * 4)).block, (ad.add (k * 4)).off + 1, none⟩ = some (.int .i64 t.tok.1)
  ∧ w.cell? ⟨(ad.add (k * 4)).block, (ad.add (k * 4)).off + 2, none⟩ = some (str t.tok.2) ∧ w.cell? ⟨(ad.add (k * 4)).block, (ad.add (k * 4)).off + 3, none⟩ = some (.slice B t.kids.length d)
  ∧ IsT w t (tv t.list t.tok B t.kids.length d) := by
 obtain ⟨A', n', c', e, h2, h3, h4, h5⟩ := h.at_
 injection e with e1 e2 e3
 subst e1 e2 e3
 obtain ⟨ad, ha, hb, hc⟩ := h5 (by intro e; subst e; simp at h2; omega)
 obtain ⟨⟨l, tk, kk⟩, hk'⟩ : ∃ t, ks[k]? = some t := ⟨_, List.getElem?_eq_getElem (by omega)⟩
 have hin := hc k _ hk'
 obtain ⟨v, ⟨c0, c1, c2, c3⟩, hkd⟩ := inAt_mk.1 hin
 obtain ⟨B, d, rfl⟩ := hkd.shape
 exact ⟨ad, .mk l tk kk, B, d, ha, hk', c0, c1, c2, c3, B, d, rfl, hkd⟩
end Go.Proofs.Ytceplnfjlncekaa
