/-
  Layer 9, mathematics: trees of words.
-/
import Derived.Test.YtgkofipifjfjhaaGreatDoorJQA
import Derived.Test.YtgkofipifjfjhaaGreatDoorJQB
import Derived.Test.YtgkofipifjfjhaaGreatDoorJQH
import Derived.Maps.AppendAt
namespace Go.Proofs.YtgkofipifjfjhaaGreatDoor.Q
set_option linter.unusedSimpArgs false
set_option linter.unusedVariables false
namespace M
/-- A tree: a word, or trees within parentheses. -/
inductive T where
 | mk (list : Bool) (tok : Tok) (kids : List T)
def T.list : T → Bool | .mk l _ _ => l
def T.tok : T → Tok | .mk _ t _ => t
def T.kids : T → List T | .mk _ _ ks => ks
theorem T.eta (t : T) : t = .mk t.list t.tok t.kids := by cases t; rfl
mutual
theorem T.indA {P : T → Prop} (h : ∀ (l : Bool) (tk : Tok) (ks : List T), (∀ (k : Nat) (t : T), ks[k]? = some t → P t) → P (.mk l tk ks)) : ∀ t, P t
 | .mk l tk ks => h l tk ks (T.indL h ks)
theorem T.indL {P : T → Prop} (h : ∀ (l : Bool) (tk : Tok) (ks : List T), (∀ (k : Nat) (t : T), ks[k]? = some t → P t) → P (.mk l tk ks)) : ∀ (ks : List T) (k : Nat) (t : T), ks[k]? = some t → P t
 | [], _, _, e => by simp at e
 | x :: r, 0, t, e => by simp at e; subst e; exact T.indA h x
 | x :: r, k + 1, t, e => T.indL h r k t (by simpa using e)
end
mutual
/-- How many nodes. -/
def cnt : T → Nat
 | .mk _ _ ks => 1 + cnts ks
def cnts : List T → Nat
 | [] => 0
 | t :: r => cnt t + cnts r
end
mutual
/-- How many lists within one another. -/
def dep : T → Nat
 | .mk l _ ks => if l = true then 1 + deps ks else 0
def deps : List T → Nat
 | [] => 0
 | t :: r => max (dep t) (deps r)
end
/-- A word that may be a leaf. -/
def okLeaf (tk : Tok) : Bool := decide (3 ≤ tk.1) && (decide (wErr (word tk) = 0) && decide (wToks (word tk) = [tk]))
mutual
def isN : T → Nat → Bool
 | .mk l tk ks, m => if l = true then decide (tk = (0, [])) && (decide (m ≠ 0) && isNs ks (m - 1)) else ks.isEmpty && okLeaf tk
def isNs : List T → Nat → Bool
 | [], _ => true
 | t :: r, m => isN t m && isNs r m
end
/-- A tree as the document has it. -/
def isT (t : T) : Bool := decide (cnt t ≤ 400) && (decide (dep t ≤ 60) && isN t 60)
theorem cnt_pos (t : T) : 1 ≤ cnt t := by cases t; unfold cnt; omega
theorem cnts_app (a b : List T) : cnts (a ++ b) = cnts a + cnts b := by
 induction a with
 | nil => simp [cnts]
 | cons x r ih => simp [cnts, ih]; omega
theorem cnts_take {ks : List T} {k : Nat} {t : T} (h : ks[k]? = some t) : cnts (ks.take (k + 1)) = cnts (ks.take k) + cnt t := by
 rw [List.take_add_one, h, cnts_app]; simp [cnts]
theorem cnts_take_le : ∀ (ks : List T) (k : Nat), cnts (ks.take k) ≤ cnts ks
 | [], _ => by simp [cnts]
 | x :: r, 0 => by simp [cnts]
 | x :: r, k + 1 => by simp [cnts]; have := cnts_take_le r k; omega
theorem deps_app (a b : List T) : deps (a ++ b) = max (deps a) (deps b) := by
 induction a with
 | nil => simp [deps]
 | cons x r ih => simp [deps, ih, Nat.max_assoc]
theorem deps_take {ks : List T} {k : Nat} {t : T} (h : ks[k]? = some t) : deps (ks.take (k + 1)) = max (deps (ks.take k)) (dep t) := by
 rw [List.take_add_one, h, deps_app]; simp [deps]
theorem isNs_app (a b : List T) (m : Nat) : isNs (a ++ b) m = (isNs a m && isNs b m) := by
 induction a with
 | nil => simp [isNs]
 | cons x r ih => simp [isNs, ih, Bool.and_assoc]
theorem isNs_take {ks : List T} {k : Nat} {t : T} (h : ks[k]? = some t) (m : Nat) : isNs (ks.take (k + 1)) m = (isNs (ks.take k) m && isN t m) := by
 rw [List.take_add_one, h, isNs_app]; simp [isNs]
theorem isNs_at : ∀ {ks : List T} {m k : Nat} {t : T}, isNs ks m = true → ks[k]? = some t → isN t m = true
 | [], _, _, _, _, h => by simp at h
 | x :: r, m, 0, t, h, e => by simp at e; subst e; simp [isNs] at h; exact h.1
 | x :: r, m, k + 1, t, h, e => by simp [isNs] at h; exact isNs_at h.2 (k := k) (by simpa using e)
theorem not_isNs {ks : List T} {m k : Nat} {t : T} (e : ks[k]? = some t) (h : isN t m = false) : isNs ks m = false := by
 rcases hq : isNs ks m with _ | _
 ·rfl
 ·rw [isNs_at hq e] at h; cases h
mutual
/-- The same tree. -/
def sameT : T → T → Bool
 | .mk l tk ks, u => decide (l = u.list) && (decide (tk = u.tok) && (decide (ks.length = u.kids.length) && sameTs ks u.kids))
def sameTs : List T → List T → Bool
 | [], _ => true
 | _ :: _, [] => true
 | t :: r, u :: q => sameT t u && sameTs r q
end
theorem sameTs_take : ∀ {ks us : List T} {k : Nat} {t u : T}, ks[k]? = some t → us[k]? = some u → sameTs (ks.take (k + 1)) us = (sameTs (ks.take k) us && sameT t u)
 | [], _, _, _, _, h, _ => by simp at h
 | _ :: _, [], _, _, _, _, h => by simp at h
 | x :: r, y :: q, 0, t, u, h1, h2 => by
  simp at h1 h2; subst h1 h2
  simp [sameTs]
 | x :: r, y :: q, k + 1, t, u, h1, h2 => by
  have ih := sameTs_take (ks := r) (us := q) (k := k) (t := t) (u := u) (by simpa using h1) (by simpa using h2)
  rw [List.take_succ_cons, List.take_succ_cons, sameTs, sameTs, ih, Bool.and_assoc]
theorem not_sameTs : ∀ {ks us : List T} {k : Nat} {t u : T}, ks[k]? = some t → us[k]? = some u → sameT t u = false → sameTs ks us = false
 | [], _, _, _, _, h, _, _ => by simp at h
 | _ :: _, [], _, _, _, _, h, _ => by simp at h
 | x :: r, y :: q, 0, t, u, h1, h2, h => by
  simp at h1 h2; subst h1 h2
  rw [sameTs, h]; rfl
 | x :: r, y :: q, k + 1, t, u, h1, h2, h => by
  rw [sameTs, not_sameTs (ks := r) (us := q) (k := k) (by simpa using h1) (by simpa using h2) h, Bool.and_false]
mutual
/-- All texts are short. -/
def txtN : T → Bool
 | .mk _ tk ks => decide (tk.2.length ≤ 40) && txtNs ks
def txtNs : List T → Bool
 | [] => true
 | t :: r => txtN t && txtNs r
end
theorem txtNs_at : ∀ {ks : List T} {k : Nat} {t : T}, txtNs ks = true → ks[k]? = some t → txtN t = true
 | [], _, _, _, h => by simp at h
 | x :: r, 0, t, h, e => by simp at e; subst e; rw [txtNs, Bool.and_eq_true] at h; exact h.1
 | x :: r, k + 1, t, h, e => by rw [txtNs, Bool.and_eq_true] at h; exact txtNs_at h.2 (k := k) (by simpa using e)
end M
end Go.Proofs.YtgkofipifjfjhaaGreatDoor.Q

/-
  Layer 9, words: trees in memory.
-/
namespace Go.Proofs.YtgkofipifjfjhaaGreatDoor.Q
set_option linter.unusedSimpArgs false
set_option linter.unusedVariables false
open Go.RowKit

/-- A tree's value. -/
abbrev tv (l : Bool) (tk : M.Tok) (A : Option Addr) (n c : Nat) : Value := .agg #[.bool l, .int .i64 tk.1, str tk.2, .slice A n c]
/-- Its four cells. -/
def Cell4 (w : World) (a : Addr) (l : Bool) (tk : M.Tok) (v : Value) : Prop :=
 w.cell? a = some (.bool l) ∧ w.cell? (a.add 1) = some (.int .i64 tk.1) ∧ w.cell? (a.add 2) = some (str tk.2) ∧ w.cell? (a.add 3) = some v
mutual
/-- Trees, one at every fourth place from k on; a tree at a place. -/
def KidsAt (w : World) : List M.T → Addr → Nat → Prop
 | [], _, _ => True
 | t :: r, ad, k => InAt w t (ad.add (k * 4)) ∧ KidsAt w r ad (k + 1)
def InAt (w : World) : M.T → Addr → Prop
 | .mk l tk ks, a => ∃ A n c, Cell4 w a l tk (.slice A n c) ∧ n = ks.length ∧ n ≤ c ∧ c ≤ maxLen ∧ (ks ≠ [] → ∃ ad, A = some ad ∧ ad.block < w.heap.size ∧ KidsAt w ks ad 0)
end
/-- A list of trees in memory. -/
def Kids (w : World) (ks : List M.T) (v : Value) : Prop := ∃ A n c, v = .slice A n c ∧ n = ks.length ∧ n ≤ c ∧ c ≤ maxLen ∧ (ks ≠ [] → ∃ ad, A = some ad ∧ ad.block < w.heap.size ∧ KidsAt w ks ad 0)
theorem inAt_mk {w : World} {l : Bool} {tk : M.Tok} {ks : List M.T} {a : Addr} : InAt w (.mk l tk ks) a ↔ ∃ v, Cell4 w a l tk v ∧ Kids w ks v := by
 constructor
 ·intro h
  rw [InAt] at h
  obtain ⟨A, n, c, h1, h2⟩ := h
  exact ⟨_, h1, A, n, c, rfl, h2⟩
 ·rintro ⟨v, h1, A, n, c, rfl, h2⟩
  rw [InAt]
  exact ⟨A, n, c, h1, h2⟩
theorem kidsAt_get {w : World} {ad : Addr} : ∀ {ks : List M.T} {j k : Nat} {t : M.T}, KidsAt w ks ad j → ks[k]? = some t → InAt w t (ad.add ((j + k) * 4))
 | [], _, _, _, _, h => by simp at h
 | x :: r, j, 0, t, h, e => by
  simp at e; subst e
  rw [KidsAt] at h
  exact h.1
 | x :: r, j, k + 1, t, h, e => by
  rw [KidsAt] at h
  have := kidsAt_get h.2 (k := k) (t := t) (by simpa using e)
  rw [show j + (k + 1) = j + 1 + k by omega]
  exact this
theorem kidsAt_of {w : World} {ad : Addr} : ∀ {ks : List M.T} {j : Nat}, (∀ k t, ks[k]? = some t → InAt w t (ad.add ((j + k) * 4))) → KidsAt w ks ad j
 | [], _, _ => by rw [KidsAt]; trivial
 | x :: r, j, h => by
  rw [KidsAt]
  refine ⟨h 0 x rfl, kidsAt_of fun k t e => ?_⟩
  have := h (k + 1) t (by simpa using e)
  rw [show j + 1 + k = j + (k + 1) by omega]
  exact this
/-- Kids by their places. -/
theorem Kids.at_ {w : World} {ks : List M.T} {v : Value} (h : Kids w ks v) : ∃ A n c, v = .slice A n c ∧ n = ks.length ∧ n ≤ c ∧ c ≤ maxLen ∧ (ks ≠ [] → ∃ ad, A = some ad ∧ ad.block < w.heap.size ∧ ∀ k t, ks[k]? = some t → InAt w t (ad.add (k * 4))) := by
 obtain ⟨A, n, c, h1, h2, h3, h4, h5⟩ := h
 refine ⟨A, n, c, h1, h2, h3, h4, fun hne => ?_⟩
 obtain ⟨ad, e1, e2, e3⟩ := h5 hne
 exact ⟨ad, e1, e2, fun k t hk => by have := kidsAt_get e3 hk; rwa [Nat.zero_add] at this⟩
theorem Kids.mk_ {w : World} {ks : List M.T} {v : Value} (h : ∃ A n c, v = .slice A n c ∧ n = ks.length ∧ n ≤ c ∧ c ≤ maxLen ∧ (ks ≠ [] → ∃ ad, A = some ad ∧ ad.block < w.heap.size ∧ ∀ k t, ks[k]? = some t → InAt w t (ad.add (k * 4)))) : Kids w ks v := by
 obtain ⟨A, n, c, h1, h2, h3, h4, h5⟩ := h
 refine ⟨A, n, c, h1, h2, h3, h4, fun hne => ?_⟩
 obtain ⟨ad, e1, e2, e3⟩ := h5 hne
 exact ⟨ad, e1, e2, kidsAt_of fun k t hk => by rw [Nat.zero_add]; exact e3 k t hk⟩
theorem InAt.up {w w' : World} (e : Ext w w') (t : M.T) : ∀ {a : Addr}, InAt w t a → InAt w' t a := by
 refine M.T.indA (P := fun t => ∀ {a : Addr}, InAt w t a → InAt w' t a) (fun l tk ks ih a h => ?_) t
 obtain ⟨v, ⟨c0, c1, c2, c3⟩, hk⟩ := inAt_mk.1 h
 obtain ⟨A, n, c, h1, h2, h3, h4, h5⟩ := hk.at_
 refine inAt_mk.2 ⟨v, ⟨e.cell c0, e.cell c1, e.cell c2, e.cell c3⟩, Kids.mk_ ⟨A, n, c, h1, h2, h3, h4, fun hne => ?_⟩⟩
 obtain ⟨ad, e1, e2, e3⟩ := h5 hne
 exact ⟨ad, e1, Nat.lt_of_lt_of_le e2 e.size, fun k t hk => ih k t hk (e3 k t hk)⟩
theorem Kids.up {w w' : World} {ks : List M.T} {v : Value} (h : Kids w ks v) (e : Ext w w') : Kids w' ks v := by
 obtain ⟨A, n, c, h1, h2, h3, h4, h5⟩ := h.at_
 refine Kids.mk_ ⟨A, n, c, h1, h2, h3, h4, fun hne => ?_⟩
 obtain ⟨ad, e1, e2, e3⟩ := h5 hne
 exact ⟨ad, e1, Nat.lt_of_lt_of_le e2 e.size, fun k t hk => InAt.up e t (e3 k t hk)⟩
/-- A tree's value in memory. -/
def IsT (w : World) (t : M.T) (v : Value) : Prop := ∃ A c, v = tv t.list t.tok A t.kids.length c ∧ Kids w t.kids (.slice A t.kids.length c)
theorem IsT.up {w w' : World} {t : M.T} {v : Value} (h : IsT w t v) (e : Ext w w') : IsT w' t v := by
 obtain ⟨A, c, h1, h2⟩ := h
 exact ⟨A, c, h1, h2.up e⟩
theorem Kids.nil (w : World) : Kids w [] (.slice none 0 0) := ⟨none, 0, 0, rfl, rfl, Nat.le_refl _, Nat.zero_le _, fun h => absurd rfl h⟩
theorem Kids.shape {w : World} {ks : List M.T} {v : Value} (h : Kids w ks v) : ∃ A c, v = .slice A ks.length c := by
 obtain ⟨A, n, c, h1, h2, _⟩ := h
 exact ⟨A, c, by rw [h1, h2]⟩
theorem Kids.le {w : World} {A : Option Addr} {n c : Nat} {ks : List M.T} (h : Kids w ks (.slice A n c)) : n = ks.length ∧ n ≤ c ∧ c ≤ maxLen := by
 obtain ⟨A', n', c', e, h2, h3, h4, _⟩ := h
 injection e with e1 e2 e3
 subst e1 e2 e3
 exact ⟨h2, h3, h4⟩
/-- The k-th of them: its cells, its kids. -/
theorem Kids.get {w : World} {A : Option Addr} {n c : Nat} {ks : List M.T} (h : Kids w ks (.slice A n c)) {k : Nat} (hk : k < n) :
 ∃ ad t B d, A = some ad ∧ ks[k]? = some t ∧ w.cell? (ad.add (k * 4)) = some (.bool t.list) ∧ w.cell? ⟨(ad.add (k * 4)).block, (ad.add (k * 4)).off + 1, none⟩ = some (.int .i64 t.tok.1)
  ∧ w.cell? ⟨(ad.add (k * 4)).block, (ad.add (k * 4)).off + 2, none⟩ = some (str t.tok.2) ∧ w.cell? ⟨(ad.add (k * 4)).block, (ad.add (k * 4)).off + 3, none⟩ = some (.slice B t.kids.length d)
  ∧ IsT w t (tv t.list t.tok B t.kids.length d) := by
 obtain ⟨A', n', c', e, h2, h3, h4, h5⟩ := h.at_
 injection e with e1 e2 e3
 subst e1 e2 e3
 obtain ⟨ad, ha, hb, hc⟩ := h5 (by intro e; subst e; simp at h2; omega)
 obtain ⟨⟨l, tk, kk⟩, hk'⟩ : ∃ t, ks[k]? = some t := ⟨_, List.getElem?_eq_getElem (by omega)⟩
 have hin := hc k _ hk'
 obtain ⟨v, ⟨c0, c1, c2, c3⟩, hkd⟩ := inAt_mk.1 hin
 obtain ⟨B, d, rfl⟩ := hkd.shape
 exact ⟨ad, .mk l tk kk, B, d, ha, hk', c0, c1, c2, c3, B, d, rfl, hkd⟩
end Go.Proofs.YtgkofipifjfjhaaGreatDoor.Q

/-
  Layer 9, mathematics: words read by a machine with a row of trees for each open list; trees' words read back.
-/
namespace Go.Proofs.YtgkofipifjfjhaaGreatDoor.Q
set_option linter.unusedSimpArgs false
set_option linter.unusedVariables false
namespace M
/-- A word that a script may have, which is no parenthesis. -/
def leafOk (tk : Tok) : Bool := (decide (tk.1 = 3) || (decide (tk.1 = 4) || decide (tk.1 = 5))) && decide (wToks (print [tk]) = [tk])
mutual
def formT : T → Bool
 | .mk l tk ks => if l = true then formTs ks && decide (tk = (0, [])) else ks.isEmpty && leafOk tk
def formTs : List T → Bool
 | [] => true
 | t :: r => formT t && formTs r
end
/-- A tree as the document has it. -/
def isU (t : T) : Bool := decide (cnt t ≤ 400) && (decide (dep t ≤ 60) && formT t)
theorem isU_parts {t : T} (h : isU t = true) : cnt t ≤ 400 ∧ dep t ≤ 60 ∧ formT t = true := by
 unfold isU at h
 rw [Bool.and_eq_true, Bool.and_eq_true, decide_eq_true_iff, decide_eq_true_iff] at h
 exact h
theorem formTs_app (a b : List T) : formTs (a ++ b) = (formTs a && formTs b) := by
 induction a with
 | nil => simp [formTs]
 | cons x r ih => simp [formTs, ih, Bool.and_assoc]
theorem formTs_take {ks : List T} {k : Nat} {t : T} (h : ks[k]? = some t) : formTs (ks.take (k + 1)) = (formTs (ks.take k) && formT t) := by
 rw [List.take_add_one, h, formTs_app]; simp [formTs]
theorem formTs_at : ∀ {ks : List T} {k : Nat} {t : T}, formTs ks = true → ks[k]? = some t → formT t = true
 | [], _, _, _, h => by simp at h
 | x :: r, 0, t, h, e => by simp at e; subst e; simp [formTs] at h; exact h.1
 | x :: r, k + 1, t, h, e => by simp [formTs] at h; exact formTs_at h.2 (k := k) (by simpa using e)
theorem not_formTs {ks : List T} {k : Nat} {t : T} (e : ks[k]? = some t) (h : formT t = false) : formTs ks = false := by
 rcases hq : formTs ks with _ | _
 ·rfl
 ·rw [formTs_at hq e] at h; cases h
theorem leafOk_kind {tk : Tok} (h : leafOk tk = true) : tk.1 = 3 ∨ tk.1 = 4 ∨ tk.1 = 5 := by
 unfold leafOk at h
 rw [Bool.and_eq_true, Bool.or_eq_true, Bool.or_eq_true, decide_eq_true_iff, decide_eq_true_iff, decide_eq_true_iff] at h
 exact h.1
/-- The kids of the innermost open list so far (the whole trees, if none is open); those of the lists around it; how many nodes. -/
structure St where
 cur : List T
 up : List (List T)
 n : Nat
def put (s : St) (t : Tok) : St :=
 if t.1 = 1 then ⟨[], s.cur :: s.up, s.n + 1⟩
 else if t.1 = 2 then (match s.up with | [] => s | u :: r => ⟨u ++ [.mk true (0, []) s.cur], r, if r.isEmpty = true then 0 else s.n⟩)
 else ⟨s.cur ++ [.mk false t []], s.up, if s.up.isEmpty = true then 0 else s.n + 1⟩
/-- A list of so many words. -/
def wide (m : Nat) : T := .mk true (0, []) (List.replicate m (.mk false (3, [49]) []))
end M
end Go.Proofs.YtgkofipifjfjhaaGreatDoor.Q

/-
  Layer 9, words: what stays while a reader's box is written into; a list of trees of the call's own.
-/
namespace Go.Proofs.YtgkofipifjfjhaaGreatDoor.Q
set_option linter.unusedSimpArgs false
set_option linter.unusedVariables false
open Go.RowKit

theorem InAt.sub {w w' : World} (e : Sub w w') (t : M.T) : ∀ {a : Addr}, InAt w t a → InAt w' t a := by
 refine M.T.indA (P := fun t => ∀ {a : Addr}, InAt w t a → InAt w' t a) (fun l tk ks ih a h => ?_) t
 obtain ⟨v, ⟨c0, c1, c2, c3⟩, hk⟩ := inAt_mk.1 h
 obtain ⟨A, n, c, h1, h2, h3, h4, h5⟩ := hk.at_
 refine inAt_mk.2 ⟨v, ⟨e.2 _ _ c0, e.2 _ _ c1, e.2 _ _ c2, e.2 _ _ c3⟩, Kids.mk_ ⟨A, n, c, h1, h2, h3, h4, fun hne => ?_⟩⟩
 obtain ⟨ad, e1, e2, e3⟩ := h5 hne
 exact ⟨ad, e1, Nat.lt_of_lt_of_le e2 e.1, fun k t hk => ih k t hk (e3 k t hk)⟩
theorem Kids.sub {w w' : World} {ks : List M.T} {v : Value} (h : Kids w ks v) (e : Sub w w') : Kids w' ks v := by
 obtain ⟨A, n, c, h1, h2, h3, h4, h5⟩ := h.at_
 refine Kids.mk_ ⟨A, n, c, h1, h2, h3, h4, fun hne => ?_⟩
 obtain ⟨ad, e1, e2, e3⟩ := h5 hne
 exact ⟨ad, e1, Nat.lt_of_lt_of_le e2 e.1, fun k t hk => InAt.sub e t (e3 k t hk)⟩
theorem IsT.sub {w w' : World} {t : M.T} {v : Value} (h : IsT w t v) (e : Sub w w') : IsT w' t v := by
 obtain ⟨A, c, h1, h2⟩ := h
 exact ⟨A, c, h1, h2.sub e⟩
theorem TList.sub {w w' : World} {v : Value} {ts : List M.Tok} (h : TList w v ts) (e : Sub w w') : TList w' v ts := by
 obtain ⟨A, n, c, h1, h2, h3, h4, h5⟩ := h
 refine ⟨A, n, c, h1, h2, h3, h4, fun hne => ?_⟩
 obtain ⟨ad, ha, hb, hc⟩ := h5 hne
 exact ⟨ad, ha, Nat.lt_of_lt_of_le hb e.1, fun k t hk => ⟨e.2 _ _ (hc k t hk).1, e.2 _ _ (hc k t hk).2⟩⟩
/-- The cells of trees. -/
def Reps (w : World) : List M.T → List Value → Prop
 | [], cs => cs = []
 | t :: r, cs => ∃ v cs', cs = .bool t.list :: .int .i64 t.tok.1 :: str t.tok.2 :: v :: cs' ∧ (Kids w t.kids v ∧ v.oneCell' = true) ∧ Reps w r cs'
theorem Reps.sub {w w' : World} (e : Sub w w') : ∀ {ks : List M.T} {cs : List Value}, Reps w ks cs → Reps w' ks cs
 | [], _, h => h
 | t :: r, _, ⟨v, cs', h1, h2, h3⟩ => ⟨v, cs', h1, ⟨h2.1.sub e, h2.2⟩, h3.sub e⟩
theorem Reps.snoc {w : World} {t : M.T} {v : Value} (hv : Kids w t.kids v) (h1 : v.oneCell' = true) : ∀ {ks : List M.T} {cs : List Value}, Reps w ks cs → Reps w (ks ++ [t]) (cs ++ [.bool t.list, .int .i64 t.tok.1, str t.tok.2, v])
 | [], _, h => by subst h; exact ⟨v, [], rfl, ⟨hv, h1⟩, rfl⟩
 | x :: r, _, ⟨v', cs', h2, h3, h4⟩ => by subst h2; exact ⟨v', _, rfl, h3, h4.snoc hv h1⟩
theorem Reps.get {w : World} : ∀ {ks : List M.T} {cs : List Value} {k : Nat} {t : M.T}, Reps w ks cs → ks[k]? = some t → ∃ v, cs[k * 4]? = some (.bool t.list) ∧ cs[k * 4 + 1]? = some (.int .i64 t.tok.1) ∧ cs[k * 4 + 2]? = some (str t.tok.2) ∧ cs[k * 4 + 3]? = some v ∧ Kids w t.kids v
 | [], _, _, _, _, h => by simp at h
 | x :: r, _, 0, t, ⟨v, cs', h1, h2, h3⟩, h => by
  simp at h; subst h h1
  exact ⟨v, rfl, rfl, rfl, rfl, h2.1⟩
 | x :: r, _, k + 1, t, ⟨v, cs', h1, h2, h3⟩, h => by
  subst h1
  obtain ⟨v', k0, k1, k2, k3, k4⟩ := h3.get (k := k) (t := t) (by simpa using h)
  refine ⟨v', ?_, ?_, ?_, ?_, k4⟩
  ·rw [show (k + 1) * 4 = k * 4 + 4 by omega]; exact k0
  ·rw [show (k + 1) * 4 + 1 = k * 4 + 1 + 4 by omega]; exact k1
  ·rw [show (k + 1) * 4 + 2 = k * 4 + 2 + 4 by omega]; exact k2
  ·rw [show (k + 1) * 4 + 3 = k * 4 + 3 + 4 by omega]; exact k3
/-- A list of trees of the call's own, in a block of its own; all that they reach lies from base on, beside it. -/
def OwnK (base : Nat) (w : World) (v : Value) (ks : List M.T) : Prop := ∃ cs, w.ownsRow base 26 4 v ks.length cs ∧ Reps (gp (beside base v) w) ks cs
theorem OwnK.nil (base : Nat) (w : World) : OwnK base w (.slice none 0 0) [] := ⟨[], World.ownsRow_nil w base _ 4, rfl⟩
theorem OwnK.frame {base : Nat} {w w' : World} {v : Value} {ks : List M.T} (h : OwnK base w v ks) (hs : w.heap.size ≤ w'.heap.size) (hb : ∀ b, base ≤ b → b < w.heap.size → w'.heap[b]? = w.heap[b]?) : OwnK base w' v ks := by
 obtain ⟨cs, h1, h2⟩ := h
 exact ⟨cs, ownsRow_frame h1 hb, h2.sub (gp_mono hs fun k hk hp => ⟨hp, hb k hp.1 hk⟩)⟩
theorem OwnK.kids {base : Nat} {w : World} {v : Value} {ks : List M.T} (h : OwnK base w v ks) : Kids (gp (base ≤ ·) w) ks v := by
 obtain ⟨cs, h1, h2⟩ := h
 have hh := h1
 obtain ⟨hl, h3⟩ := h1
 rcases h3 with ⟨rfl, h0⟩ | ⟨b, cap, cur, rfl, hb, hc, hc1, hm, _, _⟩
 ·obtain rfl : ks = [] := List.eq_nil_of_length_eq_zero h0
  exact Kids.nil _
 ·refine Kids.mk_ ⟨_, _, _, rfl, rfl, hc1, hm, fun hn => ⟨_, rfl, by rw [gp_size]; exact (Array.getElem?_eq_some_iff.1 hc).1, fun k t hk => ?_⟩⟩
  obtain ⟨v', k0, k1, k2, k3, k4⟩ := h2.get hk
  have key : ∀ j u, cs[j]? = some u → (gp (base ≤ ·) w).cell? ((⟨b, 0, none⟩ : Addr).add j) = some u := fun j u hu => gp_cell.2 ⟨by rw [addr_block]; exact hb, World.ownsRow.cells hh (g := b) rfl _ _ hu⟩
  rw [M.T.eta t]
  refine inAt_mk.2 ⟨v', ⟨key _ _ k0, ?_, ?_, ?_⟩, k4.sub (gp_mono (Nat.le_refl _) fun k _ hp => ⟨hp.1, rfl⟩)⟩
  ·rw [Addr.add_add]; exact key _ _ k1
  ·rw [Addr.add_add]; exact key _ _ k2
  ·rw [Addr.add_add]; exact key _ _ k3
theorem OwnK.len {base : Nat} {w : World} {v : Value} {ks : List M.T} (h : OwnK base w v ks) : ∃ A c, v = .slice A ks.length c := by
 obtain ⟨cs, ⟨hl, h3⟩, h2⟩ := h
 rcases h3 with ⟨rfl, h0⟩ | ⟨b, cap, cur, rfl, _⟩
 ·exact ⟨none, 0, by rw [h0]⟩
 ·exact ⟨_, _, rfl⟩
theorem info_Tree : (Tryz.prog.info? 26).map (fun i => (i.zero, i.size, i.bytes)) = some (some (.agg #[.bool false, .int .i64 0, .string ⟨#[]⟩, .slice none 0 0]), 4, 56) := by kernel_rfl
/-- One tree more behind a list of the call's own. -/
theorem appK_run {base : Nat} {w : World} {v : Value} {ks : List M.T} {t : M.T} {kv : Value} {gL : Nat} {tL : TypeId} (h : OwnK base w v ks) (hL : Box w gL #[.bool t.list, .int .i64 t.tok.1, str t.tok.2, kv] tL)
 (hk : Kids (gp (beside base v) w) t.kids kv) (h1 : kv.oneCell' = true) (hlen : ks.length + 1 ≤ 1000000000) (hbase : base ≤ w.heap.size) (ty : TypeId) :
 ∃ v' w', (Builtin.append_ #[24, 24] ty #[v, .slice (some ⟨gL, 0, none⟩) 1 1]).run Tryz.prog w = .ok v' w' ∧ OwnK base w' v' (ks ++ [t]) ∧ Below base w w' := by
 obtain ⟨i0, hi, hz0, hz1, hz2⟩ := info_parts info_Tree
 obtain ⟨cs, ho, hr⟩ := h
 obtain ⟨v', w', hrun, ho', hg, _, hv'⟩ := run_append_own_at (P := Tryz.prog) w base 24 ty 26 i0 _ 4 56 Tryz.underlying24 hi hz0 hz1 hz2 rfl (by decide) v ks.length cs ho ⟨gL, 0, none⟩ 1 1
  [.bool t.list, .int .i64 t.tok.1, str t.tok.2, kv] rfl (by
   intro j u hj
   rw [Addr.add_lit, Nat.zero_add]
   rcases j with _ | _ | _ | _ | j
   ·simp at hj; subst hj; exact hL.cell rfl
   ·simp at hj; subst hj; exact hL.cell rfl
   ·simp at hj; subst hj; exact hL.cell rfl
   ·simp at hj; subst hj; exact hL.cell rfl
   ·simp at hj) (by intro u hu; simp at hu; rcases hu with rfl | rfl | rfl | rfl <;> first | rfl | exact h1) (by unfold maxLen; omega) (by omega) hbase
 have hbel : Below base w w' := (Below.refl _ _).grown hg hbase fun k hk => (World.ownsRow.lt ho k hk).1
 refine ⟨v', w', hrun, ⟨_, by rw [List.length_append]; exact ho', ?_⟩, hbel⟩
 have hs : Sub (gp (beside base v) w) (gp (beside base v') w') := gp_mono hbel.size fun k hk hp => ⟨⟨hp.1, fun e => ?_⟩, hg.block k hk (Ne.symm hp.2)⟩
 ·exact (hr.sub hs).snoc (hk.sub hs) h1
 ·rcases hv' with e' | e'
  ·rw [e'] at e; exact hp.2 e
  ·rw [e'] at e; injection e with e; omega
end Go.Proofs.YtgkofipifjfjhaaGreatDoor.Q

