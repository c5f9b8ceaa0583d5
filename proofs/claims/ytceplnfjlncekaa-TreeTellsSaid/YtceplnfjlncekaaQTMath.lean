/-
  Layer 9, mathematics: trees of words.
-/
import Derived.Test.YtceplnfjlncekaaQMath
namespace Go.Proofs.Ytceplnfjlncekaa
set_option linter.unusedSimpArgs false
set_option linter.unusedVariables false
namespace M
/-- A tree: a word, or trees within parentheses. -/
inductive T where
 | mk (list : Bool) (tok : Tok) (kids : List T)
def T.list : T → Bool | .mk l _ _ => l
def T.tok : T → Tok | .mk _ t _ => t
def T.kids : T → List T | .mk _ _ ks => ks
theorem T.eta (t : T) : t = .mk t.list t.tok t.kids := by cases t; rfl
mutual
theorem T.indA {P : T → Prop} (h : ∀ (l : Bool) (tk : Tok) (ks : List T), (∀ (k : Nat) (t : T), ks[k]? = some t → P t) → P (.mk l tk ks)) : ∀ t, P t
 | .mk l tk ks => h l tk ks (T.indL h ks)
theorem T.indL {P : T → Prop} (h : ∀ (l : Bool) (tk : Tok) (ks : List T), (∀ (k : Nat) (t : T), ks[k]? = some t → P t) → P (.mk l tk ks)) : ∀ (ks : List T) (k : Nat) (t : T), ks[k]? = some t → P t
 | [], _, _, e => by simp at e
 | x :: r, 0, t, e => by simp at e; subst e; exact T.indA h x
 | x :: r, k + 1, t, e => T.indL h r k t (by simpa using e)
end
mutual
/-- How many nodes. -/
def cnt : T → Nat
 | .mk _ _ ks => 1 + cnts ks
def cnts : List T → Nat
 | [] => 0
 | t :: r => cnt t + cnts r
end
mutual
/-- How many lists within one another. -/
def dep : T → Nat
 | .mk l _ ks => if l = true then 1 + deps ks else 0
def deps : List T → Nat
 | [] => 0
 | t :: r => max (dep t) (deps r)
end
mutual
/-- The words of a tree. -/
def wds : T → List Tok
 | .mk l tk ks => if l = true then (1, []) :: (wdss ks ++ [(2, [])]) else [tk]
def wdss : List T → List Tok
 | [] => []
 | t :: r => wds t ++ wdss r
end
/-- A word that may be a leaf. -/
def okLeaf (tk : Tok) : Bool := decide (3 ≤ tk.1) && (decide (wErr (word tk) = 0) && decide (wToks (word tk) = [tk]))
mutual
def isN : T → Nat → Bool
 | .mk l tk ks, m => if l = true then decide (tk = (0, [])) && (decide (m ≠ 0) && isNs ks (m - 1)) else ks.isEmpty && okLeaf tk
def isNs : List T → Nat → Bool
 | [], _ => true
 | t :: r, m => isN t m && isNs r m
end
/-- A tree as the document has it. -/
def isT (t : T) : Bool := decide (cnt t ≤ 400) && (decide (dep t ≤ 60) && isN t 60)
mutual
/-- Small enough to be looked at. -/
def fewN : T → Nat → Bool
 | .mk l tk ks, m => decide (m ≠ 0) && (decide (ks.length ≤ 30) && (decide (tk.2.length ≤ 40) && fewNs ks (m - 1)))
def fewNs : List T → Nat → Bool
 | [], _ => true
 | t :: r, m => fewN t m && fewNs r m
end
theorem cnt_pos (t : T) : 1 ≤ cnt t := by cases t; unfold cnt; omega
theorem cnts_app (a b : List T) : cnts (a ++ b) = cnts a + cnts b := by
 induction a with
 | nil => simp [cnts]
 | cons x r ih => simp [cnts, ih]; omega
theorem cnts_take {ks : List T} {k : Nat} {t : T} (h : ks[k]? = some t) : cnts (ks.take (k + 1)) = cnts (ks.take k) + cnt t := by
 rw [List.take_add_one, h, cnts_app]; simp [cnts]
theorem cnts_take_le : ∀ (ks : List T) (k : Nat), cnts (ks.take k) ≤ cnts ks
 | [], _ => by simp [cnts]
 | x :: r, 0 => by simp [cnts]
 | x :: r, k + 1 => by simp [cnts]; have := cnts_take_le r k; omega
theorem deps_app (a b : List T) : deps (a ++ b) = max (deps a) (deps b) := by
 induction a with
 | nil => simp [deps]
 | cons x r ih => simp [deps, ih, Nat.max_assoc]
theorem deps_take {ks : List T} {k : Nat} {t : T} (h : ks[k]? = some t) : deps (ks.take (k + 1)) = max (deps (ks.take k)) (dep t) := by
 rw [List.take_add_one, h, deps_app]; simp [deps]
theorem wdss_app (a b : List T) : wdss (a ++ b) = wdss a ++ wdss b := by
 induction a with
 | nil => simp [wdss]
 | cons x r ih => simp [wdss, ih]
theorem wdss_take {ks : List T} {k : Nat} {t : T} (h : ks[k]? = some t) : wdss (ks.take (k + 1)) = wdss (ks.take k) ++ wds t := by
 rw [List.take_add_one, h, wdss_app]; simp [wdss]
theorem isNs_app (a b : List T) (m : Nat) : isNs (a ++ b) m = (isNs a m && isNs b m) := by
 induction a with
 | nil => simp [isNs]
 | cons x r ih => simp [isNs, ih, Bool.and_assoc]
theorem isNs_take {ks : List T} {k : Nat} {t : T} (h : ks[k]? = some t) (m : Nat) : isNs (ks.take (k + 1)) m = (isNs (ks.take k) m && isN t m) := by
 rw [List.take_add_one, h, isNs_app]; simp [isNs]
theorem isNs_at : ∀ {ks : List T} {m k : Nat} {t : T}, isNs ks m = true → ks[k]? = some t → isN t m = true
 | [], _, _, _, _, h => by simp at h
 | x :: r, m, 0, t, h, e => by simp at e; subst e; simp [isNs] at h; exact h.1
 | x :: r, m, k + 1, t, h, e => by simp [isNs] at h; exact isNs_at h.2 (k := k) (by simpa using e)
theorem fewNs_app (a b : List T) (m : Nat) : fewNs (a ++ b) m = (fewNs a m && fewNs b m) := by
 induction a with
 | nil => simp [fewNs]
 | cons x r ih => simp [fewNs, ih, Bool.and_assoc]
theorem fewNs_take {ks : List T} {k : Nat} {t : T} (h : ks[k]? = some t) (m : Nat) : fewNs (ks.take (k + 1)) m = (fewNs (ks.take k) m && fewN t m) := by
 rw [List.take_add_one, h, fewNs_app]; simp [fewNs]
theorem fewNs_at : ∀ {ks : List T} {m k : Nat} {t : T}, fewNs ks m = true → ks[k]? = some t → fewN t m = true
 | [], _, _, _, _, h => by simp at h
 | x :: r, m, 0, t, h, e => by simp at e; subst e; simp [fewNs] at h; exact h.1
 | x :: r, m, k + 1, t, h, e => by simp [fewNs] at h; exact fewNs_at h.2 (k := k) (by simpa using e)
theorem not_isNs {ks : List T} {m k : Nat} {t : T} (e : ks[k]? = some t) (h : isN t m = false) : isNs ks m = false := by
 rcases hq : isNs ks m with _ | _
 ·rfl
 ·rw [isNs_at hq e] at h; cases h
theorem not_fewNs {ks : List T} {m k : Nat} {t : T} (e : ks[k]? = some t) (h : fewN t m = false) : fewNs ks m = false := by
 rcases hq : fewNs ks m with _ | _
 ·rfl
 ·rw [fewNs_at hq e] at h; cases h
mutual
/-- The same tree. -/
def sameT : T → T → Bool
 | .mk l tk ks, u => decide (l = u.list) && (decide (tk = u.tok) && (decide (ks.length = u.kids.length) && sameTs ks u.kids))
def sameTs : List T → List T → Bool
 | [], _ => true
 | _ :: _, [] => true
 | t :: r, u :: q => sameT t u && sameTs r q
end
theorem sameTs_take : ∀ {ks us : List T} {k : Nat} {t u : T}, ks[k]? = some t → us[k]? = some u → sameTs (ks.take (k + 1)) us = (sameTs (ks.take k) us && sameT t u)
 | [], _, _, _, _, h, _ => by simp at h
 | _ :: _, [], _, _, _, _, h => by simp at h
 | x :: r, y :: q, 0, t, u, h1, h2 => by
  simp at h1 h2; subst h1 h2
  simp [sameTs]
 | x :: r, y :: q, k + 1, t, u, h1, h2 => by
  have ih := sameTs_take (ks := r) (us := q) (k := k) (t := t) (u := u) (by simpa using h1) (by simpa using h2)
  rw [List.take_succ_cons, List.take_succ_cons, sameTs, sameTs, ih, Bool.and_assoc]
theorem not_sameTs : ∀ {ks us : List T} {k : Nat} {t u : T}, ks[k]? = some t → us[k]? = some u → sameT t u = false → sameTs ks us = false
 | [], _, _, _, _, h, _, _ => by simp at h
 | _ :: _, [], _, _, _, _, h, _ => by simp at h
 | x :: r, y :: q, 0, t, u, h1, h2, h => by
  simp at h1 h2; subst h1 h2
  rw [sameTs, h]; rfl
 | x :: r, y :: q, k + 1, t, u, h1, h2, h => by
  rw [sameTs, not_sameTs (ks := r) (us := q) (k := k) (by simpa using h1) (by simpa using h2) h, Bool.and_false]
theorem sameTs_iff_of : ∀ {ks us : List T}, (∀ (k : Nat) (t : T), ks[k]? = some t → ∀ u, sameT t u = true ↔ t = u) → ks.length = us.length → (sameTs ks us = true ↔ ks = us)
 | [], [], _, _ => by simp [sameTs]
 | [], _ :: _, _, h => by simp at h
 | _ :: _, [], _, h => by simp at h
 | x :: r, y :: q, hi, h => by
  rw [sameTs, Bool.and_eq_true, hi 0 x rfl y, sameTs_iff_of (ks := r) (us := q) (fun k t hk => hi (k + 1) t (by simpa using hk)) (by simpa using h)]
  simp
theorem sameT_iff (t u : T) : sameT t u = true ↔ t = u := by
 refine T.indA (P := fun t => ∀ u, sameT t u = true ↔ t = u) (fun l tk ks ih u => ?_) t u
 obtain ⟨l', tk', ks'⟩ := u
 rw [sameT, Bool.and_eq_true, Bool.and_eq_true, Bool.and_eq_true, decide_eq_true_iff, decide_eq_true_iff, decide_eq_true_iff]
 constructor
 ·rintro ⟨h1, h2, h3, h4⟩
  have := (sameTs_iff_of ih h3).1 h4
  rw [show l = l' from h1, show tk = tk' from h2, show ks = ks' from this]
 ·intro h
  injection h with h1 h2 h3
  subst h1 h2 h3
  exact ⟨rfl, rfl, rfl, (sameTs_iff_of ih rfl).2 rfl⟩
mutual
/-- All texts are short. -/
def txtN : T → Bool
 | .mk _ tk ks => decide (tk.2.length ≤ 40) && txtNs ks
def txtNs : List T → Bool
 | [] => true
 | t :: r => txtN t && txtNs r
end
theorem txtNs_of : ∀ {ks : List T}, (∀ (k : Nat) (t : T), ks[k]? = some t → txtN t = true) → txtNs ks = true
 | [], _ => by simp [txtNs]
 | x :: r, h => by rw [txtNs, h 0 x rfl, txtNs_of (ks := r) fun k t e => h (k + 1) t (by simpa using e)]; rfl
theorem txtNs_at : ∀ {ks : List T} {k : Nat} {t : T}, txtNs ks = true → ks[k]? = some t → txtN t = true
 | [], _, _, _, h => by simp at h
 | x :: r, 0, t, h, e => by simp at e; subst e; rw [txtNs, Bool.and_eq_true] at h; exact h.1
 | x :: r, k + 1, t, h, e => by rw [txtNs, Bool.and_eq_true] at h; exact txtNs_at h.2 (k := k) (by simpa using e)
theorem txtN_few (t : T) : ∀ {m : Nat}, fewN t m = true → txtN t = true := by
 refine T.indA (P := fun t => ∀ {m : Nat}, fewN t m = true → txtN t = true) (fun l tk ks ih m h => ?_) t
 rw [fewN, Bool.and_eq_true, Bool.and_eq_true, Bool.and_eq_true] at h
 rw [txtN, Bool.and_eq_true]
 exact ⟨h.2.2.1, txtNs_of fun k t e => ih k t e (fewNs_at h.2.2.2 e)⟩
end M
end Go.Proofs.Ytceplnfjlncekaa
