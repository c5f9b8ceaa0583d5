/-
  Layer 9, mathematics: the reference's trees are the trees; how many words.
-/
import Derived.Test.YtgkofipifjfjhaaGreatDoorJQT
namespace Go.Proofs.YtgkofipifjfjhaaGreatDoor.Q
set_option linter.unusedSimpArgs false
set_option linter.unusedVariables false
namespace M
theorem first_kind {l : List UInt8} {t : Tok} {k : Nat} (h : first l = some (t, k)) : 1 ≤ t.1 ∧ t.1 ≤ 5 := by
 cases l with
 | nil => simp [first] at h
 | cons b r =>
  rw [first] at h
  split at h
  ·simp at h; obtain ⟨rfl, _⟩ := h; decide
  split at h
  ·simp at h; obtain ⟨rfl, _⟩ := h; decide
  split at h
  ·split at h
   ·simp at h; obtain ⟨rfl, _⟩ := h; exact ⟨by show (1 : Int) ≤ 5; decide, by show (5 : Int) ≤ 5; decide⟩
   ·cases h
  split at h
  ·simp at h; obtain ⟨rfl, _⟩ := h; exact ⟨by show (1 : Int) ≤ 4; decide, by show (4 : Int) ≤ 5; decide⟩
  split at h
  ·simp at h; obtain ⟨rfl, _⟩ := h; exact ⟨by show (1 : Int) ≤ 3; decide, by show (3 : Int) ≤ 5; decide⟩
  ·cases h
theorem scanF_kind : ∀ (n : Nat) (l : List UInt8) (t : Tok), t ∈ (scanF n l).1 → 1 ≤ t.1 ∧ t.1 ≤ 5
 | 0, l, t, h => by simp [scanF] at h
 | n + 1, l, t, h => by
  rw [scanF] at h
  split at h
  ·simp at h
  ·split at h
   ·simp at h
   ·rename_i b r _ t' k hf
    simp only [List.mem_cons] at h
    rcases h with rfl | h
    ·exact first_kind hf
    ·exact scanF_kind n _ t h
theorem wToks_one {l : List UInt8} {t : Tok} (h : wToks l = [t]) : wErr l = 0 ∧ 1 ≤ t.1 ∧ t.1 ≤ 5 := by
 unfold wToks at h
 unfold wErr
 split at h
 ·cases h
 ·rename_i h4
  rw [if_neg h4]
  rcases hs : (scan l).2 with _ | q
  ·rw [hs] at h
   replace h : (scan l).1 = [t] := h
   exact ⟨rfl, scanF_kind _ l t (by show t ∈ (scan l).1; rw [h]; simp)⟩
  ·rw [hs] at h
   cases h
theorem okLeaf_leafOk (tk : Tok) : okLeaf tk = leafOk tk := by
 have hp : print [tk] = word tk := by simp [print]
 unfold okLeaf leafOk
 rw [hp]
 by_cases h : wToks (word tk) = [tk]
 ·obtain ⟨h1, h2, h3⟩ := wToks_one h
  rw [decide_eq_true h, decide_eq_true h1]
  by_cases h4 : 3 ≤ tk.1
  ·have h5 : tk.1 = 3 ∨ tk.1 = 4 ∨ tk.1 = 5 := by omega
   rw [decide_eq_true h4, show (decide (tk.1 = 3) || (decide (tk.1 = 4) || decide (tk.1 = 5))) = true by simpa using h5]
   rfl
  ·have h5 : ¬ (tk.1 = 3 ∨ tk.1 = 4 ∨ tk.1 = 5) := by omega
   rw [decide_eq_false h4, show (decide (tk.1 = 3) || (decide (tk.1 = 4) || decide (tk.1 = 5))) = false by simpa using h5]
   rfl
 ·rw [decide_eq_false h, Bool.and_false, Bool.and_false, Bool.and_false]
mutual
theorem isN_form : ∀ (t : T) (m : Nat), dep t ≤ m → isN t m = formT t
 | .mk l tk ks, m, h => by
  rw [dep] at h
  rw [isN, formT]
  cases l with
  | false => simp only [Bool.false_eq_true, if_false]; rw [okLeaf_leafOk]
  | true =>
   simp only [if_true] at h ⊢
   rw [isNs_form ks (m - 1) (by omega), decide_eq_true (show m ≠ 0 by omega), Bool.true_and, Bool.and_comm]
theorem isNs_form : ∀ (ks : List T) (m : Nat), deps ks ≤ m → isNs ks m = formTs ks
 | [], m, h => by rw [isNs, formTs]
 | t :: r, m, h => by
  rw [deps] at h
  rw [isNs, formTs, isN_form t m (by omega), isNs_form r m (by omega)]
end
/-- The reference's trees are the trees. -/
theorem isT_isU (t : T) : isT t = isU t := by
 unfold isT isU
 by_cases h : dep t ≤ 60
 ·rw [isN_form t 60 h]
 ·rw [decide_eq_false h, Bool.false_and, Bool.false_and]
end M
end Go.Proofs.YtgkofipifjfjhaaGreatDoor.Q
