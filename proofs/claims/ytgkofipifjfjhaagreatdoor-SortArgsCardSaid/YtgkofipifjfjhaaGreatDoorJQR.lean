/-
  Contracts of the reference: digit, sign, row, Symbol, word, Print.
-/
import Derived.Test.YtgkofipifjfjhaaGreatDoorJQB
import Derived.IntWalk
namespace Go.Proofs.YtgkofipifjfjhaaGreatDoor.Q
set_option linter.unusedSimpArgs false
set_option linter.unusedVariables false
open Go.RowKit

end Go.Proofs.YtgkofipifjfjhaaGreatDoor.Q

/-
  Contracts of the reference: Print; the mathematics of one.
-/
namespace Go.Proofs.YtgkofipifjfjhaaGreatDoor.Q
set_option linter.unusedSimpArgs false
set_option linter.unusedVariables false
open Go.RowKit

namespace M
theorem first_of {b : UInt8} {r : List UInt8} (h1 : b ≠ 40) (h2 : b ≠ 41) (h3 : b ≠ 58) : first (b :: r) = if isSym ((b :: r).takeWhile sym) = true then some ((4, (b :: r).takeWhile sym), ((b :: r).takeWhile sym).length) else if isNum ((b :: r).takeWhile sym) = true then some ((3, (b :: r).takeWhile sym), ((b :: r).takeWhile sym).length) else none := by
 rw [first, if_neg h1, if_neg h2, if_neg h3]
theorem isSym_head {b : UInt8} {r : List UInt8} (h : dig b = true) : isSym (b :: r) = false := by unfold isSym; rw [List.headD_cons, h]; simp
end M
end Go.Proofs.YtgkofipifjfjhaaGreatDoor.Q

/-
  Contract of the reference: one.
-/
namespace Go.Proofs.YtgkofipifjfjhaaGreatDoor.Q
set_option linter.unusedSimpArgs false
set_option linter.unusedVariables false
open Go.RowKit

end Go.Proofs.YtgkofipifjfjhaaGreatDoor.Q

/-
  Contract of the reference: one, at a digit.
-/
namespace Go.Proofs.YtgkofipifjfjhaaGreatDoor.Q
set_option linter.unusedSimpArgs false
set_option linter.unusedVariables false
open Go.RowKit

end Go.Proofs.YtgkofipifjfjhaaGreatDoor.Q

/-
  Contracts of the reference: one, Words.
-/
namespace Go.Proofs.YtgkofipifjfjhaaGreatDoor.Q
set_option linter.unusedSimpArgs false
set_option linter.unusedVariables false
open Go.RowKit

namespace M
theorem WordsAt.same {s : List UInt8} {ts : List Tok} {k k' : Nat} (h : WordsAt s ts k) (hk : k ≤ k') (hl : k' ≤ s.length) (hs : skip (s.drop k) = skip (s.drop k')) : WordsAt s ts k' := by
 obtain ⟨h1, h2, h3⟩ := h
 rw [scan_of_skip hs] at h1
 exact ⟨h1, hl, by omega⟩
theorem drop_at {s r : List UInt8} {k : Nat} {b : UInt8} (hd : s.drop k = b :: r) : s.drop (k + 1) = r := by rw [← List.drop_drop, hd]; rfl
theorem WordsAt.blank {s r : List UInt8} {ts : List Tok} {k : Nat} {b : UInt8} (h : WordsAt s ts k) (hd : s.drop k = b :: r) (hb : blank b = true) : WordsAt s ts (k + 1) := by
 have hl : r.length + 1 = s.length - k := by rw [← List.length_cons (a := b), ← hd, List.length_drop]
 exact h.same (by omega) (by omega) (by rw [hd, skip_blank hb, drop_at hd])
end M
end Go.Proofs.YtgkofipifjfjhaaGreatDoor.Q

/-
  Contracts: 'few' and 'known' of layer 8's laws.
-/
namespace Go.Proofs.YtgkofipifjfjhaaGreatDoor.Q
set_option linter.unusedSimpArgs false
set_option linter.unusedVariables false
open Go.RowKit

namespace M
def few (ts : List Tok) : Bool := ts.all (fun t => decide (t.2.length ≤ 40)) && decide (ts.length ≤ 60)
end M
def K1 : List UInt8 := [40, 97, 32, 58, 98, 32, 49, 48, 41, 59, 32, 99, 10, 41]
def K2 : List UInt8 := [97, 32, 48, 49]
end Go.Proofs.YtgkofipifjfjhaaGreatDoor.Q

/-
  Mathematics of layer 8: words that were read are printed and read again; a beginning of a text.
-/
namespace Go.Proofs.YtgkofipifjfjhaaGreatDoor.Q
set_option linter.unusedSimpArgs false
set_option linter.unusedVariables false
namespace M
/-- A word that a text may have. -/
def OkTok (t : Tok) : Prop := (t.1 = 1 ∧ t.2 = []) ∨ (t.1 = 2 ∧ t.2 = []) ∨ (t.1 = 3 ∧ isNum t.2 = true) ∨ (t.1 = 4 ∧ isSym t.2 = true) ∨ (t.1 = 5 ∧ isSym t.2 = true)
theorem isSym_parts {l : List UInt8} (h : isSym l = true) : ∃ b r, l = b :: r ∧ sym b = true ∧ dig b = false ∧ l.all sym = true := by
 cases l with
 | nil => simp [isSym] at h
 | cons b r =>
  unfold isSym at h
  simp only [Bool.and_eq_true, List.headD_cons, Bool.not_eq_true'] at h
  obtain ⟨-, -, h1, h2⟩ := h
  refine ⟨b, r, rfl, ?_, h2, h1⟩
  rw [List.all_cons, Bool.and_eq_true] at h1
  exact h1.1
theorem isNum_parts {l : List UInt8} (h : isNum l = true) : ∃ b r, l = b :: r ∧ dig b = true ∧ l.all sym = true := by
 cases l with
 | nil => simp [isNum] at h
 | cons b r =>
  rw [isNum] at h
  split at h
  ·rename_i hb
   subst hb
   cases r
   ·exact ⟨48, [], rfl, by decide, by decide⟩
   ·simp at h
  ·refine ⟨b, r, rfl, ?_, List.all_eq_true.2 fun x hx => dig_sym (List.all_eq_true.1 h x hx)⟩
   rw [List.all_cons, Bool.and_eq_true] at h
   exact h.1
/-- Nothing, or a byte that no symbol has. -/
def Ends (rest : List UInt8) : Prop := rest = [] ∨ ∃ b r, rest = b :: r ∧ sym b = false
theorem takeWhile_ends {p : UInt8 → Bool} {l rest : List UInt8} (h : l.all p = true) (hr : rest = [] ∨ ∃ b r, rest = b :: r ∧ p b = false) : (l ++ rest).takeWhile p = l := by
 have hk : ((l ++ rest).take l.length).all p = true := by rw [List.take_left]; exact h
 have := takeWhile_at (p := p) (l := l ++ rest) (k := l.length) (by simp) hk (by
  rcases hr with rfl | ⟨b, r, rfl, hb⟩
  ·exact .inl (by simp)
  ·exact .inr ⟨b, by simp, hb⟩)
 rw [this.2, List.take_left]
theorem first_word {t : Tok} (ht : OkTok t) {rest : List UInt8} (hr : Ends rest) : first (word t ++ rest) = some (t, (word t).length) ∧ skip (word t ++ rest) = word t ++ rest ∧ word t ++ rest ≠ [] := by
 obtain ⟨k, x⟩ := t
 rcases ht with ⟨rfl, rfl⟩ | ⟨rfl, rfl⟩ | ⟨rfl, h⟩ | ⟨rfl, h⟩ | ⟨rfl, h⟩
 ·refine ⟨?_, ?_, by simp [word]⟩
  ·show first (40 :: rest) = _
   rw [first, if_pos rfl]; rfl
  ·exact skip_word (b := 40) (by decide) (by decide) rest
 ·refine ⟨?_, ?_, by simp [word]⟩
  ·show first (41 :: rest) = _
   rw [first, if_neg (by decide), if_pos rfl]; rfl
  ·exact skip_word (b := 41) (by decide) (by decide) rest
 ·have hw : word (3, x) = x := by simp [word]
  obtain ⟨b, r, rfl, hb, ha⟩ := isNum_parts h
  obtain ⟨n1, n2, n3, n4, n5⟩ := sym_not (dig_sym hb)
  rw [hw, List.cons_append]
  refine ⟨?_, skip_word n5 n4 _, by simp⟩
  rw [first_of n1 n2 n3, ← List.cons_append, takeWhile_ends ha hr, isSym_head hb, h]; rfl
 ·have hw : word (4, x) = x := by simp [word]
  obtain ⟨b, r, rfl, hb, hd, ha⟩ := isSym_parts h
  obtain ⟨n1, n2, n3, n4, n5⟩ := sym_not hb
  rw [hw, List.cons_append]
  refine ⟨?_, skip_word n5 n4 _, by simp⟩
  rw [first_of n1 n2 n3, ← List.cons_append, takeWhile_ends ha hr, h]; rfl
 ·have hw : word (5, x) = 58 :: x := by simp [word]
  obtain ⟨b, r, rfl, hb, hd, ha⟩ := isSym_parts h
  rw [hw, List.cons_append]
  refine ⟨?_, skip_word (by decide) (by decide) _, by simp⟩
  rw [first, if_neg (by decide), if_neg (by decide), if_pos rfl, takeWhile_ends ha hr, h, if_pos rfl, List.length_cons (a := (58 : UInt8)), Nat.add_comm]
theorem scan_word {t : Tok} (ht : OkTok t) {rest : List UInt8} (hr : Ends rest) : scan (word t ++ rest) = (t :: (scan rest).1, (scan rest).2) := by
 obtain ⟨h1, h2, h3⟩ := first_word ht hr
 rcases hc : word t ++ rest with _ | ⟨b, r⟩
 ·exact absurd hc h3
 ·rw [hc] at h1 h2
  rw [scan_tok h2 h1, ← hc, List.drop_left]
end M
end Go.Proofs.YtgkofipifjfjhaaGreatDoor.Q

