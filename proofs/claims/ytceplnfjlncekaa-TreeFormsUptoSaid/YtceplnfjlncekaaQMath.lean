/-
  Mathematics of layer 8: classes of bytes, words of a text, a text of words.
-/
import Derived.KernelRfl
import GoSem.Claim
namespace Go.Proofs.Ytceplnfjlncekaa
set_option linter.unusedSimpArgs false
set_option linter.unusedVariables false
namespace M
/-- A fact of every byte, looked at one by one. -/
theorem all_bytes (p : UInt8 → Bool) (h : (List.range 256).all (fun n => p (UInt8.ofNat n)) = true) (b : UInt8) : p b = true := by
 have := List.all_eq_true.1 h b.toNat (List.mem_range.2 b.toNat_lt)
 simpa using this
def cDig : List UInt8 := [48, 49, 50, 51, 52, 53, 54, 55, 56, 57]
def cLet : List UInt8 := [97, 98, 99, 100, 101, 102, 103, 104, 105, 106, 107, 108, 109, 110, 111, 112, 113, 114, 115, 116, 117, 118, 119, 120, 121, 122, 65, 66, 67, 68, 69, 70, 71, 72, 73, 74, 75, 76, 77, 78, 79, 80, 81, 82, 83, 84, 85, 86, 87, 88, 89, 90]
def cMark : List UInt8 := [126, 33, 64, 36, 37, 94, 38, 42, 95, 45, 43, 61, 60, 62, 46, 63, 47]
def cBlank : List UInt8 := [32, 9, 10, 13]
/-- Is the byte of one of the classes? -/
def among (cs : List (List UInt8)) (b : UInt8) : Bool := cs.any fun c => c.contains b
def dig (b : UInt8) : Bool := among [cDig] b
def blank (b : UInt8) : Bool := among [cBlank] b
def sym (b : UInt8) : Bool := among [cLet, cDig, cMark] b
abbrev Tok := Int × List UInt8
def isSym (l : List UInt8) : Bool := !l.isEmpty && (decide (l.length ≤ 20) && (l.all sym && !dig (l.headD 48)))
def isNum (l : List UInt8) : Bool := match l with
 | [] => false
 | b :: r => if b = 48 then r.isEmpty else (b :: r).all dig
/-- Behind blanks and remarks (true: in one). -/
def skipS : Bool → List UInt8 → List UInt8
 | _, [] => []
 | false, b :: r => if blank b = true then skipS false r else if b = 59 then skipS true r else b :: r
 | true, b :: r => if b = 10 then skipS false r else skipS true r
def skip (l : List UInt8) : List UInt8 := skipS false l
/-- The word with which a text begins that begins with one, and how many bytes it has. -/
def first : List UInt8 → Option (Tok × Nat)
 | [] => none
 | b :: r => if b = 40 then some ((1, []), 1) else if b = 41 then some ((2, []), 1)
  else if b = 58 then (if isSym (r.takeWhile sym) = true then some ((5, r.takeWhile sym), 1 + (r.takeWhile sym).length) else none)
  else if isSym ((b :: r).takeWhile sym) = true then some ((4, (b :: r).takeWhile sym), ((b :: r).takeWhile sym).length)
  else if isNum ((b :: r).takeWhile sym) = true then some ((3, (b :: r).takeWhile sym), ((b :: r).takeWhile sym).length) else none
/-- The words of a text; where it errs: how many bytes are left there. -/
def scanF : Nat → List UInt8 → List Tok × Option Nat
 | 0, _ => ([], none)
 | n + 1, l => match skip l with
  | [] => ([], none)
  | b :: r => match first (b :: r) with
   | none => ([], some (r.length + 1))
   | some (t, k) => (t :: (scanF n ((b :: r).drop k)).1, (scanF n ((b :: r).drop k)).2)
def scan (l : List UInt8) : List Tok × Option Nat := scanF (l.length + 1) l
def wToks (l : List UInt8) : List Tok := if 4000 < l.length then [] else match (scan l).2 with | none => (scan l).1 | some _ => []
def wAt (l : List UInt8) : Nat := if 4000 < l.length then 0 else match (scan l).2 with | none => l.length | some m => l.length - m
def wErr (l : List UInt8) : Int := if 4000 < l.length then 11 else match (scan l).2 with | none => 0 | some _ => 14
def word (t : Tok) : List UInt8 := if t.1 = 1 then [40] else if t.1 = 2 then [41] else if t.1 = 5 then 58 :: t.2 else t.2
def print : List Tok → List UInt8
 | [] => []
 | t :: r => word t ++ (r.map fun x => 32 :: word x).flatten
theorem print_snoc (l : List Tok) (t : Tok) : print (l ++ [t]) = if l = [] then word t else print l ++ 32 :: word t := by
 cases l with
 | nil => simp [print]
 | cons x r => simp [print]
theorem print_take {l : List Tok} {k : Nat} {t : Tok} (h : l[k]? = some t) : print (l.take (k + 1)) = if k = 0 then word t else print (l.take k) ++ 32 :: word t := by
 rw [List.take_add_one, h]
 show print (l.take k ++ [t]) = _
 rw [print_snoc]
 have hk : k < l.length := (List.getElem?_eq_some_iff.1 h).1
 by_cases h0 : k = 0
 ·subst h0; simp
 ·have : l.take k ≠ [] := by intro e; have := congrArg List.length e; simp at this; rcases this with h | h; exact h0 h; subst h; simp at hk
  rw [if_neg this, if_neg h0]

theorem dig_iff (b : UInt8) : dig b = (decide (48 ≤ b.toNat) && decide (b.toNat ≤ 57)) := by
 have := all_bytes (fun b => dig b == (decide (48 ≤ b.toNat) && decide (b.toNat ≤ 57))) (by decide +kernel) b
 simpa using this
theorem blank_iff (b : UInt8) : blank b = (b == 32 || b == 9 || b == 10 || b == 13) := by
 have := all_bytes (fun b => blank b == (b == 32 || b == 9 || b == 10 || b == 13)) (by decide +kernel) b
 simpa using this
theorem dig_sym {b : UInt8} (h : dig b = true) : sym b = true := by
 have := all_bytes (fun b => !dig b || sym b) (by decide +kernel) b
 simpa [h] using this
theorem sym_not {b : UInt8} (h : sym b = true) : b ≠ 40 ∧ b ≠ 41 ∧ b ≠ 58 ∧ b ≠ 59 ∧ blank b = false := by
 have := all_bytes (fun b => !sym b || (b != 40 && (b != 41 && (b != 58 && (b != 59 && !blank b))))) (by decide +kernel) b
 simpa [h] using this
/-- How the reference asks it. -/
def sign (b : UInt8) : Bool := (dig b || (decide (97 ≤ b.toNat) && decide (b.toNat ≤ 122))) || (decide (65 ≤ b.toNat) && decide (b.toNat ≤ 90)) || cMark.contains b
theorem sign_sym (b : UInt8) : sign b = sym b := by
 have := all_bytes (fun b => sign b == sym b) (by decide +kernel) b
 simpa using this
theorem blank_not {b : UInt8} (h : blank b = true) : b ≠ 59 ∧ sym b = false ∧ b ≠ 40 ∧ b ≠ 41 ∧ b ≠ 58 := by
 have := all_bytes (fun b => !blank b || (b != 59 && (!sym b && (b != 40 && (b != 41 && b != 58))))) (by decide +kernel) b
 simpa [h] using this

theorem skipS_len : ∀ (q : Bool) (l : List UInt8), (skipS q l).length ≤ l.length
 | q, [] => by cases q <;> simp [skipS]
 | false, b :: r => by
  have h1 := skipS_len false r; have h2 := skipS_len true r
  unfold skipS
  split
  ·simp; omega
  ·split
   ·simp; omega
   ·simp
 | true, b :: r => by
  have h1 := skipS_len false r; have h2 := skipS_len true r
  unfold skipS
  split <;> (simp; omega)
theorem skipS_drop : ∀ (q : Bool) (l : List UInt8), skipS q l = l.drop (l.length - (skipS q l).length)
 | q, [] => by cases q <;> simp [skipS]
 | false, b :: r => by
  have h1 := skipS_drop false r; have h2 := skipS_drop true r
  have l1 := skipS_len false r; have l2 := skipS_len true r
  unfold skipS
  split
  ·rw [List.length_cons, show r.length + 1 - (skipS false r).length = (r.length - (skipS false r).length) + 1 by omega, List.drop_succ_cons]; exact h1
  ·split
   ·rw [List.length_cons, show r.length + 1 - (skipS true r).length = (r.length - (skipS true r).length) + 1 by omega, List.drop_succ_cons]; exact h2
   ·simp
 | true, b :: r => by
  have h1 := skipS_drop false r; have h2 := skipS_drop true r
  have l1 := skipS_len false r; have l2 := skipS_len true r
  unfold skipS
  split
  ·rw [List.length_cons, show r.length + 1 - (skipS false r).length = (r.length - (skipS false r).length) + 1 by omega, List.drop_succ_cons]; exact h1
  ·rw [List.length_cons, show r.length + 1 - (skipS true r).length = (r.length - (skipS true r).length) + 1 by omega, List.drop_succ_cons]; exact h2
theorem skip_len (l : List UInt8) : (skip l).length ≤ l.length := skipS_len _ _
theorem skip_drop (l : List UInt8) : skip l = l.drop (l.length - (skip l).length) := skipS_drop _ _
theorem skip_nil : skip [] = [] := rfl
theorem skip_blank {b : UInt8} (h : blank b = true) (r : List UInt8) : skip (b :: r) = skip r := by unfold skip; rw [skipS, if_pos h]
theorem skip_remark (r : List UInt8) : skip (59 :: r) = skipS true r := by
 unfold skip; rw [skipS, if_neg (by decide), if_pos rfl]
theorem skip_word {b : UInt8} (h : blank b = false) (h2 : b ≠ 59) (r : List UInt8) : skip (b :: r) = b :: r := by unfold skip; rw [skipS, if_neg (by rw [h]; decide), if_neg h2]
theorem skipT : ∀ (r : List UInt8), skipS true r = skip (r.dropWhile (fun b => b != 10))
 | [] => rfl
 | b :: r => by
  rw [skipS]
  by_cases h : b = 10
  ·subst h
   rw [if_pos rfl]
   show _ = skip (10 :: r)
   rw [skip_blank (by decide)]; rfl
  ·rw [if_neg h, skipT r, List.dropWhile_cons_of_pos (by simpa using h)]
theorem skip_blanks : ∀ (l : List UInt8), skip l = skip (l.dropWhile blank)
 | [] => rfl
 | b :: r => by
  by_cases h : blank b = true
  ·rw [skip_blank h, List.dropWhile_cons_of_pos h]; exact skip_blanks r
  ·rw [List.dropWhile_cons_of_neg h]
theorem skip_head {l r : List UInt8} {b : UInt8} (h : skip l = b :: r) : blank b = false ∧ b ≠ 59 := by
 have key : ∀ (q : Bool) (l : List UInt8), skipS q l = b :: r → blank b = false ∧ b ≠ 59 := by
  intro q l
  induction l generalizing q with
  | nil => intro h; cases q <;> simp [skipS] at h
  | cons c s ih =>
   intro h
   cases q
   ·rw [skipS] at h
    split at h
    ·exact ih _ h
    ·split at h
     ·exact ih _ h
     ·rename_i h1 h2
      injection h with h3 h4
      subst h3
      exact ⟨by simpa using h1, h2⟩
   ·rw [skipS] at h
    split at h <;> exact ih _ h
 exact key false l h
theorem skip_idem (l : List UInt8) : skip (skip l) = skip l := by
 cases h : skip l with
 | nil => rfl
 | cons b r => exact skip_word (skip_head h).1 (skip_head h).2 r

theorem takeWhile_len (p : UInt8 → Bool) : ∀ (l : List UInt8), (l.takeWhile p).length ≤ l.length
 | [] => Nat.le_refl _
 | b :: r => by rw [List.takeWhile_cons]; split; simpa using takeWhile_len p r; simp
theorem isSym_ne {l : List UInt8} (h : isSym l = true) : 1 ≤ l.length ∧ l.length ≤ 20 := by
 unfold isSym at h
 simp only [Bool.and_eq_true, decide_eq_true_eq] at h
 have h0 := h.1
 refine ⟨?_, h.2.1⟩
 cases l
 ·simp at h0
 ·simp
theorem isNum_ne {l : List UInt8} (h : isNum l = true) : 1 ≤ l.length := by
 cases l
 ·simp [isNum] at h
 ·simp
theorem first_len {l : List UInt8} {t : Tok} {k : Nat} (h : first l = some (t, k)) : 1 ≤ k ∧ k ≤ l.length := by
 cases l with
 | nil => simp [first] at h
 | cons b r =>
  rw [first] at h
  split at h
  ·simp at h; obtain ⟨_, rfl⟩ := h; simp
  ·split at h
   ·simp at h; obtain ⟨_, rfl⟩ := h; simp
   ·split at h
    ·split at h
     ·simp at h; obtain ⟨_, rfl⟩ := h
      have := takeWhile_len sym r
      simp; omega
     ·cases h
    ·split at h
     ·rename_i hs
      simp only [Option.some.injEq, Prod.mk.injEq] at h
      obtain ⟨_, rfl⟩ := h
      exact ⟨(isSym_ne hs).1, takeWhile_len _ _⟩
     ·split at h
      ·rename_i hs
       simp only [Option.some.injEq, Prod.mk.injEq] at h
       obtain ⟨_, rfl⟩ := h
       exact ⟨isNum_ne hs, takeWhile_len _ _⟩
      ·cases h
theorem scanF_eq : ∀ (n m : Nat) (l : List UInt8), l.length < n → l.length < m → scanF n l = scanF m l
 | 0, _, _, h, _ => absurd h (Nat.not_lt_zero _)
 | _ + 1, 0, _, _, h => absurd h (Nat.not_lt_zero _)
 | n + 1, m + 1, l, hn, hm => by
  rw [scanF, scanF]
  split
  ·rfl
  ·rename_i b r hs
   split
   ·rfl
   ·rename_i t k hf
    have h1 := skip_len l
    have h2 := first_len hf
    rw [hs] at h1
    have h3 : ((b :: r).drop k).length < n := by rw [List.length_drop]; omega
    have h4 : ((b :: r).drop k).length < m := by rw [List.length_drop]; omega
    rw [scanF_eq n m _ h3 h4]
theorem scan_nil {l : List UInt8} (h : skip l = []) : scan l = ([], none) := by unfold scan; rw [scanF, h]
theorem scan_bad {l r : List UInt8} {b : UInt8} (h : skip l = b :: r) (hf : first (b :: r) = none) : scan l = ([], some (r.length + 1)) := by
 unfold scan; rw [scanF, h]; simp only [hf]
theorem scan_tok {l r : List UInt8} {b : UInt8} {t : Tok} {k : Nat} (h : skip l = b :: r) (hf : first (b :: r) = some (t, k)) : scan l = (t :: (scan ((b :: r).drop k)).1, (scan ((b :: r).drop k)).2) := by
 have h1 := skip_len l
 have h2 := first_len hf
 rw [h] at h1
 have e : scanF l.length ((b :: r).drop k) = scan ((b :: r).drop k) := scanF_eq _ _ _ (by rw [List.length_drop]; omega) (by omega)
 conv => lhs; unfold scan
 rw [scanF, h]
 simp only [hf]
 rw [e]
theorem scan_skip (l : List UInt8) : scan (skip l) = scan l := by
 rcases h : skip l with _ | ⟨b, r⟩
 ·rw [scan_nil h]; rfl
 ·have hs : skip (b :: r) = b :: r := by rw [← h]; exact skip_idem l
  rcases hf : first (b :: r) with _ | ⟨t, k⟩
  ·rw [scan_bad h hf, scan_bad hs hf]
  ·rw [scan_tok h hf, scan_tok hs hf]
theorem scan_of_skip {l m : List UInt8} (h : skip l = skip m) : scan l = scan m := by rw [← scan_skip l, h, scan_skip]
theorem scan_at {l : List UInt8} {m : Nat} (h : (scan l).2 = some m) : 1 ≤ m ∧ m ≤ l.length := by
 generalize hn : l.length = n
 induction n using Nat.strongRecOn generalizing l with
 | _ n ih =>
  have hl := skip_len l
  rcases hs : skip l with _ | ⟨b, r⟩
  ·rw [scan_nil hs] at h; cases h
  ·rw [hs] at hl
   simp at hl
   rcases hf : first (b :: r) with _ | ⟨t, k⟩
   ·rw [scan_bad hs hf] at h
    simp at h
    omega
   ·rw [scan_tok hs hf] at h
    have h2 := first_len hf
    simp at h2
    have := ih ((b :: r).drop k).length (by rw [List.length_drop]; simp; omega) h rfl
    rw [List.length_drop] at this
    simp at this
    omega
end M
end Go.Proofs.Ytceplnfjlncekaa
