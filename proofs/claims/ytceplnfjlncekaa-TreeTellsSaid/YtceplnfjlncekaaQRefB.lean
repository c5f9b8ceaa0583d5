/-
  Contracts of the reference: Print; the mathematics of one.
-/
import Derived.Test.YtceplnfjlncekaaQRefA
namespace Go.Proofs.Ytceplnfjlncekaa
set_option linter.unusedSimpArgs false
set_option linter.unusedVariables false
open Go.RowKit

def RPrintAt (W wr : World) (ts : List M.Tok) (k : Nat) (x : Value) : Prop := x = str (M.print (ts.take k)) ∧ Ext W wr
namespace M
theorem takeWhile_same {p q : UInt8 → Bool} : ∀ {l : List UInt8}, (∀ b ∈ l.takeWhile p, q b = true) → (∀ c, l[(l.takeWhile p).length]? = some c → q c = false) → l.takeWhile q = l.takeWhile p
 | [], _, _ => rfl
 | b :: r, h1, h2 => by
  rw [List.takeWhile_cons, List.takeWhile_cons]
  rw [List.takeWhile_cons] at h1 h2
  by_cases hp : p b = true
  ·rw [if_pos hp] at h1 h2 ⊢
   rw [if_pos (h1 b (by simp)), takeWhile_same (p := p) (fun c hc => h1 c (by simp [hc])) (fun c hc => h2 c (by simpa using hc))]
  ·rw [if_neg hp] at h2 ⊢
   rw [if_neg (by rw [h2 b (by simp)]; decide)]
theorem takeWhile_mem {p : UInt8 → Bool} {l : List UInt8} {b : UInt8} (h : b ∈ l.takeWhile p) : p b = true := List.all_eq_true.1 List.all_takeWhile b h
theorem takeWhile_more {p q : UInt8 → Bool} : ∀ {l : List UInt8} {c : UInt8}, (∀ b ∈ l.takeWhile p, q b = true) → l[(l.takeWhile p).length]? = some c → q c = true → c ∈ l.takeWhile q ∧ (l.takeWhile p).length < (l.takeWhile q).length
 | [], c, _, h2, _ => by simp at h2
 | b :: r, c, h1, h2, h3 => by
  rw [List.takeWhile_cons] at h1 h2
  rw [List.takeWhile_cons, List.takeWhile_cons]
  by_cases hp : p b = true
  ·rw [if_pos hp] at h1 h2 ⊢
   rw [if_pos (h1 b (by simp))]
   have := takeWhile_more (p := p) (l := r) (fun c hc => h1 c (by simp [hc])) (by simpa using h2) h3
   simp [this.1, this.2]
  ·rw [if_neg hp] at h2 ⊢
   simp at h2
   subst h2
   rw [if_pos h3]
   simp
theorem next_not {p : UInt8 → Bool} : ∀ {l : List UInt8} {c : UInt8}, l[(l.takeWhile p).length]? = some c → p c = false
 | [], c, h => by simp at h
 | b :: r, c, h => by
  rw [List.takeWhile_cons] at h
  by_cases hp : p b = true
  ·rw [if_pos hp] at h; exact next_not (l := r) (by simpa using h)
  ·rw [if_neg hp] at h
   simp at h
   subst h
   simpa using hp
/-- What the reference tells of a word at a place. -/
def OneIs (l : List UInt8) (a : Nat) (t : Tok) (m : Nat) (ok : Bool) : Prop := (ok = true → first l = some (t, m - a) ∧ a ≤ m) ∧ (ok = false → first l = none)
theorem first_of {b : UInt8} {r : List UInt8} (h1 : b ≠ 40) (h2 : b ≠ 41) (h3 : b ≠ 58) : first (b :: r) = if isSym ((b :: r).takeWhile sym) = true then some ((4, (b :: r).takeWhile sym), ((b :: r).takeWhile sym).length) else if isNum ((b :: r).takeWhile sym) = true then some ((3, (b :: r).takeWhile sym), ((b :: r).takeWhile sym).length) else none := by
 rw [first, if_neg h1, if_neg h2, if_neg h3]
theorem isSym_head {b : UInt8} {r : List UInt8} (h : dig b = true) : isSym (b :: r) = false := by unfold isSym; rw [List.headD_cons, h]; simp
theorem isNum_head {b : UInt8} {r : List UInt8} (h : dig b = false) : isNum (b :: r) = false := by
 have hb : b ≠ 48 := by rintro rfl; exact absurd h (by decide)
 rw [isNum, if_neg hb, List.all_cons, h]; rfl
theorem dig_not {b : UInt8} (h : dig b = true) : b ≠ 40 ∧ b ≠ 41 ∧ b ≠ 58 := ⟨(sym_not (dig_sym h)).1, (sym_not (dig_sym h)).2.1, (sym_not (dig_sym h)).2.2.1⟩
/-- Digits, and no symbol's byte behind them. -/
theorem one_num {b : UInt8} {r u : List UInt8} {a : Nat} {ok : Bool} (hb : dig b = true) (hu : (b :: r).takeWhile dig = u) (hn : ∀ c, (b :: r)[u.length]? = some c → sym c = false) (hok : isNum u = ok) : OneIs (b :: r) a (3, u) (a + u.length) ok := by
 obtain ⟨n1, n2, n3⟩ := dig_not hb
 have hs : (b :: r).takeWhile sym = u := by
  rw [← hu]; exact takeWhile_same (fun x hx => dig_sym (takeWhile_mem hx)) (fun c hc => hn c (by rw [← hu]; exact hc))
 have hh : isSym u = false := by
  rw [← hu, List.takeWhile_cons, if_pos hb]; exact isSym_head hb
 have e := first_of (r := r) n1 n2 n3
 rw [hs, hh, hok] at e
 refine ⟨fun h => ⟨?_, by omega⟩, fun h => ?_⟩
 ·rw [e, h, show a + u.length - a = u.length by omega]; rfl
 ·rw [e, h]; rfl
/-- Digits, and a symbol's byte behind them. -/
theorem one_mix {b c : UInt8} {r u : List UInt8} {a m : Nat} {t : Tok} (hb : dig b = true) (hu : (b :: r).takeWhile dig = u) (hc : (b :: r)[u.length]? = some c) (hs : sym c = true) : OneIs (b :: r) a t m false := by
 obtain ⟨n1, n2, n3⟩ := dig_not hb
 subst hu
 have hd := next_not hc
 have hm := takeWhile_more (q := sym) (fun x hx => dig_sym (takeWhile_mem hx)) hc hs
 have hv : ∃ v, (b :: r).takeWhile sym = b :: v := ⟨_, by rw [List.takeWhile_cons, if_pos (dig_sym hb)]⟩
 obtain ⟨v, hv⟩ := hv
 have h1 : isSym (b :: v) = false := isSym_head hb
 have h2 : isNum (b :: v) = false := by
  rw [hv] at hm
  have hne : c ≠ b := by rintro rfl; rw [hb] at hd; cases hd
  have hcv : c ∈ v := by simpa [hne] using hm.1
  rw [isNum]
  split
  ·cases v
   ·simp at hcv
   ·rfl
  ·exact List.all_eq_false.2 ⟨c, by simp [hcv], by rw [hd]; decide⟩
 refine ⟨fun h => (by cases h), fun _ => ?_⟩
 rw [first_of n1 n2 n3, hv, h1, h2]; rfl
theorem one_key {r u : List UInt8} {a : Nat} {ok : Bool} (hu : r.takeWhile sym = u) (hok : isSym u = ok) : OneIs (58 :: r) a (5, u) (a + 1 + u.length) ok := by
 have e : first (58 :: r) = if isSym u = true then some ((5, u), 1 + u.length) else none := by
  rw [first, if_neg (by decide), if_neg (by decide), if_pos rfl, hu]
 rw [hok] at e
 refine ⟨fun h => ⟨?_, by omega⟩, fun h => ?_⟩
 ·rw [e, h, show a + 1 + u.length - a = 1 + u.length by omega]; rfl
 ·rw [e, h]; rfl
theorem one_sym {b : UInt8} {r u : List UInt8} {a : Nat} {ok : Bool} (h0 : dig b = false) (h1 : sym b = true) (hu : (b :: r).takeWhile sym = u) (hok : isSym u = ok) : OneIs (b :: r) a (4, u) (a + u.length) ok := by
 obtain ⟨n1, n2, n3, _⟩ := sym_not h1
 have hh : isNum u = false := by
  rw [← hu, List.takeWhile_cons, if_pos h1]; exact isNum_head h0
 have e := first_of (r := r) n1 n2 n3
 rw [hu, hh, hok] at e
 refine ⟨fun h => ⟨?_, by omega⟩, fun h => ?_⟩
 ·rw [e, h, show a + u.length - a = u.length by omega]; rfl
 ·rw [e, h]; rfl
theorem one_no {b : UInt8} {r : List UInt8} {a m : Nat} {t : Tok} (n1 : b ≠ 40) (n2 : b ≠ 41) (n3 : b ≠ 58) (h1 : sym b = false) : OneIs (b :: r) a t m false := by
 refine ⟨fun h => (by cases h), fun _ => ?_⟩
 have hv : (b :: r).takeWhile sym = [] := by rw [List.takeWhile_cons, h1]; rfl
 rw [first_of n1 n2 n3, hv]; rfl
theorem one_par {b : UInt8} {r : List UInt8} {a : Nat} : (b = 40 → OneIs (b :: r) a (1, []) (a + 1) true) ∧ (b = 41 → OneIs (b :: r) a (2, []) (a + 1) true) := by
 refine ⟨?_, ?_⟩
 ·rintro rfl
  exact ⟨fun _ => ⟨by rw [first, if_pos rfl, show a + 1 - a = 1 by omega], by omega⟩, fun h => by cases h⟩
 ·rintro rfl
  exact ⟨fun _ => ⟨by rw [first, if_neg (by decide), if_pos rfl, show a + 1 - a = 1 by omega], by omega⟩, fun h => by cases h⟩
end M
end Go.Proofs.Ytceplnfjlncekaa
