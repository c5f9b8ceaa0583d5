/-
  Contracts of package lex: what lies ahead of a word; a word's token; what is printed of one.
-/
import Derived.Test.YtkhmgdfhggejaaaGreatDoorWJQA
namespace Go.Proofs.YtkhmgdfhggejaaaGreatDoor.Q
set_option linter.unusedSimpArgs false
set_option linter.unusedVariables false
open Go.RowKit
namespace M
end M
theorem clone_n (l : List UInt8) (hl : l.length ≤ 1000000000000) (w : World) : Calls Tryz.prog 105 #[str l] w (GivesT w l) := by
 have hc := fun w => Tryz.stringslite_Clone ⟨l.toArray⟩ w (by rw [Lib.size_eq]; simp; omega)
 have HC := hid hc
 clear hc
 go_enter Tryz.func105, Tryz.ntmps105
 go_wp2_with fail
 refine (HC.out _).mono ?_
 rintro e w' ⟨rfl, hb⟩
 have E := hid hb
 clear hb
 go_wp2
 go_ret
 exact ⟨rfl, E.out⟩
namespace M
end M
namespace M
def WordsAt (s : List UInt8) (ts : List Tok) (k : Nat) : Prop := scan s = (ts ++ (scan (s.drop k)).1, (scan (s.drop k)).2) ∧ k ≤ s.length ∧ ts.length ≤ k
def Gapped (s : List UInt8) (k : Nat) : Prop := skip (s.drop k) = s.drop k
theorem WordsAt.zero (s : List UInt8) : WordsAt s [] 0 := ⟨by simp, by simp, by simp⟩
theorem WordsAt.gap {s : List UInt8} {ts : List Tok} {k : Nat} (h : WordsAt s ts k) {u : List UInt8} (hu : s.drop k = u) : WordsAt s ts (k + (u.length - (skip u).length)) ∧ Gapped s (k + (u.length - (skip u).length)) := by
 have e : s.drop (k + (u.length - (skip u).length)) = skip u := by rw [← List.drop_drop, hu, ← skip_drop]
 obtain ⟨h1, h2, h3⟩ := h
 have hul : u.length = s.length - k := by rw [← hu, List.length_drop]
 refine ⟨⟨?_, by omega, by omega⟩, ?_⟩
 ·rw [e, scan_skip, ← hu]; exact h1
 ·unfold Gapped; rw [e]; exact skip_idem u
theorem WordsAt.done {s : List UInt8} {ts : List Tok} {k : Nat} (h : WordsAt s ts k) (hk : k = s.length) : scan s = (ts, none) := by
 obtain ⟨h1, _, _⟩ := h
 rw [h1, hk, List.drop_length, scan_nil skip_nil]
 simp
def cells (ts : List Tok) : List Value := (ts.map fun t => [Value.int .i64 t.1, str t.2]).flatten
end M
def TList (w : World) (v : Value) (ts : List M.Tok) : Prop := ∃ A n c, v = .slice A n c ∧ n = ts.length ∧ n ≤ c ∧ c ≤ maxLen ∧
 (ts ≠ [] → ∃ ad, A = some ad ∧ ad.block < w.heap.size ∧ ∀ k t, ts[k]? = some t → w.cell? (ad.add (k * 2)) = some (.int .i64 t.1) ∧ w.cell? ((ad.add (k * 2)).add 1) = some (str t.2))
theorem TList.nil (w : World) : TList w (.slice none 0 0) [] := ⟨none, 0, 0, rfl, rfl, Nat.le_refl _, Nat.zero_le _, fun h => absurd rfl h⟩
theorem TList.up {w w' : World} {v : Value} {ts : List M.Tok} (h : TList w v ts) (e : Ext w w') : TList w' v ts := by
 obtain ⟨A, n, c, h1, h2, h3, h4, h5⟩ := h
 refine ⟨A, n, c, h1, h2, h3, h4, fun hne => ?_⟩
 obtain ⟨ad, ha, hb, hc⟩ := h5 hne
 exact ⟨ad, ha, Nat.lt_of_lt_of_le hb e.size, fun k t hk => ⟨e.cell (hc k t hk).1, e.cell (hc k t hk).2⟩⟩
theorem TList.shape {w : World} {v : Value} {ts : List M.Tok} (h : TList w v ts) : ∃ A c, v = .slice A ts.length c := by
 obtain ⟨A, n, c, h1, h2, _⟩ := h
 exact ⟨A, c, by rw [h1, h2]⟩
theorem TList.get {w : World} {A : Option Addr} {n c : Nat} {ts : List M.Tok} (h : TList w (.slice A n c) ts) {k : Nat} (hk : k < ts.length) :
 ∃ ad t, A = some ad ∧ ts[k]? = some t ∧ w.cell? (ad.add (k * 2)) = some (.int .i64 t.1) ∧ w.cell? ⟨(ad.add (k * 2)).block, (ad.add (k * 2)).off + 1, none⟩ = some (str t.2) := by
 obtain ⟨A', n', c', e, h2, h3, h4, h5⟩ := h
 injection e with e1 e2 e3
 obtain ⟨ad, ha, hb, hc⟩ := h5 (by intro e; subst e; simp at hk)
 have hk' := List.getElem?_eq_getElem hk
 obtain ⟨c0, c1⟩ := hc k _ hk'
 exact ⟨ad, _, by rw [e1, ha], hk', c0, c1⟩
namespace M
end M
end Go.Proofs.YtkhmgdfhggejaaaGreatDoor.Q
