/-
  What stands inside the brackets, by three looks, in mathematics.
-/
import Derived.Test.YthlafkbldlmmaaaDoorTRNatl
namespace Go.Proofs.YthlafkbldlmmaaaDoor
set_option linter.unusedSimpArgs false
set_option linter.unusedVariables false
open Go.RowKit
namespace M
open Go.Lib (decDigits nDigits)
theorem take_last {m : List UInt8} {c : UInt8} (hc : m[m.length - 1]? = some c) (hm : 0 < m.length) : m = m.take (m.length - 1) ++ [c] := by
  have h := List.take_add_one (l := m) (i := m.length - 1)
  rw [hc, show m.length - 1 + 1 = m.length by omega, List.take_length] at h
  exact h
theorem inside_yes {l d : List UInt8} {c : UInt8} (h4 : 4 < l.length) (ht : l.take 3 = [40, 45, 32]) (hc : l[l.length - 1]? = some c) (h41 : c = 41) (hd : d = (l.drop 3).take (l.length - 1 - 3)) : inside l = (d, true) := by
  have e : l = l.take 3 ++ l.drop 3 := (List.take_append_drop 3 l).symm
  have hm : (l.drop 3).length = l.length - 3 := by simp
  have h2 := take_last (m := l.drop 3) (c := c) (by rw [List.getElem?_drop, hm, show 3 + (l.length - 3 - 1) = l.length - 1 by omega]; exact hc) (by omega)
  rw [hm, show l.length - 3 - 1 = l.length - 1 - 3 by omega, ← hd, h41] at h2
  rw [ht, h2] at e
  rw [e]; exact inside_in d
theorem prefix_of {l : List UInt8} (h : Lib.hasPrefix l [40, 45, 32] = true) : ∃ m, l = 40 :: 45 :: 32 :: m := by
  unfold Lib.hasPrefix at h
  rw [List.isPrefixOf_iff_prefix] at h
  obtain ⟨t, ht⟩ := h
  exact ⟨t, ht.symm⟩
theorem suffix_of {m : List UInt8} (h : Lib.hasSuffix m [41] = true) : ∃ t, m = t ++ [41] := by
  unfold Lib.hasSuffix at h
  rw [List.isSuffixOf_iff_suffix] at h
  obtain ⟨t, ht⟩ := h
  exact ⟨t, ht.symm⟩
theorem inside_look (l : List UInt8) : inside l = (l, false) ∨ ∃ t, l = 40 :: 45 :: 32 :: (t ++ [41]) := by
  cases hp : Lib.hasPrefix l [40, 45, 32]
  · exact .inl (inside_no hp)
  · obtain ⟨m, rfl⟩ := prefix_of hp
    cases hs : Lib.hasSuffix m [41]
    · exact .inl (inside_nosuf hs)
    · obtain ⟨t, rfl⟩ := suffix_of hs
      exact .inr ⟨t, rfl⟩
theorem inside_pre {l : List UInt8} (h : (l.take 3 == [40, 45, 32]) = false) : inside l = (l, false) := by
  rcases inside_look l with h1 | ⟨t, rfl⟩
  · exact h1
  · simp at h
theorem inside_suf {l : List UInt8} {c : UInt8} (hc : l[l.length - 1]? = some c) (h : c ≠ 41) : inside l = (l, false) := by
  rcases inside_look l with h1 | ⟨t, rfl⟩
  · exact h1
  · exfalso
    apply h
    have e : (40 :: 45 :: 32 :: (t ++ [41]) : List UInt8)[(40 :: 45 :: 32 :: (t ++ [41]) : List UInt8).length - 1]? = some 41 := by
      rw [← List.getLast?_eq_getElem?]
      show ((40 :: 45 :: 32 :: t) ++ [41] : List UInt8).getLast? = some 41
      exact List.getLast?_concat
    rw [e] at hc
    injection hc with hc
    exact hc.symm
theorem inside_short {l : List UInt8} (h : ¬ 4 < l.length) : inside l = (l, false) ∨ l = [40, 45, 32, 41] := by
  rcases inside_look l with h1 | ⟨t, rfl⟩
  · exact .inl h1
  · refine .inr ?_
    cases t with
    | nil => rfl
    | cons a r => simp at h
theorem short_bad : perr [40, 45, 32, 41] = 10 ∧ pval [40, 45, 32, 41] = 0 ∧ numeral [40, 45, 32, 41] = false := by decide +kernel
end M
end Go.Proofs.YthlafkbldlmmaaaDoor
