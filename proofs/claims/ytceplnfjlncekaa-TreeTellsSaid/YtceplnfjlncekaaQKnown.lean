/-
  Contracts: 'few' and 'known' of layer 8's laws.
-/
import Derived.Test.YtceplnfjlncekaaQRefE
namespace Go.Proofs.Ytceplnfjlncekaa
set_option linter.unusedSimpArgs false
set_option linter.unusedVariables false
open Go.RowKit

namespace M
def few (ts : List Tok) : Bool := ts.all (fun t => decide (t.2.length ≤ 40)) && decide (ts.length ≤ 60)
theorem few_parts {ts : List Tok} (h : few ts = true) : (∀ t ∈ ts, t.2.length ≤ 40) ∧ ts.length ≤ 60 := by
 unfold few at h
 simpa using h
theorem word_le (t : Tok) : (word t).length ≤ t.2.length + 1 := by
 unfold word
 split
 ·simp
 ·split
  ·simp
  ·split
   ·simp
   ·omega
theorem print_le : ∀ {ts : List Tok} {n : Nat}, (∀ t ∈ ts, t.2.length ≤ n) → (print ts).length ≤ ts.length * (n + 2)
 | [], _, _ => Nat.zero_le _
 | t :: r, n, h => by
  have key : ∀ r : List Tok, (∀ t ∈ r, t.2.length ≤ n) → ((r.map fun x => 32 :: word x).flatten).length ≤ r.length * (n + 2) := by
   intro r
   induction r with
   | nil => intro _; simp
   | cons x s ih =>
    intro hx
    have h1 := word_le x
    have h2 := hx x (by simp)
    have h3 := ih (fun t ht => hx t (by simp [ht]))
    rw [List.map_cons, List.flatten_cons, List.length_append, List.length_cons, List.length_cons, Nat.add_mul]
    omega
  have h1 := word_le t
  have h2 := h t (by simp)
  have h3 := key r (fun x hx => h x (by simp [hx]))
  rw [print, List.length_append, List.length_cons, Nat.add_mul]
  omega
theorem few_print {ts : List Tok} (h : few ts = true) : (print ts).length ≤ 2520 := by
 obtain ⟨h1, h2⟩ := few_parts h
 have := print_le h1
 omega
end M
def K1 : List UInt8 := [40, 97, 32, 58, 98, 32, 49, 48, 41, 59, 32, 99, 10, 41]
def K2 : List UInt8 := [97, 32, 48, 49]
def T1 : List M.Tok := [(1, []), (4, [97]), (5, [98]), (3, [49, 48]), (2, []), (2, [])]
theorem k1_toks : M.wToks K1 = T1 := by decide +kernel
theorem k1_at : M.wAt K1 = 14 := by decide +kernel
theorem k1_err : M.wErr K1 = 0 := by decide +kernel
theorem k2_toks : M.wToks K2 = [] := by decide +kernel
theorem k2_at : M.wAt K2 = 2 := by decide +kernel
theorem k2_err : M.wErr K2 = 14 := by decide +kernel
theorem t1_print : M.print T1 = [40, 32, 97, 32, 58, 98, 32, 49, 48, 32, 41, 32, 41] := by decide +kernel
end Go.Proofs.Ytceplnfjlncekaa
