/-
  Layer 10, mathematics: as many nodes as may be, and one more.
-/
import Derived.Test.YtaoboilkpgphaaaDoorKLSoundM
namespace Go.Proofs.YtaoboilkpgphaaaDoor.Q
set_option linter.unusedSimpArgs false
set_option linter.unusedVariables false
namespace M
/-- The term of a name without kids. -/
def pB : Tm := .mk 4 false [] [112] 1 []
/-- Not of not of .. of it. -/
def notN : Nat → Tm
 | 0 => pB
 | n + 1 => .mk 5 false [] [] 1 [notN n]
theorem pB_is : kIs pB = true := by decide
theorem notN_cnt : ∀ n, kcnt (notN n) = n + 1
 | 0 => rfl
 | n + 1 => by rw [notN, kcnt, kcnts, notN_cnt n]; simp [kcnts]; omega
theorem notN_sort : ∀ n, (notN n).sort = 1
 | 0 => rfl
 | _ + 1 => rfl
theorem notN_few : ∀ n, kfew (notN n) = true
 | 0 => rfl
 | n + 1 => by rw [notN, kfew]; simp [kfews, notN_few n]
theorem notN_check {n : Nat} : kcheck 5 [notN n] = if 400 < n + 2 then 11 else 0 := by
 unfold kcheck
 have hs : ksorted 5 [notN n] = true := by unfold ksorted kall; simp [notN_sort]
 have hl : klin 5 [notN n] = 0 := rfl
 rw [hs, if_neg (by decide), hl, if_neg (by decide)]
 simp only [kcnts, notN_cnt]
 rw [show 1 + (n + 1 + 0) = n + 2 by omega]
theorem notN_is : ∀ {n : Nat}, n + 1 ≤ 400 → kIs (notN n) = true
 | 0, _ => pB_is
 | n + 1, h => kIs_made (op := 5) (l := [notN n]) ⟨by decide, by decide⟩ rfl (by unfold kIss; simp [notN_is (n := n) (by omega)]) (by rw [notN_check, if_neg (by omega)])
theorem notN_make {n : Nat} (h : n + 1 ≤ 400) : kmake 5 [notN n] = if n + 2 ≤ 400 then (notN (n + 1), 0) else (K0, 11) := by
 unfold kmake
 have hi : kIss [notN n] = true := by unfold kIss; simp [notN_is h]
 rw [if_neg (by decide), if_neg (show ¬ kargs 5 [notN n].length = false by show ¬ kargs 5 1 = false; decide), hi, if_neg (by decide), notN_check]
 by_cases h2 : n + 2 ≤ 400
 ·rw [if_pos h2, if_neg (show ¬ 400 < n + 2 by omega), if_neg (by decide)]; rfl
 ·rw [if_neg h2, if_pos (show 400 < n + 2 by omega), if_pos (by decide)]
/-- So many of one. -/
def repB (k : Nat) : List Tm := List.replicate k pB
theorem repB_cnt : ∀ k, kcnts (repB k) = k
 | 0 => rfl
 | k + 1 => by
  have := repB_cnt k
  unfold repB at this ⊢
  rw [List.replicate_succ, kcnts, this]
  show 1 + k = k + 1
  omega
theorem repB_few : ∀ k, kfews (repB k) = true
 | 0 => rfl
 | k + 1 => by
  have := repB_few k
  unfold repB at this ⊢
  rw [List.replicate_succ, kfews, this]; rfl
theorem repB_is (k : Nat) : kIss (repB k) = true := by
 unfold kIss repB
 rw [List.all_replicate]
 simp [pB_is]
theorem repB_len (k : Nat) : (repB k).length = k := List.length_replicate
theorem repB_succ (k : Nat) : repB k ++ [pB] = repB (k + 1) := by
 unfold repB
 rw [List.replicate_succ']
theorem repB_check (k : Nat) : kcheck 6 (repB k) = if 400 < 1 + k then 11 else 0 := by
 unfold kcheck
 have hs : ksorted 6 (repB k) = true := by
  unfold ksorted kall repB
  rw [if_pos (by decide), List.all_replicate]
  simp [pB, Tm.sort]
 have hl : klin 6 (repB k) = 0 := rfl
 rw [hs, if_neg (by decide), hl, if_neg (by decide), repB_cnt]
theorem repB_make {k : Nat} (h1 : 1 ≤ k) : kmake 6 (repB k) = if k + 1 ≤ 400 then (.mk 6 false [] [] 1 (repB k), 0) else (K0, 11) := by
 unfold kmake
 have ha : kargs 6 (repB k).length = true := by
  rw [repB_len]
  unfold kargs
  rw [if_neg (by decide), if_neg (by decide), if_neg (by decide)]
  simpa using h1
 rw [if_neg (by decide), ha, if_neg (by decide), repB_is, if_neg (by decide), repB_check]
 by_cases h2 : k + 1 ≤ 400
 ·rw [if_pos h2, if_neg (show ¬ 400 < 1 + k by omega), if_neg (by decide)]; rfl
 ·rw [if_neg h2, if_pos (show 400 < 1 + k by omega), if_pos (by decide)]
theorem andN_is {k : Nat} (h1 : 1 ≤ k) (h2 : k + 1 ≤ 400) : kIs (.mk 6 false [] [] 1 (repB k)) = true := by
 refine kIs_made (op := 6) (l := repB k) ⟨by decide, by decide⟩ ?_ (repB_is k) (by rw [repB_check, if_neg (by omega)])
 rw [repB_len]
 unfold kargs
 rw [if_neg (by decide), if_neg (by decide), if_neg (by decide)]
 simpa using h1
theorem andN_few (k : Nat) : kfew (.mk 6 false [] [] 1 (repB k)) = true := by
 rw [kfew]; simp [repB_few]
theorem andN_cnt (k : Nat) : kcnt (.mk 6 false [] [] 1 (repB k)) = k + 1 := by
 rw [kcnt, repB_cnt]; omega
end M
end Go.Proofs.YtaoboilkpgphaaaDoor.Q
