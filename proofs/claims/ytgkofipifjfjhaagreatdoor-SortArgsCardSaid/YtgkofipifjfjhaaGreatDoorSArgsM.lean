/-
  Layer 11's laws, mathematics: what is said of SortArgs' trees.
-/
import Derived.Test.YtgkofipifjfjhaaGreatDoorJSF
namespace Go.Proofs.YtgkofipifjfjhaaGreatDoor.Q
set_option linter.unusedSimpArgs false
set_option linter.unusedVariables false
open Go.RowKit
namespace M
def argS (k : Nat) : Sg := ⟨[102], List.replicate k 2, 1⟩
/-- The kids: numbers, the last one `true` if asked. -/
def argEl (j : Nat) (bo : Bool) : Nat → T := fun i => if bo = true ∧ i + 1 = j then SY [116, 114, 117, 101] else NU [51]
def argT (j : Nat) (bo : Bool) : T := LI (SY [102] :: (List.range j).map (argEl j bo))
def argE (k j : Nat) (bo : Bool) : Int := if j ≠ k then 18 else if bo = true ∧ 0 < j then 17 else 0
theorem rTerm_ok (hb : List UInt8 → Bool) (l : List Sg) (t : T) : okR (rTerm hb l t) := by
  unfold rTerm
  split
  · exact rd_ok _ _ _ _ _ goodB_nil
  · exact okR_err (by decide)
theorem arg_errs : ∀ k : Fin 4, ∀ j : Fin 5, ∀ bo : Bool, (rTerm barred [argS k] (argT j bo)).2 = argE k j bo := by decide +kernel
theorem arg_terms : ∀ k : Fin 4, ∀ j : Fin 5, ∀ bo : Bool, argE k j bo = 0 → (rTerm barred [argS k] (argT j bo)).1.op = 4 ∧ (rTerm barred [argS k] (argT j bo)).1.sort = 1 ∧ (rTerm barred [argS k] (argT j bo)).1.kids.length = k.val := by decide +kernel
theorem arg_name : ∀ k : Fin 4, (rTerm barred [argS k] (SY [102])).2 = if k.val = 0 then 0 else 18 := by decide +kernel
theorem arg_txt : ∀ j : Fin 5, ∀ bo : Bool, txtN (argT j bo) = true := by decide +kernel
/- SortWords: the operators' words, by number. -/
def wordKids (k : Nat) : List T := if k = 0 then [SY [112]] else if k ≤ 6 then [SY [112], SY [112]] else if k = 7 then [SY [112], NU [49], NU [50]] else if k = 13 then [NU [49]] else [NU [55], NU [50]]
def wordP : Sg := ⟨[112], [], 1⟩
theorem word_terms : ∀ k : Fin 18, (rTerm barred [wordP] (LI (SY (opWords.getD (k + 5) []) :: wordKids k))).2 = 0 ∧ (rTerm barred [wordP] (LI (SY (opWords.getD (k + 5) []) :: wordKids k))).1.op = ((5 + k.val : Nat) : Int) ∧ (rTerm barred [wordP] (LI (SY (opWords.getD (k + 5) []) :: wordKids k))).1.kids.length = (wordKids k).length := by decide +kernel
theorem word_name : ∀ k : Fin 18, rTerm barred [] (SY (opWords.getD (k + 5) [])) = (K0, 16) := fun k => by
  have h : ∀ k : Fin 18, (rTerm barred [] (SY (opWords.getD (k + 5) []))).2 = 16 := by decide +kernel
  have h2 := (rTerm_ok barred [] (SY (opWords.getD (k + 5) []))).2 (by rw [h k]; decide)
  exact Prod.ext h2 (h k)
theorem word_x : ∀ k : Fin 18, (rTerm barred [wordP] (LI (SY (opWords.getD (k + 5) [] ++ [120]) :: wordKids k))).2 = 16 := by decide +kernel
theorem word_txt : ∀ k : Fin 18, (opWords.getD (k + 5) []).length ≤ 20 := by decide +kernel
theorem word_at : ∀ k : Fin 18, (opWords.drop 5)[k.val]? = some (opWords.getD (k + 5) []) := by decide +kernel
theorem wordKids_txt (k : Nat) : txtNs (wordKids k) = true := by unfold wordKids; split <;> (try split) <;> (try split) <;> (try split) <;> simp [txtN, txtNs]
theorem word_resv : ∀ k : Fin 18, resv (opWords.getD (k + 5) []) = true ∧ resv (opWords.getD (k + 5) [] ++ [120]) = false := by decide +kernel
end M
end Go.Proofs.YtgkofipifjfjhaaGreatDoor.Q
