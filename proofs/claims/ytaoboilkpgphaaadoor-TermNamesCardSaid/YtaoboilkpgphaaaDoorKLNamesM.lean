/-
  Layer 10, mathematics: the names of a term made of others.
-/
import Derived.Test.YtaoboilkpgphaaaDoorKLSoundM
import Derived.Test.YtaoboilkpgphaaaDoorKTSearch
namespace Go.Proofs.YtaoboilkpgphaaaDoor.Q
set_option linter.unusedSimpArgs false
set_option linter.unusedVariables false
namespace M
/-- The letter of the k-th name. -/
def vC (k : Nat) : Nat := 97 + (k * 5) % 12
def vT (k : Nat) : Tm := .mk 4 false [] [118, UInt8.ofNat (vC k)] 1 []
def vL : Nat → List Tm
 | 0 => []
 | k + 1 => vL k ++ [vT k]
theorem vL_len : ∀ k, (vL k).length = k
 | 0 => rfl
 | k + 1 => by rw [vL, List.length_append, vL_len k]; rfl
/-- A name that is there already, of a number. -/
def one1 : Tm := .mk 1 false [1] [] 2 []
def fS : Sg := ⟨[118, 97], [2], 1⟩
def fT : Tm := .mk 4 false [] [118, 97] 1 [one1]
def vA (k : Nat) (tw : Bool) : List Tm := if tw = true then vL k ++ [fT] else vL k
def vO (k : Nat) (tw : Bool) : Tm := .mk 7 false [] [] 1 (vA k tw)
theorem limbs_1 : M.limbs 1 = [1] := by rw [M.limbs, if_neg (by decide), show 1 / 1000000000 = 0 from rfl, M.limbs, if_pos rfl]
theorem knumT_one : knumT 1 = one1 := by
 unfold knumT one1
 rw [show decide ((1 : Int) < 0) = false from rfl, show (1 : Int).natAbs = 1 from rfl, limbs_1]
theorem f_make : kapp fS [one1] = (fT, 0) := by
 unfold kapp
 rw [if_neg (by decide), if_neg (by decide), if_neg (by decide), if_neg (by decide), if_neg (by decide)]
 rfl
def vok (k : Nat) (tw : Bool) : Bool := (decide ((kmake 7 (vA k tw)).2 = 0) && kIs (vO k tw)) && (kfew (vO k tw) && ((kSigs (vO k tw)).2 == !tw && (decide ((kSigs (vO k tw)).1.length = k) && (kfews (vA k tw) && decide ((vL k).length = k)))))
theorem vok_all : ∀ (k : Fin 12) (tw : Bool), vok (k.val + 1) tw = true := by decide +kernel
theorem v_parts {k : Nat} {tw : Bool} (h1 : 1 ≤ k) (h2 : k ≤ 12) : kmake 7 (vA k tw) = (vO k tw, 0) ∧ kIs (vO k tw) = true ∧ kfew (vO k tw) = true ∧ (kSigs (vO k tw)).2 = !tw ∧ (kSigs (vO k tw)).1.length = k ∧ kfews (vA k tw) = true ∧ (vL k).length = k := by
 obtain ⟨j, rfl⟩ : ∃ j, k = j + 1 := ⟨k - 1, by omega⟩
 have h := vok_all ⟨j, by omega⟩ tw
 simp only [vok, Bool.and_eq_true, decide_eq_true_eq, beq_iff_eq] at h
 obtain ⟨⟨a1, a2⟩, a3, a4, a5, a6, a7⟩ := h
 refine ⟨?_, a2, a3, a4, a5, a6, a7⟩
 rw [(kmake_ok a1).1]; rfl
end M
end Go.Proofs.YtaoboilkpgphaaaDoor.Q
