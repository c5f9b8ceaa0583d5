/-
  Layer 12's laws: Of of what isn't negative, its limbs on new memory.
-/
import Derived.Test.YtkhmgdfhggejaaaGreatDoorWVJ
namespace Go.Proofs.YtkhmgdfhggejaaaGreatDoor.Q
set_option linter.unusedSimpArgs false
set_option linter.unusedVariables false
open Go.RowKit
section
variable {P : Program} {ops : Array Oper} {Q : Exit → Act → World → Prop} {i j k : Nat} {r s t : Route} {a : Act} {w : World}
end
namespace M
theorem vIs_vz (Z : Int) : vIs (vz 2 Z) 2 = true := by
 unfold vIs
 rw [show M.isZ (vz 2 Z).2.1 (vz 2 Z).2.2 = true from M.isZ_of Z]
 rfl
end M
def VBytes (w : World) (v : Value) (xs : List Nat) : Prop := ∃ A n c, v = .slice A n c ∧ n = xs.length ∧ n ≤ c ∧ c ≤ maxLen ∧ ∀ (k x : Nat), xs[k]? = some x → x ≤ 255 ∧ ∃ ad, A = some ad ∧ ad.block < w.heap.size ∧ w.cell? (ad.add k) = some (.int .u8 (x : Int))
theorem VBytes.up {w w' : World} {v : Value} {xs : List Nat} (h : VBytes w v xs) (e : Ext w w') : VBytes w' v xs := by
 obtain ⟨A, n, c, h1, h2, h3, h4, h5⟩ := h
 refine ⟨A, n, c, h1, h2, h3, h4, fun k x hk => ?_⟩
 obtain ⟨hx, ad, ha, hb, hc⟩ := h5 k x hk
 exact ⟨hx, ad, ha, Nat.lt_of_lt_of_le hb e.size, e.cell hc⟩
end Go.Proofs.YtkhmgdfhggejaaaGreatDoor.Q
