/-
  Contracts of the reference's functions on rows of limbs (package mullionref1): the same numbers.
-/
import Derived.Test.YtkhmgdfhggejaaaGreatDoorWJB
import Derived.Deep.CutRange
import Derived.Deep.CutBlock
namespace Go.Proofs.YtkhmgdfhggejaaaGreatDoor
set_option linter.unusedSimpArgs false
set_option linter.unusedVariables false
open Go.RowKit

namespace M
/- the reference's sums and products, by value -/
end M

theorem rIs_any (w : World) (v : Value) (l : List Nat) {C : Nat} (hv : Num w C v l) :
 Calls Tryz.prog 85 #[v] w fun e w' => e = .returned (.bool (M.isNat l)) ∧ w = w' := by
 obtain ⟨A, n, c, rfl, hn, hc, hm, hs, hr⟩ := hv
 have hb : n ≤ 9223372036854775807 := by unfold maxLen at hm; omega
 have HR := hid hr
 have HN := hid hn
 have HS := hid hs
 clear hr hn hs hm hc
 go_enter Tryz.func85, Tryz.ntmps85
 go_wp2
 go_loop [3] (fun i => ∃ k : Nat, k ≤ n ∧ i = .int .i64 k ∧ M.small (l.take k) = true) (fun i => n - (intOf i).toNat)
 case atStart => exact ⟨0, Nat.zero_le _, rfl, rfl⟩
 case round =>
  obtain ⟨k, hk, rfl, hsm⟩ := hrel
  have HSM := hid hsm
  clear hsm
  by_cases hlt : k < n
  ·obtain ⟨ad, x, rfl, _, HX, hcell⟩ := HR.out.get (k := k) (by rw [← HN.out]; exact hlt)
   by_cases hx : (x : Int) < 1000000000
   ·have hx1 := dec_lt hx
    have HX2 := hid hx
    clear hx
    go_wp2
    go_round
    case rel => exact ⟨k + 1, by omega, by go_num, M.small_snoc HX.out HSM.out (by have := HX2.out; omega)⟩
    case measure => simp [intOf]; all_goals omega
   ·have hx1 : (1000000000 : Int) ≤ x := by omega
    go_wp2
    go_ret
    exact ⟨ret_bool (M.isNat_big HX.out (by omega)).symm, rfl⟩
  ·by_cases h0 : n = 0
   ·subst h0
    go_wp2
    go_ret
    have : l = [] := List.eq_nil_of_length_eq_zero HN.out.symm
    exact ⟨by subst this; rfl, rfl⟩
   ·obtain ⟨ad, x, rfl, _, HX, hcell⟩ := HR.out.get (k := n - 1) (by rw [← HN.out]; omega)
    have h1 : 1 ≤ n := by omega
    go_wp2
    go_ret
    have e : M.isNat l = decide (x ≠ 0) := M.isNat_end (by have := HSM.out; rwa [List.take_of_length_le (by rw [← HN.out]; omega)] at this) (by rw [← HN.out]; exact HX.out)
    refine ⟨?_, rfl⟩
    rw [e]
    have : ¬ (n : Int) = 0 := by omega
    congr 2
    by_cases hx : x = 0 <;> simp [hx, this]
    all_goals omega

end Go.Proofs.YtkhmgdfhggejaaaGreatDoor

/-
  Contracts of the reference's sum and difference.
-/
namespace Go.Proofs.YtkhmgdfhggejaaaGreatDoor
set_option linter.unusedSimpArgs false
set_option linter.unusedVariables false
open Go.RowKit

end Go.Proofs.YtkhmgdfhggejaaaGreatDoor

/-
  Contract of the reference's difference.
-/
namespace Go.Proofs.YtkhmgdfhggejaaaGreatDoor
set_option linter.unusedSimpArgs false
set_option linter.unusedVariables false
open Go.RowKit

end Go.Proofs.YtkhmgdfhggejaaaGreatDoor

