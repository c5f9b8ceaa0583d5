/-
  Contracts of the reference's functions on rows of limbs (package mullionref1): the same numbers.
-/
import Derived.Test.YtaoboilkpgphaaaDoorJB
import Derived.Deep.CutRange
import Derived.Deep.CutBlock
namespace Go.Proofs.YtaoboilkpgphaaaDoor
set_option linter.unusedSimpArgs false
set_option linter.unusedVariables false
open Go.RowKit

namespace M
/- the reference's sums and products, by value -/
theorem rsum_step {S c k a b a' b' x y P V : Nat} (h : S = V + P * (c + (a + b))) (ha : a = x + 1000000000 * a') (hb : b = y + 1000000000 * b') (hk : k = c + x + y) : S = (V + P * (k % 1000000000)) + P * 1000000000 * (k / 1000000000 + (a' + b')) := by
 have h1 : c + (a + b) = k % 1000000000 + 1000000000 * (k / 1000000000 + (a' + b')) := by omega
 rw [h, h1, Nat.mul_add P, ← Nat.mul_assoc]
 omega
theorem rsmall_step {S c k a a' x m P V p : Nat} (h : S = V + P * (c + a * m)) (ha : a = x + 1000000000 * a') (hp : p = x * m) (hk : k = c + p) : S = (V + P * (k % 1000000000)) + P * 1000000000 * (k / 1000000000 + a' * m) := by
 have h0 : a * m = p + 1000000000 * (a' * m) := by rw [ha, Nat.add_mul, hp, Nat.mul_assoc]
 have h1 : c + a * m = k % 1000000000 + 1000000000 * (k / 1000000000 + a' * m) := by omega
 rw [h, h1, Nat.mul_add P, ← Nat.mul_assoc]
 omega
theorem val_snoc (l : List Nat) (x : Nat) : val (l ++ [x]) = val l + 1000000000 ^ l.length * x := by rw [val_append]; simp [val]
theorem val_drop_get {l : List Nat} {i x : Nat} (h : l[i]? = some x) : val (l.drop i) = x + 1000000000 * val (l.drop (i + 1)) := by rw [drop_at h]; rfl
theorem val_drop_none {l : List Nat} {i : Nat} (h : l.length ≤ i) : val (l.drop i) = 0 + 1000000000 * val (l.drop (i + 1)) := by
 rw [List.drop_eq_nil_of_le h, List.drop_eq_nil_of_le (by omega)]; rfl
end M

theorem rIs_any (w : World) (v : Value) (l : List Nat) {C : Nat} (hv : Num w C v l) :
 Calls Tryd.prog 81 #[v] w fun e w' => e = .returned (.bool (M.isNat l)) ∧ w = w' := by
 obtain ⟨A, n, c, rfl, hn, hc, hm, hs, hr⟩ := hv
 have hb : n ≤ 9223372036854775807 := by unfold maxLen at hm; omega
 have HR := hid hr
 have HN := hid hn
 have HS := hid hs
 clear hr hn hs hm hc
 go_enter Tryd.func81, Tryd.ntmps81
 go_wp2
 go_loop [3] (fun i => ∃ k : Nat, k ≤ n ∧ i = .int .i64 k ∧ M.small (l.take k) = true) (fun i => n - (intOf i).toNat)
 case atStart => exact ⟨0, Nat.zero_le _, rfl, rfl⟩
 case round =>
  obtain ⟨k, hk, rfl, hsm⟩ := hrel
  have HSM := hid hsm
  clear hsm
  by_cases hlt : k < n
  ·obtain ⟨ad, x, rfl, _, HX, hcell⟩ := HR.out.get (k := k) (by rw [← HN.out]; exact hlt)
   by_cases hx : (x : Int) < 1000000000
   ·have hx1 := dec_lt hx
    have HX2 := hid hx
    clear hx
    go_wp2
    go_round
    case rel => exact ⟨k + 1, by omega, by go_num, M.small_snoc HX.out HSM.out (by have := HX2.out; omega)⟩
    case measure => simp [intOf]; all_goals omega
   ·have hx1 : (1000000000 : Int) ≤ x := by omega
    go_wp2
    go_ret
    exact ⟨ret_bool (M.isNat_big HX.out (by omega)).symm, rfl⟩
  ·by_cases h0 : n = 0
   ·subst h0
    go_wp2
    go_ret
    have : l = [] := List.eq_nil_of_length_eq_zero HN.out.symm
    exact ⟨by subst this; rfl, rfl⟩
   ·obtain ⟨ad, x, rfl, _, HX, hcell⟩ := HR.out.get (k := n - 1) (by rw [← HN.out]; omega)
    have h1 : 1 ≤ n := by omega
    go_wp2
    go_ret
    have e : M.isNat l = decide (x ≠ 0) := M.isNat_end (by have := HSM.out; rwa [List.take_of_length_le (by rw [← HN.out]; omega)] at this) (by rw [← HN.out]; exact HX.out)
    refine ⟨?_, rfl⟩
    rw [e]
    have : ¬ (n : Int) = 0 := by omega
    congr 2
    by_cases hx : x = 0 <;> simp [hx, this]
    all_goals omega

end Go.Proofs.YtaoboilkpgphaaaDoor

