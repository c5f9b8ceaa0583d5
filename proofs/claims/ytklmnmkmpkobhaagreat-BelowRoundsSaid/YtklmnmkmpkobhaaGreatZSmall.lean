/-
  Contract of whole.Small: as a number of 64 bits, and whether it fits.
-/
import Derived.Test.YtklmnmkmpkobhaaGreatJZ
namespace Go.Proofs.YtklmnmkmpkobhaaGreat
open Go.RowKit
set_option linter.unusedSimpArgs false
set_option linter.unusedVariables false

namespace M
def most (Z : Int) : Nat := if Z < 0 then 9223372036854775808 else 9223372036854775807
def fits (Z : Int) : Prop := -9223372036854775808 ≤ Z ∧ Z ≤ 9223372036854775807
theorem wrap64_eq (n : Int) : wrap64 n = IntKind.i64.wrap n := by rw [IntKind.wrap_i64]; unfold wrap64; omega
theorem most_side (Z : Int) : (Z.sign < 0 → (most Z : Int) = 9223372036854775808) ∧ (0 ≤ Z.sign → (most Z : Int) = 9223372036854775807) := by
 unfold most
 rcases sign_cases Z with ⟨h, e⟩ | ⟨h, e⟩ | ⟨h, e⟩ <;> rw [e]
 ·rw [if_pos h]; exact ⟨fun _ => rfl, fun h => absurd h (by decide)⟩
 ·rw [if_neg (by omega)]; exact ⟨fun h => absurd h (by decide), fun _ => rfl⟩
 ·rw [if_neg (by omega)]; exact ⟨fun h => absurd h (by decide), fun _ => rfl⟩
theorem most_le (Z : Int) : (most Z : Int) ≤ 18446744073709551615 := by unfold most; split <;> omega
theorem fits_iff (Z : Int) : fits Z ↔ Z.natAbs ≤ most Z := by unfold fits most; split <;> omega
theorem small_last {Z s a : Int} (hs : s = Z.sign) (ha : a = IntKind.i64.wrap (Z.natAbs : Int)) (hf : fits Z) : IntKind.i64.wrap (s * a) = Z := by
 subst hs ha
 unfold fits at hf
 rcases sign_cases Z with ⟨h, e⟩ | ⟨h, e⟩ | ⟨h, e⟩ <;> rw [e] <;> rw [IntKind.wrap_i64, IntKind.wrap_i64] <;> omega
theorem small_step {a a' : Int} {l : List Nat} {k x : Nat} (ha : a = IntKind.i64.wrap (val (l.drop (k + 1)) : Int)) (hx : l[k]? = some x) (h' : a' = wrap64 (wrap64 (a * 1000000000) + wrap64 (x : Int))) : a' = IntKind.i64.wrap (val (l.drop k) : Int) := by
 subst ha h'
 have e : val (l.drop k) = x + 1000000000 * val (l.drop (k + 1)) := by rw [drop_at hx]; rfl
 rw [e, IntKind.wrap_i64, IntKind.wrap_i64]
 unfold wrap64
 omega
end M

end Go.Proofs.YtklmnmkmpkobhaaGreat
