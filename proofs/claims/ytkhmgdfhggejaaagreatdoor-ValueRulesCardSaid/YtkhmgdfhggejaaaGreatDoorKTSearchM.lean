/-
  Layer 10, mathematics: names in order.
-/
import Derived.Test.YtkhmgdfhggejaaaGreatDoorWJKD
namespace Go.Proofs.YtkhmgdfhggejaaaGreatDoor.Q
set_option linter.unusedSimpArgs false
set_option linter.unusedVariables false
namespace M
theorem less_irrefl : ∀ (a : List UInt8), Go.Op.bytesLess a a = false
 | [] => rfl
 | x :: r => by
  have h : (x < x) = False := by simp
  simp [Go.Op.bytesLess, less_irrefl r]
theorem less_trans : ∀ {a b c : List UInt8}, Go.Op.bytesLess a b = true → Go.Op.bytesLess b c = true → Go.Op.bytesLess a c = true
 | _, [], _, h, _ => by simp [Go.Op.bytesLess] at h
 | _, _ :: _, [], _, h => by simp [Go.Op.bytesLess] at h
 | [], _ :: _, _ :: _, _, _ => rfl
 | x :: a, y :: b, z :: c, h1, h2 => by
  simp only [Go.Op.bytesLess, Bool.or_eq_true, Bool.and_eq_true, decide_eq_true_eq, beq_iff_eq] at h1 h2 ⊢
  rcases h1 with h1 | ⟨h1, h3⟩
  ·rcases h2 with h2 | ⟨h2, h4⟩
   ·exact .inl (UInt8.lt_trans h1 h2)
   ·subst h2; exact .inl h1
  ·subst h1
   rcases h2 with h2 | ⟨h2, h4⟩
   ·exact .inl h2
   ·exact .inr ⟨h2, less_trans h3 h4⟩
theorem cmpB_lt : ∀ (a b : List UInt8), decide (Lib.compareBytes a b < 0) = Go.Op.bytesLess a b
 | [], [] => rfl
 | [], _ :: _ => rfl
 | _ :: _, [] => rfl
 | x :: a, y :: b => by
  unfold Lib.compareBytes Go.Op.bytesLess
  by_cases h : x < y
  ·simp [h]
  ·by_cases h2 : y < x
   ·have h3 : (x == y) = false := by
     rw [beq_eq_false_iff_ne]
     rintro rfl
     exact absurd h2 (by simp)
    simp [h, h2, h3]
   ·have h3 : x = y := by
     have h4 : ¬ x.toNat < y.toNat := fun h' => h (UInt8.lt_iff_toNat_lt.2 h')
     have h5 : ¬ y.toNat < x.toNat := fun h' => h2 (UInt8.lt_iff_toNat_lt.2 h')
     exact UInt8.toNat_inj.1 (by omega)
    subst h3
    simp only [h, if_false]
    rw [cmpB_lt a b]; simp
theorem cmpB_eq : ∀ (a b : List UInt8), decide (Lib.compareBytes a b = 0) = decide (a = b)
 | [], [] => rfl
 | [], _ :: _ => by simp [Lib.compareBytes]
 | _ :: _, [] => by simp [Lib.compareBytes]
 | x :: a, y :: b => by
  unfold Lib.compareBytes
  by_cases h : x < y
  ·have : x ≠ y := by rintro rfl; exact absurd h (by simp)
   simp [h, this]
  ·by_cases h2 : y < x
   ·have : x ≠ y := by rintro rfl; exact absurd h2 (by simp)
    simp [h, h2, this]
   ·have h3 : x = y := by
     have h4 : ¬ x.toNat < y.toNat := fun h' => h (UInt8.lt_iff_toNat_lt.2 h')
     have h5 : ¬ y.toNat < x.toNat := fun h' => h2 (UInt8.lt_iff_toNat_lt.2 h')
     exact UInt8.toNat_inj.1 (by omega)
    subst h3
    simp only [h, if_false]
    rw [cmpB_eq a b]; simp
def kAsc (l : List Sg) : Prop := ∀ (i j : Nat) (x y : Sg), i < j → l[i]? = some x → l[j]? = some y → Go.Op.bytesLess x.name y.name = true
theorem kAsc_nil : kAsc [] := fun i j x y _ h => by simp at h
theorem kPre_upto {nm : List UInt8} {l : List Sg} {m : Nat} {x : Sg} (ha : kAsc l) (hx : l[m]? = some x) (hb : Go.Op.bytesLess x.name nm = true) : kPre nm l (m + 1) := by
 intro j y hj hy
 rcases Nat.lt_or_ge j m with h | h
 ·exact less_trans (ha j m y x h hy hx) hb
 ·obtain rfl : j = m := by omega
  rw [hx] at hy; injection hy with hy; subst hy; exact hb
def kPost (nm : List UInt8) (l : List Sg) (k : Nat) : Prop := ∀ (j : Nat) (x : Sg), k ≤ j → l[j]? = some x → Go.Op.bytesLess x.name nm = false
theorem kPost_from {nm : List UInt8} {l : List Sg} {m : Nat} {x : Sg} (ha : kAsc l) (hx : l[m]? = some x) (hb : Go.Op.bytesLess x.name nm = false) : kPost nm l m := by
 intro j y hj hy
 rcases Nat.eq_or_lt_of_le hj with h | h
 ·subst h; rw [hx] at hy; injection hy with hy; subst hy; exact hb
 ·rcases hq : Go.Op.bytesLess y.name nm with _ | _
  ·rfl
  ·rw [less_trans (ha m j x y h hx hy) hq] at hb; cases hb
end M
end Go.Proofs.YtkhmgdfhggejaaaGreatDoor.Q
