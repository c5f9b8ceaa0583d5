/-
  Layer 10, the laws' known: what the reference says of a few terms: mathematics.
-/
import Derived.Test.YtkhmgdfhggejaaaGreatDoorWJKL
import Derived.Test.YtkhmgdfhggejaaaGreatDoorWJKC
import Derived.Test.YtkhmgdfhggejaaaGreatDoorWJQH
namespace Go.Proofs.YtkhmgdfhggejaaaGreatDoor.Q
set_option linter.unusedSimpArgs false
set_option linter.unusedVariables false
open Go.RowKit

namespace M
theorem limbs0 : M.limbs 0 = [] := by rw [M.limbs]; rfl
theorem isZ_nil : M.isZ false [] = true := by decide
theorem zv_nil : M.zv false [] = 0 := by decide
end M
namespace M
end M
end Go.Proofs.YtkhmgdfhggejaaaGreatDoor.Q

/-
  Layer 10, the laws' known: terms put side by side in a literal's row; a row made while a variable may already be made.
-/
namespace Go.Proofs.YtkhmgdfhggejaaaGreatDoor.Q
set_option linter.unusedSimpArgs false
set_option linter.unusedVariables false
open Go.RowKit
section
variable {P : Program} {ops : Array Oper} {Q : Exit → Act → World → Prop} {A : Nat → TypeId × Array Value} {B : Nat} {i : Nat} {r : List (Nat × Nat)} {G : List Nat} {a : Act} {w : World} {d : Option Tmp}
end
theorem tmAt_of {w : World} {t : M.Tm} {op : Int} {g : Bool} {N A : Option Addr} {nn nc n c : Nat} {nm : List UInt8} {so : Int} {a : Addr} (h : IsTm w t (kv op g N nn nc nm so A n c)) (hc : Cell6 w a op g (.slice N nn nc) nm so (.slice A n c)) : TmAt w t a := by
 obtain ⟨o', g', ls, nm', so', ks⟩ := t
 obtain ⟨N', nn', nc', A', c', e, h2, h3⟩ := h
 simp only [kv, Value.agg.injEq, Array.mk.injEq, List.cons.injEq, and_true, Value.int.injEq, Value.bool.injEq, Value.slice.injEq, true_and] at e
 obtain ⟨e1, e2, ⟨e3, e4, e5⟩, e6, e7, e8, e9, e10⟩ := e
 subst e3 e4 e5 e8 e9 e10
 refine tmAt_mk.2 ⟨N, nn, nc, _, ?_, h2, h3⟩
 rw [show o' = op from e1.symm, show g' = g from e2.symm, show so' = so from e7.symm]
 unfold Cell6 at hc ⊢
 rw [e6] at hc
 exact hc
theorem tms_one {w : World} {t : M.Tm} {op : Int} {g : Bool} {N A : Option Addr} {nn nc n c gb : Nat} {nm : List UInt8} {so : Int} {T : TypeId} (h : IsTm w t (kv op g N nn nc nm so A n c))
 (hb : Box w gb #[.int .i64 op, .bool g, .slice N nn nc, str nm, .int .i64 so, .slice A n c] T) : Tms w [t] (.slice (some ⟨gb, 0, none⟩) 1 1) := by
 refine Tms.mk_ ⟨_, _, _, rfl, rfl, Nat.le_refl _, by decide, fun _ => ⟨_, rfl, hb.lt, fun k u hk => ?_⟩⟩
 rcases k with _ | k
 ·simp at hk
  subst hk
  refine tmAt_of h ?_
  unfold Cell6
  exact ⟨⟨hb.k 0, hb.k 1, hb.k 2⟩, hb.k 3, hb.k 4, hb.k 5⟩
 ·simp at hk
theorem tms_two {w : World} {t t' : M.Tm} {op op' : Int} {g g' : Bool} {N A N' A' : Option Addr} {nn nc n c nn' nc' n' c' gb : Nat} {nm nm' : List UInt8} {so so' : Int} {T : TypeId} (h : IsTm w t (kv op g N nn nc nm so A n c)) (h' : IsTm w t' (kv op' g' N' nn' nc' nm' so' A' n' c'))
 (hb : Box w gb #[.int .i64 op, .bool g, .slice N nn nc, str nm, .int .i64 so, .slice A n c, .int .i64 op', .bool g', .slice N' nn' nc', str nm', .int .i64 so', .slice A' n' c'] T) : Tms w [t, t'] (.slice (some ⟨gb, 0, none⟩) 2 2) := by
 refine Tms.mk_ ⟨_, _, _, rfl, rfl, Nat.le_refl _, by decide, fun _ => ⟨_, rfl, hb.lt, fun k u hk => ?_⟩⟩
 rcases k with _ | _ | k
 ·simp at hk
  subst hk
  refine tmAt_of h ?_
  unfold Cell6
  exact ⟨⟨hb.k 0, hb.k 1, hb.k 2⟩, hb.k 3, hb.k 4, hb.k 5⟩
 ·simp at hk
  subst hk
  refine tmAt_of h' ?_
  unfold Cell6
  exact ⟨⟨hb.k 6, hb.k 7, hb.k 8⟩, hb.k 9, hb.k 10, hb.k 11⟩
 ·simp at hk
end Go.Proofs.YtkhmgdfhggejaaaGreatDoor.Q

/-
  Layer 10: a term stays when a term is put into a box that was empty.
-/
namespace Go.Proofs.YtkhmgdfhggejaaaGreatDoor.Q
set_option linter.unusedSimpArgs false
set_option linter.unusedVariables false
open Go.RowKit

namespace M
end M
end Go.Proofs.YtkhmgdfhggejaaaGreatDoor.Q

