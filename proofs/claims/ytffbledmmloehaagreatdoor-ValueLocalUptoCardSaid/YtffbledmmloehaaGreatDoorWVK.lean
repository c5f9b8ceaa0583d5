/-
  Layer 12's laws: Of of what isn't negative, its limbs on new memory.
-/
import Derived.Test.YtffbledmmloehaaGreatDoorWVJ
import Derived.Test.YtffbledmmloehaaGreatDoorWJQH
import Derived.Test.YtffbledmmloehaaGreatDoorWVC
namespace Go.Proofs.YtffbledmmloehaaGreatDoor.Q
set_option linter.unusedSimpArgs false
set_option linter.unusedVariables false
open Go.RowKit

section
variable {P : Program} {ops : Array Oper} {Q : Exit → Act → World → Prop} {i j k : Nat} {r s t : Route} {a : Act} {w : World}
theorem WT.act_ (h : wpOp P ops Q i (fun a' w' => Ext w w' ∧ WT P ops Q r a' w') a w) : WT P ops Q (.act i r) a w := h
theorem WT.two_ (h1 : wpOp P ops Q i (fun a' w' => Ext w w' ∧ WT P ops Q r a' w') a w) (h2 : wpOp P ops Q j (fun a' w' => Ext w w' ∧ WT P ops Q s a' w') a w) : WT P ops Q (.two i r j s) a w := ⟨h1, h2⟩
end
/-- A drawn region told once, whatever order it drew. -/
theorem wp_region_to {P : Program} {id : Nat} {ops : Array Oper} {Q : Exit → Act → World → Prop} {a : Act} {w : World} (R : Act → Act → World → Prop) (h1 : (Code.region id ops true).wp P (fun c a' w' => c = .normal ∧ R a a' w') a w) (h2 : ∀ a' w', R a a' w' → Q .normal a' w') : (Code.region id ops true).wp P Q a w :=
 Code.wp_mono (fun e a' w' h => by obtain ⟨rfl, h⟩ := h; exact h2 a' w' h) h1
end Go.Proofs.YtffbledmmloehaaGreatDoor.Q

/-
  Layer 12's laws: a function of rows that are told one by one, mathematics.
-/
namespace Go.Proofs.YtffbledmmloehaaGreatDoor.Q
set_option linter.unusedSimpArgs false
set_option linter.unusedVariables false
open Go.RowKit
namespace M
def rowT (a i : Nat) : List Vl × Vl := ([vz 2 (a : Int)], vz 2 (i : Int))
def rowsAt : List Nat → Nat → List (List Vl × Vl)
 | [], _ => []
 | x :: r, i => rowT (x % 4) i :: rowsAt r (i + 1)
def wantAt (a : Nat) (o : Int) : List Nat → Nat → Int
 | [], _ => o
 | x :: r, i => if x % 4 = a then (i : Int) else wantAt a o r (i + 1)
theorem rowsAt_len : ∀ (l : List Nat) (i : Nat), (rowsAt l i).length = l.length
 | [], _ => rfl
 | x :: r, i => by rw [rowsAt, List.length_cons, rowsAt_len r, List.length_cons]
theorem rowsAt_get : ∀ (l : List Nat) (i k : Nat), (rowsAt l i)[k]? = l[k]?.map fun x => rowT (x % 4) (i + k)
 | [], _, _ => rfl
 | x :: r, i, 0 => rfl
 | x :: r, i, k + 1 => by rw [rowsAt, List.getElem?_cons_succ, rowsAt_get r, List.getElem?_cons_succ, show i + 1 + k = i + (k + 1) by omega]
theorem wantAt_ge {a : Nat} {o : Int} {l : List Nat} {k x : Nat} (h : l[k]? = some x) : wantAt a o (l.drop k) k = if x % 4 = a then (k : Int) else wantAt a o (l.drop (k + 1)) (k + 1) := by rw [drop_get h]; rfl
theorem wantAt_in {a : Nat} {o : Int} (h1 : -9223372036854775808 ≤ o) (h2 : o ≤ 9223372036854775807) : ∀ (l : List Nat) (i : Nat), i + l.length ≤ 100 → -9223372036854775808 ≤ wantAt a o l i ∧ wantAt a o l i ≤ 9223372036854775807
 | [], _, _ => ⟨h1, h2⟩
 | x :: r, i, hi => by
  rw [List.length_cons] at hi
  rw [wantAt]
  split
  ·omega
  ·exact wantAt_in h1 h2 r (i + 1) (by omega)
theorem vSames_one (x y : Int) : vSames [vz 2 x] [vz 2 y] = decide (x = y) := by
 show (vSame (vz 2 x) (vz 2 y) && true) = _
 rw [Bool.and_true]
 unfold vSame
 rw [cz_vz, cz_vz, show decide ((vz 2 x).1 = (vz 2 y).1) = true from rfl, Bool.true_and]
theorem says_at {a : Nat} {o : Int} : ∀ (l : List Nat) (i : Nat), (match (rowsAt l i).find? fun r => vSames r.1 [vz 2 (a : Int)] with | some r => r.2 | none => vz 2 o) = vz 2 (wantAt a o l i)
 | [], _ => rfl
 | x :: r, i => by
  rw [rowsAt, List.find?_cons, show vSames (rowT (x % 4) i).1 [vz 2 (a : Int)] = decide (x % 4 = a) by rw [show (rowT (x % 4) i).1 = [vz 2 ((x % 4 : Nat) : Int)] from rfl, vSames_one]; exact decide_eq_decide.2 (by omega), wantAt]
  by_cases h : x % 4 = a
  ·rw [decide_eq_true h, if_pos h]; rfl
  ·rw [decide_eq_false h, if_neg h]; exact says_at r (i + 1)
def fTab (l : List Nat) (o : Int) : Fn := ⟨⟨[102], [2], 2⟩, rowsAt l 0, vz 2 o⟩
theorem vIs_vz (Z : Int) : vIs (vz 2 Z) 2 = true := by
 unfold vIs
 rw [show M.isZ (vz 2 Z).2.1 (vz 2 Z).2.2 = true from M.isZ_of Z]
 rfl
theorem rowsAt_is : ∀ (l : List Nat) (i : Nat), ((rowsAt l i).all fun r => vIss r.1 [2] && vIs r.2 2) = true
 | [], _ => rfl
 | x :: r, i => by
  rw [rowsAt, List.all_cons, rowsAt_is r, Bool.and_true]
  show ((vIs (vz 2 _) 2 && true) && vIs (vz 2 _) 2) = true
  rw [vIs_vz, vIs_vz]
  rfl
theorem fTab_is (l : List Nat) (o : Int) : mIs [fTab l o] = true := by
 rw [mIs_true]
 intro k hk
 obtain rfl : k = 0 := by simp at hk; exact hk
 rw [okAt_some (f := fTab l o) rfl]
 unfold fnIs
 rw [show ksig (fTab l o).sg = true by kernel_rfl, show vIs (fTab l o).els (fTab l o).sg.ret = true from vIs_vz o, show ((fTab l o).rows.all fun r => vIss r.1 (fTab l o).sg.args && vIs r.2 (fTab l o).sg.ret) = true from rowsAt_is l 0]
 rfl
def tA (a : Nat) : Tm := .mk 4 false [] [102] 2 [knumT (a : Int)]
theorem tA_is {a : Nat} (h : a < 4) : kIs (tA a) = true := by
 rcases (by omega : a = 0 ∨ a = 1 ∨ a = 2 ∨ a = 3) with rfl | rfl | rfl | rfl <;> kernel_rfl
theorem tA_few {a : Nat} (h : a < 4) : kfew (tA a) = true := by
 rcases (by omega : a = 0 ∨ a = 1 ∨ a = 2 ∨ a = 3) with rfl | rfl | rfl | rfl <;> kernel_rfl
theorem ev_tA (m : List Fn) (a : Nat) : ev m (tA a) = mOf m ⟨[102], [2], 2⟩ [vz 2 (a : Int)] := by
 unfold tA
 rw [ev, if_neg (by decide), if_neg (by decide), if_neg (by decide), if_pos rfl, evs, evs, knumT, ev, if_pos rfl]
 rfl
theorem eval_tab {a : Nat} (h : a < 4) (l : List Nat) (o : Int) : mEval [fTab l o] (tA a) = vz 2 (wantAt a o l 0) := by
 unfold mEval
 rw [if_pos (tA_is h), mRead, if_pos (fTab_is l o), ev_tA]
 unfold mOf
 rw [List.find?_cons, show decide ((fTab l o).sg = (⟨[102], [2], 2⟩ : Sg)) = true from decide_eq_true rfl]
 exact says_at l 0
theorem eval_none {a : Nat} (h : a < 4) : mEval [] (tA a) = (2, false, []) := by
 unfold mEval
 rw [if_pos (tA_is h), show mRead [] = [] by unfold mRead; split <;> rfl, ev_tA]
 rfl
end M
/-- Bytes. -/
def VBytes (w : World) (v : Value) (xs : List Nat) : Prop := ∃ A n c, v = .slice A n c ∧ n = xs.length ∧ n ≤ c ∧ c ≤ maxLen ∧ ∀ (k x : Nat), xs[k]? = some x → x ≤ 255 ∧ ∃ ad, A = some ad ∧ ad.block < w.heap.size ∧ w.cell? (ad.add k) = some (.int .u8 (x : Int))
theorem VBytes.up {w w' : World} {v : Value} {xs : List Nat} (h : VBytes w v xs) (e : Ext w w') : VBytes w' v xs := by
 obtain ⟨A, n, c, h1, h2, h3, h4, h5⟩ := h
 refine ⟨A, n, c, h1, h2, h3, h4, fun k x hk => ?_⟩
 obtain ⟨hx, ad, ha, hb, hc⟩ := h5 k x hk
 exact ⟨hx, ad, ha, Nat.lt_of_lt_of_le hb e.size, e.cell hc⟩
end Go.Proofs.YtffbledmmloehaaGreatDoor.Q

