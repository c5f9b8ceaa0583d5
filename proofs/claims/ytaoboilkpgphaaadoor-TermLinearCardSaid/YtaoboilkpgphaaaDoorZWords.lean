/-
  Words for integers in memory (a bool and a row of limbs), and the leaves of package whole: the methods of a sign.
-/
import Derived.Test.YtaoboilkpgphaaaDoorJB
import Derived.Test.YtaoboilkpgphaaaDoorJMZ
import Derived.Test.YtaoboilkpgphaaaDoorHeld
namespace Go.Proofs.YtaoboilkpgphaaaDoor
set_option linter.unusedSimpArgs false
set_option linter.unusedVariables false
open Go.RowKit

/-- What an api.Int counts as. -/
def Worth (w : World) (v : Value) (Z : Int) (k : Nat) : Prop := ∃ g A n c l, v = .agg #[.bool g, .slice A n c] ∧ Num w w.heap.size (.slice A n c) l ∧ l.length ≤ k ∧ M.zv g l = Z
/-- The api.Int of the number Z, of at most k limbs. -/
def IsZ (w : World) (v : Value) (Z : Int) (k : Nat) : Prop := ∃ A n c, v = .agg #[.bool (decide (Z < 0)), .slice A n c] ∧ Num w w.heap.size (.slice A n c) (M.limbs Z.natAbs) ∧ (M.limbs Z.natAbs).length ≤ k
/-- The inner integer of the number Z: a side and a size. -/
def InZ (w : World) (v : Value) (Z : Int) (k : Nat) : Prop := ∃ A n c, v = .agg #[.int .i64 Z.sign, .slice A n c] ∧ Num w w.heap.size (.slice A n c) (M.limbs Z.natAbs) ∧ (M.limbs Z.natAbs).length ≤ k
theorem Worth.up {w w' : World} {v : Value} {Z : Int} {k : Nat} (h : Worth w v Z k) (e : Ext w w') : Worth w' v Z k := by
 obtain ⟨g, A, n, c, l, h1, h2, h3, h4⟩ := h
 exact ⟨g, A, n, c, l, h1, h2.up e, h3, h4⟩
theorem IsZ.up {w w' : World} {v : Value} {Z : Int} {k : Nat} (h : IsZ w v Z k) (e : Ext w w') : IsZ w' v Z k := by
 obtain ⟨A, n, c, h1, h2, h3⟩ := h
 exact ⟨A, n, c, h1, h2.up e, h3⟩
theorem InZ.up {w w' : World} {v : Value} {Z : Int} {k : Nat} (h : InZ w v Z k) (e : Ext w w') : InZ w' v Z k := by
 obtain ⟨A, n, c, h1, h2, h3⟩ := h
 exact ⟨A, n, c, h1, h2.up e, h3⟩
theorem IsZ.worth {w : World} {v : Value} {Z : Int} {k : Nat} (h : IsZ w v Z k) : Worth w v Z k := by
 obtain ⟨A, n, c, h1, h2, h3⟩ := h
 exact ⟨_, A, n, c, _, h1, h2, h3, M.zv_of Z⟩
def GivesW (w : World) (P : World → Value → Prop) (e : Ending) (w' : World) : Prop := ∃ v, e = .returned v ∧ P w' v ∧ Ext w w'
def GivesZ (w : World) (Z : Int) (k : Nat) (e : Ending) (w' : World) : Prop := ∃ v, e = .returned v ∧ IsZ w' v Z k ∧ Ext w w'
def GivesI (w : World) (Z : Int) (k : Nat) (e : Ending) (w' : World) : Prop := ∃ v, e = .returned v ∧ InZ w' v Z k ∧ Ext w w'
def GivesB (w : World) (b : Bool) (e : Ending) (w' : World) : Prop := e = .returned (.bool b) ∧ Ext w w'
def GivesS (w : World) (s : Int) (e : Ending) (w' : World) : Prop := e = .returned (.agg #[.int .i64 s]) ∧ Ext w w'
theorem Num.own {w : World} {C : Nat} {v : Value} {l : List Nat} (h : Num w C v l) (hC : C ≤ w.heap.size) : Num w w.heap.size v l := h.more hC

theorem side_mul {s t : Int} (h1 : -1 ≤ s) (h2 : s ≤ 1) (h3 : -1 ≤ t) (h4 : t ≤ 1) : IntKind.i64.wrap (s * t) = s * t := by
 rcases (by omega : s = -1 ∨ s = 0 ∨ s = 1) with rfl | rfl | rfl <;> rcases (by omega : t = -1 ∨ t = 0 ∨ t = 1) with rfl | rfl | rfl <;> rfl

theorem signed_any (w : World) (s : Int) (A : Option Addr) (n c : Nat) {l : List Nat} (hm : Num w w.heap.size (.slice A n c) l) {Z : Int} {k : Nat} (hl : Hid (l = M.limbs Z.natAbs)) (hs : Hid (Z.natAbs ≠ 0 → s = Z.sign)) (hk : Hid (l.length ≤ k)) :
 Calls Tryd.prog 99 #[.agg #[.int .i64 s], .slice A n c] w (GivesI w Z k) := by
 have HM := hid hm
 have HN := hid (show n = l.length by obtain ⟨_, _, _, e, h, _⟩ := hm; injection e with _ e2; rw [e2, h])
 clear hm
 by_cases h0 : n = 0
 ·subst h0
  have HZ := hid (show Z = 0 by
   have h1 := HN.out; rw [hl.out] at h1
   have h2 := M.limbs_eq_nil.1 (List.eq_nil_of_length_eq_zero h1.symm); omega)
  go_enter Tryd.func99, Tryd.ntmps99
  go_wp2
  refine bodyPost_ret (v := .agg #[.int .i64 0, .slice none 0 0]) (by simp [results, Tryd.results99, go_sem]) rfl ⟨_, rfl, ?_, ((Ext.alloc _ _).alloc' _)⟩
  rw [HZ.out]
  exact ⟨_, _, _, rfl, by rw [show (0 : Int).natAbs = 0 from rfl, M.limbs_zero]; exact Num.nil _ _, by rw [show (0 : Int).natAbs = 0 from rfl, M.limbs_zero]; simp⟩
 ·have h1 : ((n : Int) == 0) = false := by simpa using h0
  have HS := hid (show s = Z.sign by
   refine hs.out fun h => h0 ?_
   rw [HN.out, hl.out, h, M.limbs_zero]; rfl)
  clear h0
  go_enter Tryd.func99, Tryd.ntmps99
  go_wp2
  refine bodyPost_ret (v := .agg #[.int .i64 s, .slice A n c]) (by simp [results, Tryd.results99, go_sem]) rfl ⟨_, rfl, ?_, ((Ext.alloc _ _).alloc' _)⟩
  rw [HS.out]
  refine ⟨A, n, c, rfl, ?_, ?_⟩
  ·rw [← hl.out]; exact HM.out.up ((Ext.alloc _ _).alloc' _)
  ·rw [← hl.out]; exact hk.out
theorem InZ.form {w : World} {v : Value} {Z : Int} {k : Nat} (h : InZ w v Z k) : ∃ s A n c, v = .agg #[.int .i64 s, .slice A n c] ∧ s = Z.sign ∧ IsN w (.slice A n c) Z.natAbs k := by
 obtain ⟨A, n, c, h1, h2, h3⟩ := h
 exact ⟨_, A, n, c, h1, rfl, h2, h3⟩
theorem InZ.mk {w : World} {s Z : Int} {A : Option Addr} {n c k : Nat} (hs : s = Z.sign) (h : IsN w (.slice A n c) Z.natAbs k) : InZ w (.agg #[.int .i64 s, .slice A n c]) Z k := by
 subst hs; exact ⟨A, n, c, rfl, h.1, h.2⟩
theorem IsZ.form {w : World} {v : Value} {Z : Int} {k : Nat} (h : IsZ w v Z k) : ∃ g A n c, v = .agg #[.bool g, .slice A n c] ∧ g = decide (Z < 0) ∧ IsN w (.slice A n c) Z.natAbs k := by
 obtain ⟨A, n, c, h1, h2, h3⟩ := h
 exact ⟨_, A, n, c, h1, rfl, h2, h3⟩
theorem IsZ.mk {w : World} {g : Bool} {Z : Int} {A : Option Addr} {n c k : Nat} (hs : g = decide (Z < 0)) (h : IsN w (.slice A n c) Z.natAbs k) : IsZ w (.agg #[.bool g, .slice A n c]) Z k := by
 subst hs; exact ⟨A, n, c, rfl, h.1, h.2⟩
theorem Worth.kz {w w' : World} {v : Value} {Z : Int} {k : Nat} (h : Worth w v Z k) (e : Keeps w w') : Worth w' v Z k := by
 obtain ⟨g, A, n, c, l, h1, h2, h3, h4⟩ := h
 exact ⟨g, A, n, c, l, h1, e _ _ h2, h3, h4⟩
theorem IsZ.kz {w w' : World} {v : Value} {Z : Int} {k : Nat} (h : IsZ w v Z k) (e : Keeps w w') : IsZ w' v Z k := by
 obtain ⟨A, n, c, h1, h2, h3⟩ := h
 exact ⟨A, n, c, h1, e _ _ h2, h3⟩
theorem InZ.kz {w w' : World} {v : Value} {Z : Int} {k : Nat} (h : InZ w v Z k) (e : Keeps w w') : InZ w' v Z k := by
 obtain ⟨A, n, c, h1, h2, h3⟩ := h
 exact ⟨A, n, c, h1, e _ _ h2, h3⟩
theorem IsN.wide {w : World} {v : Value} {N j k : Nat} (h : IsN w v N j) (hk : j ≤ k) : IsN w v N k := ⟨h.1, Nat.le_trans h.2 hk⟩
theorem IsZ.wide {w : World} {v : Value} {Z : Int} {j k : Nat} (h : IsZ w v Z j) (hk : j ≤ k) : IsZ w v Z k := by
 obtain ⟨A, n, c, h1, h2, h3⟩ := h; exact ⟨A, n, c, h1, h2, Nat.le_trans h3 hk⟩
theorem InZ.wide {w : World} {v : Value} {Z : Int} {j k : Nat} (h : InZ w v Z j) (hk : j ≤ k) : InZ w v Z k := by
 obtain ⟨A, n, c, h1, h2, h3⟩ := h; exact ⟨A, n, c, h1, h2, Nat.le_trans h3 hk⟩
theorem InZ.to {w : World} {v : Value} {Z Y : Int} {k : Nat} (h : InZ w v Z k) (e : Z = Y) : InZ w v Y k := e ▸ h
theorem IsZ.to {w : World} {v : Value} {Z Y : Int} {k : Nat} (h : IsZ w v Z k) (e : Z = Y) : IsZ w v Y k := e ▸ h
theorem side_of (Z : Int) : -1 ≤ Z.sign ∧ Z.sign ≤ 1 := by rcases M.sign_cases Z with ⟨_, e⟩ | ⟨_, e⟩ | ⟨_, e⟩ <;> rw [e] <;> omega
/-- What is made of a side and a size. -/
theorem signed_n {w : World} {s : Int} {A : Option Addr} {n c N k : Nat} (hm : IsN w (.slice A n c) N k) {Z : Int} (hN : N = Z.natAbs) (hs : Z.natAbs ≠ 0 → s = Z.sign) :
 Calls Tryd.prog 99 #[.agg #[.int .i64 s], .slice A n c] w (GivesI w Z k) := by
 subst hN
 exact signed_any w s A n c hm.1 rfl hs hm.2
end Go.Proofs.YtaoboilkpgphaaaDoor
