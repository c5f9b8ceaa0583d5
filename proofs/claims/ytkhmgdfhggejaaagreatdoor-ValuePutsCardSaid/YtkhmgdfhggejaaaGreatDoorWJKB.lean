/-
  Layer 10, the reference: the same integer, the same term.
-/
import Derived.Test.YtkhmgdfhggejaaaGreatDoorWJKA
import Derived.Test.YtkhmgdfhggejaaaGreatDoorWJA
import Derived.Test.YtkhmgdfhggejaaaGreatDoorWJQH
import Derived.Test.YtkhmgdfhggejaaaGreatDoorWJRZ
namespace Go.Proofs.YtkhmgdfhggejaaaGreatDoor.Q
set_option linter.unusedSimpArgs false
set_option linter.unusedVariables false
open Go.RowKit

theorem requal_n {w : World} {g g' : Bool} {A A' : Option Addr} {n c n' c' : Nat} {ls ls' : List Nat} (h : LNum w (.slice A n c) ls) (h' : LNum w (.slice A' n' c') ls') : Calls Tryz.prog 15 #[.agg #[.bool g, .slice A n c], .agg #[.bool g', .slice A' n' c']] w (GivesB w (decide (g = g' ∧ ls = ls'))) := by
 by_cases hg : g = g'
 case neg =>
  have hr : decide (g = g' ∧ ls = ls') = false := by simp [hg]
  rw [hr]
  have hb : (g == g') = false := by simpa using hg
  clear h h' hr hg
  go_enter Tryz.func15, Tryz.ntmps15
  go_wp2
  go_ret
  exact ⟨rfl, (Ext.alloc w _).alloc' _⟩
 case pos =>
  subst hg
  obtain ⟨q, hq⟩ : ∃ q, decide (ls = ls') = q := ⟨_, rfl⟩
  have hr : decide (g = g ∧ ls = ls') = q := by rw [← hq]; simp
  rw [hr]
  have H := hid (show ∀ w', Ext w w' → Calls Tryz.prog 40 #[.slice A n c, .slice A' n' c'] w' (fun e w'' => e = .returned (.bool q) ∧ ∃ k, w'' = w'.drewN k) from fun w' e => by
   have := same_any w' _ _ _ _ (h.up e) (h'.up e)
   rwa [hq] at this)
  clear h h' hr hq
  go_enter Tryz.func15, Tryz.ntmps15
  go_wp2_with fail
  refine (H.out _ ((Ext.alloc w _).alloc' _)).mono ?_
  rintro e w' ⟨rfl, k, rfl⟩
  go_wp2_with fail
  go_ret
  exact ⟨by cases g <;> rfl, ((Ext.alloc w _).alloc' _).drewN' k⟩
theorem alloc_two (w : World) (o o' : Obj) : Ext w ((w.alloc o).alloc o') := (Ext.alloc w _).alloc' _
end Go.Proofs.YtkhmgdfhggejaaaGreatDoor.Q

/-
  Layer 10, the reference: how many, of what sorts, linear; a number's value.
-/
namespace Go.Proofs.YtkhmgdfhggejaaaGreatDoor.Q
set_option linter.unusedSimpArgs false
set_option linter.unusedVariables false
open Go.RowKit

theorem kops {op : Int} (h : 5 ≤ op ∧ op ≤ 22) : op = 5 ∨ op = 6 ∨ op = 7 ∨ op = 8 ∨ op = 9 ∨ op = 10 ∨ op = 11 ∨ op = 12 ∨ op = 13 ∨ op = 14 ∨ op = 15 ∨ op = 16 ∨ op = 17 ∨ op = 18 ∨ op = 19 ∨ op = 20 ∨ op = 21 ∨ op = 22 := by omega
theorem addr_pos {ad : Addr} {n : Nat} (h : 0 < n) : ad.add n = ⟨ad.block, ad.off + n, none⟩ := by
 obtain ⟨m, rfl⟩ : ∃ m, n = m + 1 := ⟨n - 1, by omega⟩
 rfl
/-- The first ones' cells, as a constant index spells them. -/
theorem Tms.at0 {w : World} {A : Option Addr} {n c : Nat} {l : List M.Tm} (h : Tms w l (.slice A n c)) (hn : 0 < n) : ∃ ad N nn nc B d, A = some ad ∧ (w.cell? ad = some (.int .i64 (M.kat l 0).op) ∧ w.cell? ⟨ad.block, ad.off + 1, none⟩ = some (.bool (M.kat l 0).g) ∧ w.cell? ⟨ad.block, ad.off + 2, none⟩ = some (.slice N nn nc) ∧ w.cell? ⟨ad.block, ad.off + 3, none⟩ = some (str (M.kat l 0).name) ∧ w.cell? ⟨ad.block, ad.off + 4, none⟩ = some (.int .i64 (M.kat l 0).sort) ∧ w.cell? ⟨ad.block, ad.off + 5, none⟩ = some (.slice B (M.kat l 0).kids.length d))
 ∧ IsTm w (M.kat l 0) (kv (M.kat l 0).op (M.kat l 0).g N nn nc (M.kat l 0).name (M.kat l 0).sort B (M.kat l 0).kids.length d) := by
 obtain ⟨ad, u, N, nn, nc, B, d, rfl, hu, ⟨c0, c1, c2, c3, c4, c5⟩, hv⟩ := h.get hn
 rw [Nat.zero_mul, Addr.add_zero'] at c0 c1 c2 c3 c4 c5
 rw [M.kat_of hu]
 exact ⟨ad, N, nn, nc, B, d, rfl, ⟨c0, c1, c2, c3, c4, c5⟩, hv⟩
theorem Tms.at1 {w : World} {ad : Addr} {n c : Nat} {l : List M.Tm} (h : Tms w l (.slice (some ad) n c)) {k m : Nat} (hm : k * 6 = m) (hk0 : 0 < k) (hn : k < n) : ∃ N nn nc B d, (w.cell? ⟨ad.block, ad.off + m, none⟩ = some (.int .i64 (M.kat l k).op) ∧ w.cell? ⟨ad.block, ad.off + m + 1, none⟩ = some (.bool (M.kat l k).g) ∧ w.cell? ⟨ad.block, ad.off + m + 2, none⟩ = some (.slice N nn nc) ∧ w.cell? ⟨ad.block, ad.off + m + 3, none⟩ = some (str (M.kat l k).name) ∧ w.cell? ⟨ad.block, ad.off + m + 4, none⟩ = some (.int .i64 (M.kat l k).sort) ∧ w.cell? ⟨ad.block, ad.off + m + 5, none⟩ = some (.slice B (M.kat l k).kids.length d))
 ∧ IsTm w (M.kat l k) (kv (M.kat l k).op (M.kat l k).g N nn nc (M.kat l k).name (M.kat l k).sort B (M.kat l k).kids.length d) := by
 obtain ⟨ad', u, N, nn, nc, B, d, e, hu, ⟨c0, c1, c2, c3, c4, c5⟩, hv⟩ := h.get hn
 injection e with e
 subst e
 rw [M.kat_of hu]
 rw [addr_pos (show 0 < k * 6 by omega), hm] at c0 c1 c2 c3 c4 c5
 exact ⟨N, nn, nc, B, d, ⟨c0, c1, c2, c3, c4, c5⟩, hv⟩
theorem kargs_len {op : Int} {n : Nat} (h : M.kargs op n = true) : 1 ≤ n ∧ (op = 12 → n = 3) ∧ ((op = 15 ∨ op = 16 ∨ op = 17) → n = 2) := by
 unfold M.kargs at h
 split at h
 ·have := of_decide_eq_true h
  exact ⟨by omega, by omega, by omega⟩
 ·split at h
  ·have := of_decide_eq_true h
   exact ⟨by omega, by omega, by omega⟩
  ·split at h
   ·have := of_decide_eq_true h
    exact ⟨by omega, by omega, by omega⟩
   ·have := of_decide_eq_true h
    exact ⟨by omega, by omega, by omega⟩
theorem IsTm.num {w : World} {t : M.Tm} {op : Int} {g : Bool} {N : Option Addr} {nn nc : Nat} {nm : List UInt8} {s : Int} {A : Option Addr} {n c : Nat} (h : IsTm w t (kv op g N nn nc nm s A n c)) : LNum w (.slice N nn nc) t.ls ∧ Tms w t.kids (.slice A n c) := by
 obtain ⟨N', nn', nc', A', c', e, hn, hk⟩ := h
 injection e with e
 have e1 : Value.slice N nn nc = .slice N' nn' nc' := by have := congrArg (fun a => a[2]?) e; simpa using this
 have e2 : Value.slice A n c = .slice A' t.kids.length c' := by have := congrArg (fun a => a[5]?) e; simpa using this
 rw [e1, e2]
 exact ⟨hn, hk⟩
/-- A number's value that a call gives, if it is one. -/
def GivesNum (w : World) (t : M.Tm) (e : Ending) (w' : World) : Prop := ∃ b A n c, e = .returned (.tuple #[.agg #[.bool b, .slice A n c], .bool (M.knum t).isSome]) ∧ (∀ z, M.knum t = some z → ∃ j, Worth w' (.agg #[.bool b, .slice A n c]) z j) ∧ Ext w w'
theorem worth_tm {w : World} {g : Bool} {N : Option Addr} {nn nc : Nat} {ls : List Nat} (h : LNum w (.slice N nn nc) ls) : Worth w (.agg #[.bool g, .slice N nn nc]) (M.zv g ls) ls.length := ⟨g, N, nn, nc, ls, rfl, h, Nat.le_refl _, rfl⟩
theorem worth_up {w w' : World} {v : Value} {Z : Int} {k : Nat} (h : Worth w v Z k) (e : Ext w w') : Worth w' v Z k := Worth.up h e
theorem GivesNum.none_ {w w' : World} {t : M.Tm} (h : M.knum t = none) (e : Ext w w') : GivesNum w t (.returned (.tuple #[.agg #[.bool false, .slice none 0 0], .bool false])) w' := by
 refine ⟨false, none, 0, 0, by rw [h]; rfl, ?_, e⟩
 intro z hz
 rw [h] at hz
 cases hz
end Go.Proofs.YtkhmgdfhggejaaaGreatDoor.Q

/-
  Layer 10, the reference: of what sorts, linear, how great: what Make errs.
-/
namespace Go.Proofs.YtkhmgdfhggejaaaGreatDoor.Q
set_option linter.unusedSimpArgs false
set_option linter.unusedVariables false
open Go.RowKit

/-- An int that a call gives. -/
abbrev GivesN (w : World) (z : Int) (e : Ending) (w' : World) : Prop := e = .returned (.int .i64 z) ∧ Ext w w'
theorem IsTm.row {w : World} {l : List M.Tm} {A : Option Addr} {n c : Nat} (ht : Tms w l (.slice A n c)) : IsTm w (.mk 0 false [] [] 0 l) (kv 0 false none 0 0 [] 0 A n c) := by
 have hn := ht.le.1
 subst hn
 exact ⟨none, 0, 0, A, c, rfl, LNum.nil w, ht⟩
end Go.Proofs.YtkhmgdfhggejaaaGreatDoor.Q

