/-
  Contracts: what layer 10's laws make and ask of their own: num, con, fewSig; the reference's SameSig.
-/
import Derived.Test.YtaoboilkpgphaaaGreatDoorJKC
namespace Go.Proofs.YtaoboilkpgphaaaGreatDoor.Q
set_option linter.unusedSimpArgs false
set_option linter.unusedVariables false
open Go.RowKit

theorem con_n (nm : List UInt8) (so : Int) (w : World) : Calls Tryz.prog 21 #[str nm, .int .i64 so] w (GivesT1 w (.mk 4 false [] nm so [])) := by
 go_enter Tryz.func21, Tryz.ntmps21
 go_wp2_with fail
 refine bodyPost_ret (v := kv 4 false none 0 0 nm so none 0 0) (by simp [results, Tryz.results21, go_sem]) rfl ?_
 exact ⟨_, rfl, ⟨none, 0, 0, none, 0, rfl, LNum.nil _, Tms.nil _⟩, Ext.alloc _ _⟩
set_option maxHeartbeats 4000000 in
theorem num_n {Z : Int} (h1 : -9223372036854775808 ≤ Z) (h2 : Z ≤ 9223372036854775807) (w : World) : Calls Tryz.prog 19 #[.int .i64 Z] w (GivesT1 w (M.knumT Z)) := by
 have HC := hid (show ∀ w', Calls Tryz.prog 18 #[.int .i64 Z] w' (GivesZ w' Z 3) from fun w' => rOf_z h1 h2 w')
 clear h1 h2
 go_enter Tryz.func19, Tryz.ntmps19
 go_wp2_with fail
 refine (HC.out _).mono ?_
 rintro e w1 ⟨v1, rfl, hv1, hx⟩
 obtain ⟨A1, n1, c1, rfl, hn1, hk1⟩ := hv1
 have hbx : Ext (w.alloc (.cells zero6 33)) w1 := hx
 obtain ⟨⟨r0, r1, r2, r3, r4, r5⟩, ⟨q0, q1, q2, q3, q4, q5⟩, hz⟩ := boxF6 ((Box.new w zero6 33).up hbx)
 have E := hid (show Ext w w1 from (Ext.alloc w _).trans hbx)
 have HN1 := hid hn1
 have HB := hid ((Box.new w zero6 33).up hbx)
 obtain ⟨d, hd⟩ : ∃ d, decide (Z < 0) = d := ⟨_, rfl⟩
 rw [hd]
 have HD := hid hd
 clear hx hbx hn1 hk1 hd
 go_wp2_with fail
 refine bodyPost_ret (v := kv 1 d A1 n1 c1 [] 2 none 0 0) (by simp [results, Tryz.results19, go_sem, r0, r1, r2, r3, r4, r5, hz]) rfl ?_
 refine ⟨_, rfl, ⟨A1, n1, c1, none, 0, by rw [← HD.out]; rfl, ?_, Tms.nil _⟩, put6_ext E.out (Nat.le_refl _)⟩
 exact num_put6 HN1.out HB.out rfl
namespace M
def kfewS (s : Sg) : Bool := decide (s.name.length ≤ 40) && decide (s.args.length ≤ 6)
def ksameS (a b : Sg) : Bool := decide (a = b)
end M
theorem fewSig_n {s : M.Sg} {v : Value} {w : World} (h : IsSg w s v) : Calls Tryz.prog 5 #[v] w (GivesB w (M.kfewS s)) := by
 obtain ⟨nm, ag, rt⟩ := s
 obtain ⟨A, c, rfl, hi⟩ := h
 replace hi : Ints w ag (.slice A ag.length c) := hi
 show Calls Tryz.prog 5 #[sgv nm A ag.length c rt] w _
 obtain ⟨hl1, hl2, hl3⟩ := hi.le
 obtain ⟨n, hn'⟩ : ∃ n, ag.length = n := ⟨_, rfl⟩
 obtain ⟨x, hx⟩ : ∃ x, x = nm.length := ⟨_, rfl⟩
 have hsz : (⟨nm.toArray⟩ : ByteArray).size = x := by rw [Lib.size_eq, hx]
 have hsz2 : (nm.length : Int) = (x : Int) := by rw [hx]
 have hz : M.kfewS ⟨nm, ag, rt⟩ = (decide (x ≤ 40) && decide (n ≤ 6)) := by unfold M.kfewS; rw [hx, ← hn']
 rw [hz]
 rw [hn'] at hl2 ⊢
 clear hi hl1 hn' hz hx
 rcases Nat.lt_or_ge 40 x with h40 | h40
 ·have hq : decide ((x : Int) ≤ 40) = false := by simp; omega
  rw [decide_eq_false (show ¬ x ≤ 40 by omega)]
  go_enter Tryz.func5, Tryz.ntmps5
  go_wp2
  go_ret
  exact ⟨rfl, Ext.alloc _ _⟩
 have hq : (x : Int) ≤ 40 := by omega
 rw [decide_eq_true h40, Bool.true_and]
 rcases Nat.lt_or_ge 6 n with h6 | h6
 ·have hq2 : decide ((n : Int) ≤ 6) = false := by simp; omega
  rw [decide_eq_false (show ¬ n ≤ 6 by omega)]
  go_enter Tryz.func5, Tryz.ntmps5
  go_wp2
  go_ret
  exact ⟨rfl, Ext.alloc _ _⟩
 ·have hq2 : (n : Int) ≤ 6 := by omega
  rw [decide_eq_true h6]
  go_enter Tryz.func5, Tryz.ntmps5
  go_wp2
  go_ret
  exact ⟨rfl, Ext.alloc _ _⟩
theorem box33 {w wN : World} {x0 x1 x2 y0 y1 y2 : Value} {T T' : TypeId} (h : Ext ((w.alloc (.cells #[x0, x1, x2] T)).alloc (.cells #[y0, y1, y2] T')) wN) :
 (wN.cell? ⟨w.heap.size, 0, none⟩ = some x0 ∧ wN.cell? ⟨w.heap.size, 1, none⟩ = some x1 ∧ wN.cell? ⟨w.heap.size, 2, none⟩ = some x2) ∧ (wN.cell? ⟨w.heap.size + 1, 0, none⟩ = some y0 ∧ wN.cell? ⟨w.heap.size + 1, 1, none⟩ = some y1 ∧ wN.cell? ⟨w.heap.size + 1, 2, none⟩ = some y2) := by
 have h1 := ((Box.new w #[x0, x1, x2] T).alloc (.cells #[y0, y1, y2] T')).up h
 have h2 := (Box.at_ (w := w.alloc (.cells #[x0, x1, x2] T)) (g := w.heap.size + 1) #[y0, y1, y2] T' (by simp)).up h
 exact ⟨⟨h1.k 0, h1.k 1, h1.k 2⟩, h2.k 0, h2.k 1, h2.k 2⟩
theorem take_ne {a b : List Int} {k : Nat} {x y : Int} (ha : a[k]? = some x) (hb : b[k]? = some y) (hne : x ≠ y) : a ≠ b := by
 intro e; rw [e, hb] at ha; injection ha with ha; exact hne ha.symm
end Go.Proofs.YtaoboilkpgphaaaGreatDoor.Q
