/-
  NatOrder: whatever three rows of limbs: true, and the input reads as it did. No conditions.
-/
import Derived.Test.YtbmkacnomegogaaLaw
import Derived.ProofKit
import Derived.OpenShut
import Derived.Carry
namespace Go.Proofs.Ytbmkacnomegogaa
open Go.ChangeShapes Go.WideShapes Go.ChangeAt Go.RowKit

theorem few_l {w : World} {v : Value} {l : List Nat} {C : Nat} (hv : Num w C v l) {b : Bool} (hb : decide (l.length ≤ 8) = b) :
    Calls Try.prog 10 #[v] w fun e w' => e = .returned (.bool b) ∧ w = w' := by
  obtain ⟨A, n, c, rfl, hn, hc, hm, _⟩ := hv
  have h := few_any w A n c (by unfold maxLen at hm; omega)
  rw [hn, hb] at h
  rw [hn]
  exact h

set_option maxHeartbeats 1000000 in
theorem order_skip0 (W : World) (u v x : Value) (a b c : List Nat) (hu : Num W W.heap.size u a) (hv : Num W W.heap.size v b) (hx : Num W W.heap.size x c) (g0 : Hid (decide (a.length ≤ 8) = false)) :
    Calls Try.prog 8 #[u, v, x] W fun e w' => e = .returned (.bool true) ∧ Ext W w' := by
  have U := hid hu
  have V := hid hv
  have X := hid hx
  clear hu hv hx
  go_enter Try.func8, Try.ntmps8
  go_wp2_with fail
  refine (known_any _).mono ?_
  rintro e wn ⟨rfl, hb⟩
  replace U := hid (U.out.up hb)
  replace V := hid (V.out.up hb)
  replace X := hid (X.out.up hb)
  have E := hid hb
  clear hb 
  go_wp2_with fail
  refine (few_l U.out g0.out).mono ?_
  rintro e wq ⟨rfl, rfl⟩
  go_wp2
  go_ret
  exact ⟨rfl, E.out⟩

set_option maxHeartbeats 1000000 in
theorem order_skip1 (W : World) (u v x : Value) (a b c : List Nat) (hu : Num W W.heap.size u a) (hv : Num W W.heap.size v b) (hx : Num W W.heap.size x c) (g0 : Hid (decide (a.length ≤ 8) = true)) (g1 : Hid (decide (b.length ≤ 8) = false)) :
    Calls Try.prog 8 #[u, v, x] W fun e w' => e = .returned (.bool true) ∧ Ext W w' := by
  have U := hid hu
  have V := hid hv
  have X := hid hx
  clear hu hv hx
  go_enter Try.func8, Try.ntmps8
  go_wp2_with fail
  refine (known_any _).mono ?_
  rintro e wn ⟨rfl, hb⟩
  replace U := hid (U.out.up hb)
  replace V := hid (V.out.up hb)
  replace X := hid (X.out.up hb)
  have E := hid hb
  clear hb 
  go_wp2_with fail
  refine (few_l U.out g0.out).mono ?_
  rintro e wq ⟨rfl, rfl⟩
  go_wp2_with fail
  refine (few_l V.out g1.out).mono ?_
  rintro e wq ⟨rfl, rfl⟩
  go_wp2
  go_ret
  exact ⟨rfl, E.out⟩

set_option maxHeartbeats 1000000 in
theorem order_skip2 (W : World) (u v x : Value) (a b c : List Nat) (hu : Num W W.heap.size u a) (hv : Num W W.heap.size v b) (hx : Num W W.heap.size x c) (g0 : Hid (decide (a.length ≤ 8) = true)) (g1 : Hid (decide (b.length ≤ 8) = true)) (g2 : Hid (decide (c.length ≤ 8) = false)) :
    Calls Try.prog 8 #[u, v, x] W fun e w' => e = .returned (.bool true) ∧ Ext W w' := by
  have U := hid hu
  have V := hid hv
  have X := hid hx
  clear hu hv hx
  go_enter Try.func8, Try.ntmps8
  go_wp2_with fail
  refine (known_any _).mono ?_
  rintro e wn ⟨rfl, hb⟩
  replace U := hid (U.out.up hb)
  replace V := hid (V.out.up hb)
  replace X := hid (X.out.up hb)
  have E := hid hb
  clear hb 
  go_wp2_with fail
  refine (few_l U.out g0.out).mono ?_
  rintro e wq ⟨rfl, rfl⟩
  go_wp2_with fail
  refine (few_l V.out g1.out).mono ?_
  rintro e wq ⟨rfl, rfl⟩
  go_wp2_with fail
  refine (few_l X.out g2.out).mono ?_
  rintro e wq ⟨rfl, rfl⟩
  go_wp2
  go_ret
  exact ⟨rfl, E.out⟩

set_option maxHeartbeats 1000000 in
theorem order_skip3 (W : World) (u v x : Value) (a b c : List Nat) (hu : Num W W.heap.size u a) (hv : Num W W.heap.size v b) (hx : Num W W.heap.size x c) (g0 : Hid (decide (a.length ≤ 8) = true)) (g1 : Hid (decide (b.length ≤ 8) = true)) (g2 : Hid (decide (c.length ≤ 8) = true)) (g3 : Hid (M.isNat a = false)) :
    Calls Try.prog 8 #[u, v, x] W fun e w' => e = .returned (.bool true) ∧ Ext W w' := by
  have U := hid hu
  have V := hid hv
  have X := hid hx
  clear hu hv hx
  go_enter Try.func8, Try.ntmps8
  go_wp2_with fail
  refine (known_any _).mono ?_
  rintro e wn ⟨rfl, hb⟩
  replace U := hid (U.out.up hb)
  replace V := hid (V.out.up hb)
  replace X := hid (X.out.up hb)
  have E := hid hb
  clear hb 
  go_wp2_with fail
  refine (few_l U.out g0.out).mono ?_
  rintro e wq ⟨rfl, rfl⟩
  go_wp2_with fail
  refine (few_l V.out g1.out).mono ?_
  rintro e wq ⟨rfl, rfl⟩
  go_wp2_with fail
  refine (few_l X.out g2.out).mono ?_
  rintro e wq ⟨rfl, rfl⟩
  go_wp2_with fail
  refine (isNat_l U.out g3.out).mono ?_
  rintro e wq ⟨rfl, rfl⟩
  go_wp2
  go_ret
  exact ⟨rfl, E.out⟩

set_option maxHeartbeats 1000000 in
theorem order_skip4 (W : World) (u v x : Value) (a b c : List Nat) (hu : Num W W.heap.size u a) (hv : Num W W.heap.size v b) (hx : Num W W.heap.size x c) (g0 : Hid (decide (a.length ≤ 8) = true)) (g1 : Hid (decide (b.length ≤ 8) = true)) (g2 : Hid (decide (c.length ≤ 8) = true)) (g3 : Hid (M.isNat a = true)) (g4 : Hid (M.isNat b = false)) :
    Calls Try.prog 8 #[u, v, x] W fun e w' => e = .returned (.bool true) ∧ Ext W w' := by
  have U := hid hu
  have V := hid hv
  have X := hid hx
  clear hu hv hx
  go_enter Try.func8, Try.ntmps8
  go_wp2_with fail
  refine (known_any _).mono ?_
  rintro e wn ⟨rfl, hb⟩
  replace U := hid (U.out.up hb)
  replace V := hid (V.out.up hb)
  replace X := hid (X.out.up hb)
  have E := hid hb
  clear hb 
  go_wp2_with fail
  refine (few_l U.out g0.out).mono ?_
  rintro e wq ⟨rfl, rfl⟩
  go_wp2_with fail
  refine (few_l V.out g1.out).mono ?_
  rintro e wq ⟨rfl, rfl⟩
  go_wp2_with fail
  refine (few_l X.out g2.out).mono ?_
  rintro e wq ⟨rfl, rfl⟩
  go_wp2_with fail
  refine (isNat_l U.out g3.out).mono ?_
  rintro e wq ⟨rfl, rfl⟩
  go_wp2_with fail
  refine (isNat_l V.out g4.out).mono ?_
  rintro e wq ⟨rfl, rfl⟩
  go_wp2
  go_ret
  exact ⟨rfl, E.out⟩

set_option maxHeartbeats 1000000 in
theorem order_skip5 (W : World) (u v x : Value) (a b c : List Nat) (hu : Num W W.heap.size u a) (hv : Num W W.heap.size v b) (hx : Num W W.heap.size x c) (g0 : Hid (decide (a.length ≤ 8) = true)) (g1 : Hid (decide (b.length ≤ 8) = true)) (g2 : Hid (decide (c.length ≤ 8) = true)) (g3 : Hid (M.isNat a = true)) (g4 : Hid (M.isNat b = true)) (g5 : Hid (M.isNat c = false)) :
    Calls Try.prog 8 #[u, v, x] W fun e w' => e = .returned (.bool true) ∧ Ext W w' := by
  have U := hid hu
  have V := hid hv
  have X := hid hx
  clear hu hv hx
  go_enter Try.func8, Try.ntmps8
  go_wp2_with fail
  refine (known_any _).mono ?_
  rintro e wn ⟨rfl, hb⟩
  replace U := hid (U.out.up hb)
  replace V := hid (V.out.up hb)
  replace X := hid (X.out.up hb)
  have E := hid hb
  clear hb 
  go_wp2_with fail
  refine (few_l U.out g0.out).mono ?_
  rintro e wq ⟨rfl, rfl⟩
  go_wp2_with fail
  refine (few_l V.out g1.out).mono ?_
  rintro e wq ⟨rfl, rfl⟩
  go_wp2_with fail
  refine (few_l X.out g2.out).mono ?_
  rintro e wq ⟨rfl, rfl⟩
  go_wp2_with fail
  refine (isNat_l U.out g3.out).mono ?_
  rintro e wq ⟨rfl, rfl⟩
  go_wp2_with fail
  refine (isNat_l V.out g4.out).mono ?_
  rintro e wq ⟨rfl, rfl⟩
  go_wp2_with fail
  refine (isNat_l X.out g5.out).mono ?_
  rintro e wq ⟨rfl, rfl⟩
  go_wp2
  go_ret
  exact ⟨rfl, E.out⟩

set_option maxHeartbeats 4000000 in
theorem order_lt_y (W : World) (u v x : Value) (a b c : List Nat) (hu : Num W W.heap.size u a) (hv : Num W W.heap.size v b) (hx : Num W W.heap.size x c) (g0 : Hid (decide (a.length ≤ 8) = true)) (g1 : Hid (decide (b.length ≤ 8) = true)) (g2 : Hid (decide (c.length ≤ 8) = true)) (g3 : Hid (M.isNat a = true)) (g4 : Hid (M.isNat b = true)) (g5 : Hid (M.isNat c = true)) (hab : Hid (M.nv a < M.nv b)) (hbc : Hid (M.nv b < M.nv c)) (hc : Hid (0 < M.nv c)) :
    Calls Try.prog 8 #[u, v, x] W fun e w' => e = .returned (.bool true) ∧ Ext W w' := by
  have U := hid hu
  have V := hid hv
  have X := hid hx
  have NU := hid (IsN.of hu g3.out (of_decide_eq_true g0.out))
  have NV := hid (IsN.of hv g4.out (of_decide_eq_true g1.out))
  have NX := hid (IsN.of hx g5.out (of_decide_eq_true g2.out))
  clear hu hv hx
  obtain ⟨z2, hz2⟩ : ∃ z, M.cmp (M.nv b) (M.nv c) = z := ⟨_, rfl⟩
  obtain rfl : z2 = -1 := by rw [← hz2]; exact M.cmp_lt hbc.out
  have HZ := hid hz2
  clear hz2
  go_enter Try.func8, Try.ntmps8
  go_wp2_with fail
  refine (known_any _).mono ?_
  rintro e wn ⟨rfl, hb⟩
  replace U := hid (U.out.up hb)
  replace V := hid (V.out.up hb)
  replace X := hid (X.out.up hb)
  replace NU := hid (NU.out.up hb)
  replace NV := hid (NV.out.up hb)
  replace NX := hid (NX.out.up hb)
  have E := hid hb
  clear hb 
  go_wp2_with fail
  refine (few_l U.out g0.out).mono ?_
  rintro e wq ⟨rfl, rfl⟩
  go_wp2_with fail
  refine (few_l V.out g1.out).mono ?_
  rintro e wq ⟨rfl, rfl⟩
  go_wp2_with fail
  refine (few_l X.out g2.out).mono ?_
  rintro e wq ⟨rfl, rfl⟩
  go_wp2_with fail
  refine (isNat_l U.out g3.out).mono ?_
  rintro e wq ⟨rfl, rfl⟩
  clear U
  go_wp2_with fail
  refine (isNat_l V.out g4.out).mono ?_
  rintro e wq ⟨rfl, rfl⟩
  clear V
  go_wp2_with fail
  refine (isNat_l X.out g5.out).mono ?_
  rintro e wq ⟨rfl, rfl⟩
  clear X
  go_wp2_with fail
  refine (cmp_n NU.out NV.out (z := -1) (M.cmp_lt hab.out)).mono ?_
  rintro e wn ⟨rfl, hb⟩
  replace NU := hid (NU.out.up hb)
  replace NV := hid (NV.out.up hb)
  replace NX := hid (NX.out.up hb)
  replace E := hid (E.out.trans hb)
  clear hb 
  go_wp2_with fail
  refine (cmp_n NV.out NX.out (z := -1) HZ.out).mono ?_
  rintro e wn ⟨rfl, hb⟩
  replace NU := hid (NU.out.up hb)
  replace NV := hid (NV.out.up hb)
  replace NX := hid (NX.out.up hb)
  replace E := hid (E.out.trans hb)
  clear hb 
  go_wp2_with fail
  refine (cmp_n NV.out NU.out (z := 1) (M.cmp_gt hab.out)).mono ?_
  rintro e wn ⟨rfl, hb⟩
  replace NU := hid (NU.out.up hb)
  replace NV := hid (NV.out.up hb)
  replace NX := hid (NX.out.up hb)
  replace E := hid (E.out.trans hb)
  clear hb 
  go_wp2_with fail
  refine (add_n NU.out NX.out (by omega) (by omega)).mono ?_
  rintro e wn ⟨vS, rfl, sx, hb⟩
  replace NU := hid (NU.out.up hb)
  replace NV := hid (NV.out.up hb)
  replace NX := hid (NX.out.up hb)
  replace E := hid (E.out.trans hb)
  have S := hid sx
  clear hb sx
  go_wp2_with fail
  refine (add_n NV.out NX.out (by omega) (by omega)).mono ?_
  rintro e wn ⟨vT, rfl, tx, hb⟩
  replace NU := hid (NU.out.up hb)
  replace NV := hid (NV.out.up hb)
  replace NX := hid (NX.out.up hb)
  replace S := hid (S.out.up hb)
  replace E := hid (E.out.trans hb)
  have T := hid tx
  clear hb tx
  go_wp2_with fail
  refine (cmp_n S.out T.out (z := -1) (M.cmp_lt (by have := hab.out; omega))).mono ?_
  rintro e wn ⟨rfl, hb⟩
  replace NU := hid (NU.out.up hb)
  replace NV := hid (NV.out.up hb)
  replace NX := hid (NX.out.up hb)
  replace S := hid (S.out.up hb)
  replace T := hid (T.out.up hb)
  replace E := hid (E.out.trans hb)
  clear hb 
  clear S T
  go_wp2_with fail
  refine (cmp_n NU.out NX.out (z := -1) (M.cmp_lt (by have := hab.out; have := hbc.out; omega))).mono ?_
  rintro e wn ⟨rfl, hb⟩
  replace NU := hid (NU.out.up hb)
  replace NV := hid (NV.out.up hb)
  replace NX := hid (NX.out.up hb)
  replace E := hid (E.out.trans hb)
  clear hb 
  go_wp2_with fail
  refine (sub_n NU.out NV.out (by omega)).mono ?_
  rintro e wn ⟨vD, rfl, dx, hb⟩
  replace NU := hid (NU.out.up hb)
  replace NV := hid (NV.out.up hb)
  replace NX := hid (NX.out.up hb)
  replace E := hid (E.out.trans hb)
  have D := hid dx
  clear hb dx
  obtain ⟨AD, nD, cD, e, hnD, _⟩ := D.out.1
  subst e
  obtain rfl : nD = 0 := by rw [hnD, show M.nv a - M.nv b = 0 by have := hab.out; omega, M.limbs_zero]; rfl
  clear D hnD
  go_wp2_with fail
  refine (mul_n NU.out NX.out (by omega) (by omega) (by omega)).mono ?_
  rintro e wn ⟨vS, rfl, sx, hb⟩
  replace NU := hid (NU.out.up hb)
  replace NV := hid (NV.out.up hb)
  replace NX := hid (NX.out.up hb)
  replace E := hid (E.out.trans hb)
  have S := hid sx
  clear hb sx
  go_wp2_with fail
  refine (mul_n NV.out NX.out (by omega) (by omega) (by omega)).mono ?_
  rintro e wn ⟨vT, rfl, tx, hb⟩
  replace NU := hid (NU.out.up hb)
  replace NV := hid (NV.out.up hb)
  replace NX := hid (NX.out.up hb)
  replace S := hid (S.out.up hb)
  replace E := hid (E.out.trans hb)
  have T := hid tx
  clear hb tx
  go_wp2_with fail
  refine (cmp_n S.out T.out (z := -1) (M.cmp_lt (Nat.mul_lt_mul_of_pos_right hab.out hc.out))).mono ?_
  rintro e wn ⟨rfl, hb⟩
  replace NU := hid (NU.out.up hb)
  replace NV := hid (NV.out.up hb)
  replace NX := hid (NX.out.up hb)
  replace S := hid (S.out.up hb)
  replace T := hid (T.out.up hb)
  replace E := hid (E.out.trans hb)
  clear hb 
  clear S T
  go_wp2
  go_ret
  exact ⟨rfl, E.out⟩

set_option maxHeartbeats 4000000 in
theorem order_lt_n (W : World) (u v x : Value) (a b c : List Nat) (hu : Num W W.heap.size u a) (hv : Num W W.heap.size v b) (hx : Num W W.heap.size x c) (g0 : Hid (decide (a.length ≤ 8) = true)) (g1 : Hid (decide (b.length ≤ 8) = true)) (g2 : Hid (decide (c.length ≤ 8) = true)) (g3 : Hid (M.isNat a = true)) (g4 : Hid (M.isNat b = true)) (g5 : Hid (M.isNat c = true)) (hab : Hid (M.nv a < M.nv b)) (hbc : Hid (M.nv c ≤ M.nv b)) (hc : Hid (0 < M.nv c)) :
    Calls Try.prog 8 #[u, v, x] W fun e w' => e = .returned (.bool true) ∧ Ext W w' := by
  have U := hid hu
  have V := hid hv
  have X := hid hx
  have NU := hid (IsN.of hu g3.out (of_decide_eq_true g0.out))
  have NV := hid (IsN.of hv g4.out (of_decide_eq_true g1.out))
  have NX := hid (IsN.of hx g5.out (of_decide_eq_true g2.out))
  clear hu hv hx
  obtain ⟨z2, hz2⟩ : ∃ z, M.cmp (M.nv b) (M.nv c) = z := ⟨_, rfl⟩
  have hz0 : 0 ≤ z2 := by rw [← hz2]; exact M.cmp_nonneg hbc.out
  have HZ := hid hz2
  clear hz2
  go_enter Try.func8, Try.ntmps8
  go_wp2_with fail
  refine (known_any _).mono ?_
  rintro e wn ⟨rfl, hb⟩
  replace U := hid (U.out.up hb)
  replace V := hid (V.out.up hb)
  replace X := hid (X.out.up hb)
  replace NU := hid (NU.out.up hb)
  replace NV := hid (NV.out.up hb)
  replace NX := hid (NX.out.up hb)
  have E := hid hb
  clear hb 
  go_wp2_with fail
  refine (few_l U.out g0.out).mono ?_
  rintro e wq ⟨rfl, rfl⟩
  go_wp2_with fail
  refine (few_l V.out g1.out).mono ?_
  rintro e wq ⟨rfl, rfl⟩
  go_wp2_with fail
  refine (few_l X.out g2.out).mono ?_
  rintro e wq ⟨rfl, rfl⟩
  go_wp2_with fail
  refine (isNat_l U.out g3.out).mono ?_
  rintro e wq ⟨rfl, rfl⟩
  clear U
  go_wp2_with fail
  refine (isNat_l V.out g4.out).mono ?_
  rintro e wq ⟨rfl, rfl⟩
  clear V
  go_wp2_with fail
  refine (isNat_l X.out g5.out).mono ?_
  rintro e wq ⟨rfl, rfl⟩
  clear X
  go_wp2_with fail
  refine (cmp_n NU.out NV.out (z := -1) (M.cmp_lt hab.out)).mono ?_
  rintro e wn ⟨rfl, hb⟩
  replace NU := hid (NU.out.up hb)
  replace NV := hid (NV.out.up hb)
  replace NX := hid (NX.out.up hb)
  replace E := hid (E.out.trans hb)
  clear hb 
  go_wp2_with fail
  refine (cmp_n NV.out NX.out (z := z2) HZ.out).mono ?_
  rintro e wn ⟨rfl, hb⟩
  replace NU := hid (NU.out.up hb)
  replace NV := hid (NV.out.up hb)
  replace NX := hid (NX.out.up hb)
  replace E := hid (E.out.trans hb)
  clear hb 
  go_wp2_with fail
  refine (cmp_n NV.out NU.out (z := 1) (M.cmp_gt hab.out)).mono ?_
  rintro e wn ⟨rfl, hb⟩
  replace NU := hid (NU.out.up hb)
  replace NV := hid (NV.out.up hb)
  replace NX := hid (NX.out.up hb)
  replace E := hid (E.out.trans hb)
  clear hb 
  go_wp2_with fail
  refine (add_n NU.out NX.out (by omega) (by omega)).mono ?_
  rintro e wn ⟨vS, rfl, sx, hb⟩
  replace NU := hid (NU.out.up hb)
  replace NV := hid (NV.out.up hb)
  replace NX := hid (NX.out.up hb)
  replace E := hid (E.out.trans hb)
  have S := hid sx
  clear hb sx
  go_wp2_with fail
  refine (add_n NV.out NX.out (by omega) (by omega)).mono ?_
  rintro e wn ⟨vT, rfl, tx, hb⟩
  replace NU := hid (NU.out.up hb)
  replace NV := hid (NV.out.up hb)
  replace NX := hid (NX.out.up hb)
  replace S := hid (S.out.up hb)
  replace E := hid (E.out.trans hb)
  have T := hid tx
  clear hb tx
  go_wp2_with fail
  refine (cmp_n S.out T.out (z := -1) (M.cmp_lt (by have := hab.out; omega))).mono ?_
  rintro e wn ⟨rfl, hb⟩
  replace NU := hid (NU.out.up hb)
  replace NV := hid (NV.out.up hb)
  replace NX := hid (NX.out.up hb)
  replace S := hid (S.out.up hb)
  replace T := hid (T.out.up hb)
  replace E := hid (E.out.trans hb)
  clear hb 
  clear S T
  go_wp2_with fail
  refine (sub_n NU.out NV.out (by omega)).mono ?_
  rintro e wn ⟨vD, rfl, dx, hb⟩
  replace NU := hid (NU.out.up hb)
  replace NV := hid (NV.out.up hb)
  replace NX := hid (NX.out.up hb)
  replace E := hid (E.out.trans hb)
  have D := hid dx
  clear hb dx
  obtain ⟨AD, nD, cD, e, hnD, _⟩ := D.out.1
  subst e
  obtain rfl : nD = 0 := by rw [hnD, show M.nv a - M.nv b = 0 by have := hab.out; omega, M.limbs_zero]; rfl
  clear D hnD
  go_wp2_with fail
  refine (mul_n NU.out NX.out (by omega) (by omega) (by omega)).mono ?_
  rintro e wn ⟨vS, rfl, sx, hb⟩
  replace NU := hid (NU.out.up hb)
  replace NV := hid (NV.out.up hb)
  replace NX := hid (NX.out.up hb)
  replace E := hid (E.out.trans hb)
  have S := hid sx
  clear hb sx
  go_wp2_with fail
  refine (mul_n NV.out NX.out (by omega) (by omega) (by omega)).mono ?_
  rintro e wn ⟨vT, rfl, tx, hb⟩
  replace NU := hid (NU.out.up hb)
  replace NV := hid (NV.out.up hb)
  replace NX := hid (NX.out.up hb)
  replace S := hid (S.out.up hb)
  replace E := hid (E.out.trans hb)
  have T := hid tx
  clear hb tx
  go_wp2_with fail
  refine (cmp_n S.out T.out (z := -1) (M.cmp_lt (Nat.mul_lt_mul_of_pos_right hab.out hc.out))).mono ?_
  rintro e wn ⟨rfl, hb⟩
  replace NU := hid (NU.out.up hb)
  replace NV := hid (NV.out.up hb)
  replace NX := hid (NX.out.up hb)
  replace S := hid (S.out.up hb)
  replace T := hid (T.out.up hb)
  replace E := hid (E.out.trans hb)
  clear hb 
  clear S T
  go_wp2
  go_ret
  exact ⟨rfl, E.out⟩

set_option maxHeartbeats 4000000 in
theorem order_lt_n_z (W : World) (u v x : Value) (a b c : List Nat) (hu : Num W W.heap.size u a) (hv : Num W W.heap.size v b) (hx : Num W W.heap.size x c) (g0 : Hid (decide (a.length ≤ 8) = true)) (g1 : Hid (decide (b.length ≤ 8) = true)) (g2 : Hid (decide (c.length ≤ 8) = true)) (g3 : Hid (M.isNat a = true)) (g4 : Hid (M.isNat b = true)) (g5 : Hid (M.isNat c = true)) (hab : Hid (M.nv a < M.nv b)) (hbc : Hid (M.nv c ≤ M.nv b)) (hc : Hid (c = [])) :
    Calls Try.prog 8 #[u, v, x] W fun e w' => e = .returned (.bool true) ∧ Ext W w' := by
  obtain rfl : c = [] := hc.out
  have U := hid hu
  have V := hid hv
  have X := hid hx
  have NU := hid (IsN.of hu g3.out (of_decide_eq_true g0.out))
  have NV := hid (IsN.of hv g4.out (of_decide_eq_true g1.out))
  have NX := hid (IsN.of hx g5.out (of_decide_eq_true g2.out))
  clear hu hv hx
  obtain ⟨z2, hz2⟩ : ∃ z, M.cmp (M.nv b) (M.nv []) = z := ⟨_, rfl⟩
  have hz0 : 0 ≤ z2 := by rw [← hz2]; exact M.cmp_nonneg hbc.out
  have HZ := hid hz2
  clear hz2
  obtain ⟨A0, n0, c0, rfl, hn0, _⟩ := X.out
  obtain rfl : n0 = 0 := by simpa using hn0
  clear hn0
  go_enter Try.func8, Try.ntmps8
  go_wp2_with fail
  refine (known_any _).mono ?_
  rintro e wn ⟨rfl, hb⟩
  replace U := hid (U.out.up hb)
  replace V := hid (V.out.up hb)
  replace X := hid (X.out.up hb)
  replace NU := hid (NU.out.up hb)
  replace NV := hid (NV.out.up hb)
  replace NX := hid (NX.out.up hb)
  have E := hid hb
  clear hb 
  go_wp2_with fail
  refine (few_l U.out g0.out).mono ?_
  rintro e wq ⟨rfl, rfl⟩
  go_wp2_with fail
  refine (few_l V.out g1.out).mono ?_
  rintro e wq ⟨rfl, rfl⟩
  go_wp2_with fail
  refine (few_l X.out g2.out).mono ?_
  rintro e wq ⟨rfl, rfl⟩
  go_wp2_with fail
  refine (isNat_l U.out g3.out).mono ?_
  rintro e wq ⟨rfl, rfl⟩
  clear U
  go_wp2_with fail
  refine (isNat_l V.out g4.out).mono ?_
  rintro e wq ⟨rfl, rfl⟩
  clear V
  go_wp2_with fail
  refine (isNat_l X.out g5.out).mono ?_
  rintro e wq ⟨rfl, rfl⟩
  clear X
  go_wp2_with fail
  refine (cmp_n NU.out NV.out (z := -1) (M.cmp_lt hab.out)).mono ?_
  rintro e wn ⟨rfl, hb⟩
  replace NU := hid (NU.out.up hb)
  replace NV := hid (NV.out.up hb)
  replace NX := hid (NX.out.up hb)
  replace E := hid (E.out.trans hb)
  clear hb 
  go_wp2_with fail
  refine (cmp_n NV.out NX.out (z := z2) HZ.out).mono ?_
  rintro e wn ⟨rfl, hb⟩
  replace NU := hid (NU.out.up hb)
  replace NV := hid (NV.out.up hb)
  replace NX := hid (NX.out.up hb)
  replace E := hid (E.out.trans hb)
  clear hb 
  go_wp2_with fail
  refine (cmp_n NV.out NU.out (z := 1) (M.cmp_gt hab.out)).mono ?_
  rintro e wn ⟨rfl, hb⟩
  replace NU := hid (NU.out.up hb)
  replace NV := hid (NV.out.up hb)
  replace NX := hid (NX.out.up hb)
  replace E := hid (E.out.trans hb)
  clear hb 
  go_wp2_with fail
  refine (add_n NU.out NX.out (by omega) (by omega)).mono ?_
  rintro e wn ⟨vS, rfl, sx, hb⟩
  replace NU := hid (NU.out.up hb)
  replace NV := hid (NV.out.up hb)
  replace NX := hid (NX.out.up hb)
  replace E := hid (E.out.trans hb)
  have S := hid sx
  clear hb sx
  go_wp2_with fail
  refine (add_n NV.out NX.out (by omega) (by omega)).mono ?_
  rintro e wn ⟨vT, rfl, tx, hb⟩
  replace NU := hid (NU.out.up hb)
  replace NV := hid (NV.out.up hb)
  replace NX := hid (NX.out.up hb)
  replace S := hid (S.out.up hb)
  replace E := hid (E.out.trans hb)
  have T := hid tx
  clear hb tx
  go_wp2_with fail
  refine (cmp_n S.out T.out (z := -1) (M.cmp_lt (by have := hab.out; omega))).mono ?_
  rintro e wn ⟨rfl, hb⟩
  replace NU := hid (NU.out.up hb)
  replace NV := hid (NV.out.up hb)
  replace NX := hid (NX.out.up hb)
  replace S := hid (S.out.up hb)
  replace T := hid (T.out.up hb)
  replace E := hid (E.out.trans hb)
  clear hb 
  clear S T
  go_wp2_with fail
  refine (sub_n NU.out NV.out (by omega)).mono ?_
  rintro e wn ⟨vD, rfl, dx, hb⟩
  replace NU := hid (NU.out.up hb)
  replace NV := hid (NV.out.up hb)
  replace NX := hid (NX.out.up hb)
  replace E := hid (E.out.trans hb)
  have D := hid dx
  clear hb dx
  obtain ⟨AD, nD, cD, e, hnD, _⟩ := D.out.1
  subst e
  obtain rfl : nD = 0 := by rw [hnD, show M.nv a - M.nv b = 0 by have := hab.out; omega, M.limbs_zero]; rfl
  clear D hnD
  go_wp2_with fail
  refine (mul_n NU.out NX.out (by omega) (by omega) (by omega)).mono ?_
  rintro e wn ⟨vS, rfl, sx, hb⟩
  replace NU := hid (NU.out.up hb)
  replace NV := hid (NV.out.up hb)
  replace NX := hid (NX.out.up hb)
  replace E := hid (E.out.trans hb)
  have S := hid sx
  clear hb sx
  go_wp2_with fail
  refine (mul_n NV.out NX.out (by omega) (by omega) (by omega)).mono ?_
  rintro e wn ⟨vT, rfl, tx, hb⟩
  replace NU := hid (NU.out.up hb)
  replace NV := hid (NV.out.up hb)
  replace NX := hid (NX.out.up hb)
  replace S := hid (S.out.up hb)
  replace E := hid (E.out.trans hb)
  have T := hid tx
  clear hb tx
  go_wp2_with fail
  refine (cmp_n S.out T.out (z := 0) (M.cmp_zero.2 (by simp [M.nv, M.isNat, M.val]))).mono ?_
  rintro e wn ⟨rfl, hb⟩
  replace NU := hid (NU.out.up hb)
  replace NV := hid (NV.out.up hb)
  replace NX := hid (NX.out.up hb)
  replace S := hid (S.out.up hb)
  replace T := hid (T.out.up hb)
  replace E := hid (E.out.trans hb)
  clear hb 
  clear S T
  go_wp2
  go_ret
  exact ⟨rfl, E.out⟩

set_option maxHeartbeats 4000000 in
theorem order_eq (W : World) (u v x : Value) (a b c : List Nat) (hu : Num W W.heap.size u a) (hv : Num W W.heap.size v b) (hx : Num W W.heap.size x c) (g0 : Hid (decide (a.length ≤ 8) = true)) (g1 : Hid (decide (b.length ≤ 8) = true)) (g2 : Hid (decide (c.length ≤ 8) = true)) (g3 : Hid (M.isNat a = true)) (g4 : Hid (M.isNat b = true)) (g5 : Hid (M.isNat c = true)) (hab : Hid (M.nv a = M.nv b)) (hc : Hid (0 < M.nv c)) :
    Calls Try.prog 8 #[u, v, x] W fun e w' => e = .returned (.bool true) ∧ Ext W w' := by
  have U := hid hu
  have V := hid hv
  have X := hid hx
  have NU := hid (IsN.of hu g3.out (of_decide_eq_true g0.out))
  have NV := hid (IsN.of hv g4.out (of_decide_eq_true g1.out))
  have NX := hid (IsN.of hx g5.out (of_decide_eq_true g2.out))
  clear hu hv hx
  obtain ⟨z2, hz2⟩ : ∃ z, M.cmp (M.nv b) (M.nv c) = z := ⟨_, rfl⟩
  have HZ := hid hz2
  clear hz2
  go_enter Try.func8, Try.ntmps8
  go_wp2_with fail
  refine (known_any _).mono ?_
  rintro e wn ⟨rfl, hb⟩
  replace U := hid (U.out.up hb)
  replace V := hid (V.out.up hb)
  replace X := hid (X.out.up hb)
  replace NU := hid (NU.out.up hb)
  replace NV := hid (NV.out.up hb)
  replace NX := hid (NX.out.up hb)
  have E := hid hb
  clear hb 
  go_wp2_with fail
  refine (few_l U.out g0.out).mono ?_
  rintro e wq ⟨rfl, rfl⟩
  go_wp2_with fail
  refine (few_l V.out g1.out).mono ?_
  rintro e wq ⟨rfl, rfl⟩
  go_wp2_with fail
  refine (few_l X.out g2.out).mono ?_
  rintro e wq ⟨rfl, rfl⟩
  go_wp2_with fail
  refine (isNat_l U.out g3.out).mono ?_
  rintro e wq ⟨rfl, rfl⟩
  clear U
  go_wp2_with fail
  refine (isNat_l V.out g4.out).mono ?_
  rintro e wq ⟨rfl, rfl⟩
  clear V
  go_wp2_with fail
  refine (isNat_l X.out g5.out).mono ?_
  rintro e wq ⟨rfl, rfl⟩
  clear X
  go_wp2_with fail
  refine (cmp_n NU.out NV.out (z := 0) (M.cmp_zero.2 hab.out)).mono ?_
  rintro e wn ⟨rfl, hb⟩
  replace NU := hid (NU.out.up hb)
  replace NV := hid (NV.out.up hb)
  replace NX := hid (NX.out.up hb)
  replace E := hid (E.out.trans hb)
  clear hb 
  go_wp2_with fail
  refine (cmp_n NV.out NX.out (z := z2) HZ.out).mono ?_
  rintro e wn ⟨rfl, hb⟩
  replace NU := hid (NU.out.up hb)
  replace NV := hid (NV.out.up hb)
  replace NX := hid (NX.out.up hb)
  replace E := hid (E.out.trans hb)
  clear hb 
  go_wp2_with fail
  refine (cmp_n NV.out NU.out (z := 0) (M.cmp_zero.2 hab.out.symm)).mono ?_
  rintro e wn ⟨rfl, hb⟩
  replace NU := hid (NU.out.up hb)
  replace NV := hid (NV.out.up hb)
  replace NX := hid (NX.out.up hb)
  replace E := hid (E.out.trans hb)
  clear hb 
  go_wp2_with fail
  refine (add_n NU.out NX.out (by omega) (by omega)).mono ?_
  rintro e wn ⟨vS, rfl, sx, hb⟩
  replace NU := hid (NU.out.up hb)
  replace NV := hid (NV.out.up hb)
  replace NX := hid (NX.out.up hb)
  replace E := hid (E.out.trans hb)
  have S := hid sx
  clear hb sx
  go_wp2_with fail
  refine (add_n NV.out NX.out (by omega) (by omega)).mono ?_
  rintro e wn ⟨vT, rfl, tx, hb⟩
  replace NU := hid (NU.out.up hb)
  replace NV := hid (NV.out.up hb)
  replace NX := hid (NX.out.up hb)
  replace S := hid (S.out.up hb)
  replace E := hid (E.out.trans hb)
  have T := hid tx
  clear hb tx
  go_wp2_with fail
  refine (cmp_n S.out T.out (z := 0) (M.cmp_zero.2 (by have := hab.out; omega))).mono ?_
  rintro e wn ⟨rfl, hb⟩
  replace NU := hid (NU.out.up hb)
  replace NV := hid (NV.out.up hb)
  replace NX := hid (NX.out.up hb)
  replace S := hid (S.out.up hb)
  replace T := hid (T.out.up hb)
  replace E := hid (E.out.trans hb)
  clear hb 
  clear S T
  go_wp2_with fail
  refine (sub_n NU.out NV.out (by omega)).mono ?_
  rintro e wn ⟨vD, rfl, dx, hb⟩
  replace NU := hid (NU.out.up hb)
  replace NV := hid (NV.out.up hb)
  replace NX := hid (NX.out.up hb)
  replace E := hid (E.out.trans hb)
  have D := hid dx
  clear hb dx
  obtain ⟨AD, nD, cD, e, hnD, _⟩ := D.out.1
  subst e
  obtain rfl : nD = 0 := by rw [hnD, show M.nv a - M.nv b = 0 by have := hab.out; omega, M.limbs_zero]; rfl
  clear D hnD
  go_wp2_with fail
  refine (mul_n NU.out NX.out (by omega) (by omega) (by omega)).mono ?_
  rintro e wn ⟨vS, rfl, sx, hb⟩
  replace NU := hid (NU.out.up hb)
  replace NV := hid (NV.out.up hb)
  replace NX := hid (NX.out.up hb)
  replace E := hid (E.out.trans hb)
  have S := hid sx
  clear hb sx
  go_wp2_with fail
  refine (mul_n NV.out NX.out (by omega) (by omega) (by omega)).mono ?_
  rintro e wn ⟨vT, rfl, tx, hb⟩
  replace NU := hid (NU.out.up hb)
  replace NV := hid (NV.out.up hb)
  replace NX := hid (NX.out.up hb)
  replace S := hid (S.out.up hb)
  replace E := hid (E.out.trans hb)
  have T := hid tx
  clear hb tx
  go_wp2_with fail
  refine (cmp_n S.out T.out (z := 0) (M.cmp_zero.2 (by rw [hab.out]))).mono ?_
  rintro e wn ⟨rfl, hb⟩
  replace NU := hid (NU.out.up hb)
  replace NV := hid (NV.out.up hb)
  replace NX := hid (NX.out.up hb)
  replace S := hid (S.out.up hb)
  replace T := hid (T.out.up hb)
  replace E := hid (E.out.trans hb)
  clear hb 
  clear S T
  go_wp2
  go_ret
  exact ⟨rfl, E.out⟩

set_option maxHeartbeats 4000000 in
theorem order_eq_z (W : World) (u v x : Value) (a b c : List Nat) (hu : Num W W.heap.size u a) (hv : Num W W.heap.size v b) (hx : Num W W.heap.size x c) (g0 : Hid (decide (a.length ≤ 8) = true)) (g1 : Hid (decide (b.length ≤ 8) = true)) (g2 : Hid (decide (c.length ≤ 8) = true)) (g3 : Hid (M.isNat a = true)) (g4 : Hid (M.isNat b = true)) (g5 : Hid (M.isNat c = true)) (hab : Hid (M.nv a = M.nv b)) (hc : Hid (c = [])) :
    Calls Try.prog 8 #[u, v, x] W fun e w' => e = .returned (.bool true) ∧ Ext W w' := by
  obtain rfl : c = [] := hc.out
  have U := hid hu
  have V := hid hv
  have X := hid hx
  have NU := hid (IsN.of hu g3.out (of_decide_eq_true g0.out))
  have NV := hid (IsN.of hv g4.out (of_decide_eq_true g1.out))
  have NX := hid (IsN.of hx g5.out (of_decide_eq_true g2.out))
  clear hu hv hx
  obtain ⟨z2, hz2⟩ : ∃ z, M.cmp (M.nv b) (M.nv []) = z := ⟨_, rfl⟩
  have HZ := hid hz2
  clear hz2
  obtain ⟨A0, n0, c0, rfl, hn0, _⟩ := X.out
  obtain rfl : n0 = 0 := by simpa using hn0
  clear hn0
  go_enter Try.func8, Try.ntmps8
  go_wp2_with fail
  refine (known_any _).mono ?_
  rintro e wn ⟨rfl, hb⟩
  replace U := hid (U.out.up hb)
  replace V := hid (V.out.up hb)
  replace X := hid (X.out.up hb)
  replace NU := hid (NU.out.up hb)
  replace NV := hid (NV.out.up hb)
  replace NX := hid (NX.out.up hb)
  have E := hid hb
  clear hb 
  go_wp2_with fail
  refine (few_l U.out g0.out).mono ?_
  rintro e wq ⟨rfl, rfl⟩
  go_wp2_with fail
  refine (few_l V.out g1.out).mono ?_
  rintro e wq ⟨rfl, rfl⟩
  go_wp2_with fail
  refine (few_l X.out g2.out).mono ?_
  rintro e wq ⟨rfl, rfl⟩
  go_wp2_with fail
  refine (isNat_l U.out g3.out).mono ?_
  rintro e wq ⟨rfl, rfl⟩
  clear U
  go_wp2_with fail
  refine (isNat_l V.out g4.out).mono ?_
  rintro e wq ⟨rfl, rfl⟩
  clear V
  go_wp2_with fail
  refine (isNat_l X.out g5.out).mono ?_
  rintro e wq ⟨rfl, rfl⟩
  clear X
  go_wp2_with fail
  refine (cmp_n NU.out NV.out (z := 0) (M.cmp_zero.2 hab.out)).mono ?_
  rintro e wn ⟨rfl, hb⟩
  replace NU := hid (NU.out.up hb)
  replace NV := hid (NV.out.up hb)
  replace NX := hid (NX.out.up hb)
  replace E := hid (E.out.trans hb)
  clear hb 
  go_wp2_with fail
  refine (cmp_n NV.out NX.out (z := z2) HZ.out).mono ?_
  rintro e wn ⟨rfl, hb⟩
  replace NU := hid (NU.out.up hb)
  replace NV := hid (NV.out.up hb)
  replace NX := hid (NX.out.up hb)
  replace E := hid (E.out.trans hb)
  clear hb 
  go_wp2_with fail
  refine (cmp_n NV.out NU.out (z := 0) (M.cmp_zero.2 hab.out.symm)).mono ?_
  rintro e wn ⟨rfl, hb⟩
  replace NU := hid (NU.out.up hb)
  replace NV := hid (NV.out.up hb)
  replace NX := hid (NX.out.up hb)
  replace E := hid (E.out.trans hb)
  clear hb 
  go_wp2_with fail
  refine (add_n NU.out NX.out (by omega) (by omega)).mono ?_
  rintro e wn ⟨vS, rfl, sx, hb⟩
  replace NU := hid (NU.out.up hb)
  replace NV := hid (NV.out.up hb)
  replace NX := hid (NX.out.up hb)
  replace E := hid (E.out.trans hb)
  have S := hid sx
  clear hb sx
  go_wp2_with fail
  refine (add_n NV.out NX.out (by omega) (by omega)).mono ?_
  rintro e wn ⟨vT, rfl, tx, hb⟩
  replace NU := hid (NU.out.up hb)
  replace NV := hid (NV.out.up hb)
  replace NX := hid (NX.out.up hb)
  replace S := hid (S.out.up hb)
  replace E := hid (E.out.trans hb)
  have T := hid tx
  clear hb tx
  go_wp2_with fail
  refine (cmp_n S.out T.out (z := 0) (M.cmp_zero.2 (by have := hab.out; omega))).mono ?_
  rintro e wn ⟨rfl, hb⟩
  replace NU := hid (NU.out.up hb)
  replace NV := hid (NV.out.up hb)
  replace NX := hid (NX.out.up hb)
  replace S := hid (S.out.up hb)
  replace T := hid (T.out.up hb)
  replace E := hid (E.out.trans hb)
  clear hb 
  clear S T
  go_wp2_with fail
  refine (sub_n NU.out NV.out (by omega)).mono ?_
  rintro e wn ⟨vD, rfl, dx, hb⟩
  replace NU := hid (NU.out.up hb)
  replace NV := hid (NV.out.up hb)
  replace NX := hid (NX.out.up hb)
  replace E := hid (E.out.trans hb)
  have D := hid dx
  clear hb dx
  obtain ⟨AD, nD, cD, e, hnD, _⟩ := D.out.1
  subst e
  obtain rfl : nD = 0 := by rw [hnD, show M.nv a - M.nv b = 0 by have := hab.out; omega, M.limbs_zero]; rfl
  clear D hnD
  go_wp2_with fail
  refine (mul_n NU.out NX.out (by omega) (by omega) (by omega)).mono ?_
  rintro e wn ⟨vS, rfl, sx, hb⟩
  replace NU := hid (NU.out.up hb)
  replace NV := hid (NV.out.up hb)
  replace NX := hid (NX.out.up hb)
  replace E := hid (E.out.trans hb)
  have S := hid sx
  clear hb sx
  go_wp2_with fail
  refine (mul_n NV.out NX.out (by omega) (by omega) (by omega)).mono ?_
  rintro e wn ⟨vT, rfl, tx, hb⟩
  replace NU := hid (NU.out.up hb)
  replace NV := hid (NV.out.up hb)
  replace NX := hid (NX.out.up hb)
  replace S := hid (S.out.up hb)
  replace E := hid (E.out.trans hb)
  have T := hid tx
  clear hb tx
  go_wp2_with fail
  refine (cmp_n S.out T.out (z := 0) (M.cmp_zero.2 (by simp [M.nv, M.isNat, M.val]))).mono ?_
  rintro e wn ⟨rfl, hb⟩
  replace NU := hid (NU.out.up hb)
  replace NV := hid (NV.out.up hb)
  replace NX := hid (NX.out.up hb)
  replace S := hid (S.out.up hb)
  replace T := hid (T.out.up hb)
  replace E := hid (E.out.trans hb)
  clear hb 
  clear S T
  go_wp2
  go_ret
  exact ⟨rfl, E.out⟩

set_option maxHeartbeats 4000000 in
theorem order_gt (W : World) (u v x : Value) (a b c : List Nat) (hu : Num W W.heap.size u a) (hv : Num W W.heap.size v b) (hx : Num W W.heap.size x c) (g0 : Hid (decide (a.length ≤ 8) = true)) (g1 : Hid (decide (b.length ≤ 8) = true)) (g2 : Hid (decide (c.length ≤ 8) = true)) (g3 : Hid (M.isNat a = true)) (g4 : Hid (M.isNat b = true)) (g5 : Hid (M.isNat c = true)) (hab : Hid (M.nv b < M.nv a)) (hc : Hid (0 < M.nv c)) :
    Calls Try.prog 8 #[u, v, x] W fun e w' => e = .returned (.bool true) ∧ Ext W w' := by
  have U := hid hu
  have V := hid hv
  have X := hid hx
  have NU := hid (IsN.of hu g3.out (of_decide_eq_true g0.out))
  have NV := hid (IsN.of hv g4.out (of_decide_eq_true g1.out))
  have NX := hid (IsN.of hx g5.out (of_decide_eq_true g2.out))
  clear hu hv hx
  obtain ⟨z2, hz2⟩ : ∃ z, M.cmp (M.nv b) (M.nv c) = z := ⟨_, rfl⟩
  have HZ := hid hz2
  clear hz2
  go_enter Try.func8, Try.ntmps8
  go_wp2_with fail
  refine (known_any _).mono ?_
  rintro e wn ⟨rfl, hb⟩
  replace U := hid (U.out.up hb)
  replace V := hid (V.out.up hb)
  replace X := hid (X.out.up hb)
  replace NU := hid (NU.out.up hb)
  replace NV := hid (NV.out.up hb)
  replace NX := hid (NX.out.up hb)
  have E := hid hb
  clear hb 
  go_wp2_with fail
  refine (few_l U.out g0.out).mono ?_
  rintro e wq ⟨rfl, rfl⟩
  go_wp2_with fail
  refine (few_l V.out g1.out).mono ?_
  rintro e wq ⟨rfl, rfl⟩
  go_wp2_with fail
  refine (few_l X.out g2.out).mono ?_
  rintro e wq ⟨rfl, rfl⟩
  go_wp2_with fail
  refine (isNat_l U.out g3.out).mono ?_
  rintro e wq ⟨rfl, rfl⟩
  clear U
  go_wp2_with fail
  refine (isNat_l V.out g4.out).mono ?_
  rintro e wq ⟨rfl, rfl⟩
  clear V
  go_wp2_with fail
  refine (isNat_l X.out g5.out).mono ?_
  rintro e wq ⟨rfl, rfl⟩
  clear X
  go_wp2_with fail
  refine (cmp_n NU.out NV.out (z := 1) (M.cmp_gt hab.out)).mono ?_
  rintro e wn ⟨rfl, hb⟩
  replace NU := hid (NU.out.up hb)
  replace NV := hid (NV.out.up hb)
  replace NX := hid (NX.out.up hb)
  replace E := hid (E.out.trans hb)
  clear hb 
  go_wp2_with fail
  refine (cmp_n NV.out NX.out (z := z2) HZ.out).mono ?_
  rintro e wn ⟨rfl, hb⟩
  replace NU := hid (NU.out.up hb)
  replace NV := hid (NV.out.up hb)
  replace NX := hid (NX.out.up hb)
  replace E := hid (E.out.trans hb)
  clear hb 
  go_wp2_with fail
  refine (cmp_n NV.out NU.out (z := -1) (M.cmp_lt hab.out)).mono ?_
  rintro e wn ⟨rfl, hb⟩
  replace NU := hid (NU.out.up hb)
  replace NV := hid (NV.out.up hb)
  replace NX := hid (NX.out.up hb)
  replace E := hid (E.out.trans hb)
  clear hb 
  go_wp2_with fail
  refine (add_n NU.out NX.out (by omega) (by omega)).mono ?_
  rintro e wn ⟨vS, rfl, sx, hb⟩
  replace NU := hid (NU.out.up hb)
  replace NV := hid (NV.out.up hb)
  replace NX := hid (NX.out.up hb)
  replace E := hid (E.out.trans hb)
  have S := hid sx
  clear hb sx
  go_wp2_with fail
  refine (add_n NV.out NX.out (by omega) (by omega)).mono ?_
  rintro e wn ⟨vT, rfl, tx, hb⟩
  replace NU := hid (NU.out.up hb)
  replace NV := hid (NV.out.up hb)
  replace NX := hid (NX.out.up hb)
  replace S := hid (S.out.up hb)
  replace E := hid (E.out.trans hb)
  have T := hid tx
  clear hb tx
  go_wp2_with fail
  refine (cmp_n S.out T.out (z := 1) (M.cmp_gt (by have := hab.out; omega))).mono ?_
  rintro e wn ⟨rfl, hb⟩
  replace NU := hid (NU.out.up hb)
  replace NV := hid (NV.out.up hb)
  replace NX := hid (NX.out.up hb)
  replace S := hid (S.out.up hb)
  replace T := hid (T.out.up hb)
  replace E := hid (E.out.trans hb)
  clear hb 
  clear S T
  go_wp2_with fail
  refine (sub_n NU.out NV.out (by omega)).mono ?_
  rintro e wn ⟨vD, rfl, dx, hb⟩
  replace NU := hid (NU.out.up hb)
  replace NV := hid (NV.out.up hb)
  replace NX := hid (NX.out.up hb)
  replace E := hid (E.out.trans hb)
  have D := hid dx
  clear hb dx
  obtain ⟨AD, nD, cD, e, hnD, _⟩ := D.out.1
  subst e
  have hD : ((nD : Int) == 0) = false := by
    have : M.limbs (M.nv a - M.nv b) ≠ [] := M.limbs_ne (by have := hab.out; omega)
    have := List.length_pos_iff.2 this
    rw [← hnD] at this
    simp; omega
  clear D hnD
  go_wp2_with fail
  refine (mul_n NU.out NX.out (by omega) (by omega) (by omega)).mono ?_
  rintro e wn ⟨vS, rfl, sx, hb⟩
  replace NU := hid (NU.out.up hb)
  replace NV := hid (NV.out.up hb)
  replace NX := hid (NX.out.up hb)
  replace E := hid (E.out.trans hb)
  have S := hid sx
  clear hb sx
  go_wp2_with fail
  refine (mul_n NV.out NX.out (by omega) (by omega) (by omega)).mono ?_
  rintro e wn ⟨vT, rfl, tx, hb⟩
  replace NU := hid (NU.out.up hb)
  replace NV := hid (NV.out.up hb)
  replace NX := hid (NX.out.up hb)
  replace S := hid (S.out.up hb)
  replace E := hid (E.out.trans hb)
  have T := hid tx
  clear hb tx
  go_wp2_with fail
  refine (cmp_n S.out T.out (z := 1) (M.cmp_gt (Nat.mul_lt_mul_of_pos_right hab.out hc.out))).mono ?_
  rintro e wn ⟨rfl, hb⟩
  replace NU := hid (NU.out.up hb)
  replace NV := hid (NV.out.up hb)
  replace NX := hid (NX.out.up hb)
  replace S := hid (S.out.up hb)
  replace T := hid (T.out.up hb)
  replace E := hid (E.out.trans hb)
  clear hb 
  clear S T
  go_wp2
  go_ret
  exact ⟨rfl, E.out⟩

set_option maxHeartbeats 4000000 in
theorem order_gt_z (W : World) (u v x : Value) (a b c : List Nat) (hu : Num W W.heap.size u a) (hv : Num W W.heap.size v b) (hx : Num W W.heap.size x c) (g0 : Hid (decide (a.length ≤ 8) = true)) (g1 : Hid (decide (b.length ≤ 8) = true)) (g2 : Hid (decide (c.length ≤ 8) = true)) (g3 : Hid (M.isNat a = true)) (g4 : Hid (M.isNat b = true)) (g5 : Hid (M.isNat c = true)) (hab : Hid (M.nv b < M.nv a)) (hc : Hid (c = [])) :
    Calls Try.prog 8 #[u, v, x] W fun e w' => e = .returned (.bool true) ∧ Ext W w' := by
  obtain rfl : c = [] := hc.out
  have U := hid hu
  have V := hid hv
  have X := hid hx
  have NU := hid (IsN.of hu g3.out (of_decide_eq_true g0.out))
  have NV := hid (IsN.of hv g4.out (of_decide_eq_true g1.out))
  have NX := hid (IsN.of hx g5.out (of_decide_eq_true g2.out))
  clear hu hv hx
  obtain ⟨z2, hz2⟩ : ∃ z, M.cmp (M.nv b) (M.nv []) = z := ⟨_, rfl⟩
  have HZ := hid hz2
  clear hz2
  obtain ⟨A0, n0, c0, rfl, hn0, _⟩ := X.out
  obtain rfl : n0 = 0 := by simpa using hn0
  clear hn0
  go_enter Try.func8, Try.ntmps8
  go_wp2_with fail
  refine (known_any _).mono ?_
  rintro e wn ⟨rfl, hb⟩
  replace U := hid (U.out.up hb)
  replace V := hid (V.out.up hb)
  replace X := hid (X.out.up hb)
  replace NU := hid (NU.out.up hb)
  replace NV := hid (NV.out.up hb)
  replace NX := hid (NX.out.up hb)
  have E := hid hb
  clear hb 
  go_wp2_with fail
  refine (few_l U.out g0.out).mono ?_
  rintro e wq ⟨rfl, rfl⟩
  go_wp2_with fail
  refine (few_l V.out g1.out).mono ?_
  rintro e wq ⟨rfl, rfl⟩
  go_wp2_with fail
  refine (few_l X.out g2.out).mono ?_
  rintro e wq ⟨rfl, rfl⟩
  go_wp2_with fail
  refine (isNat_l U.out g3.out).mono ?_
  rintro e wq ⟨rfl, rfl⟩
  clear U
  go_wp2_with fail
  refine (isNat_l V.out g4.out).mono ?_
  rintro e wq ⟨rfl, rfl⟩
  clear V
  go_wp2_with fail
  refine (isNat_l X.out g5.out).mono ?_
  rintro e wq ⟨rfl, rfl⟩
  clear X
  go_wp2_with fail
  refine (cmp_n NU.out NV.out (z := 1) (M.cmp_gt hab.out)).mono ?_
  rintro e wn ⟨rfl, hb⟩
  replace NU := hid (NU.out.up hb)
  replace NV := hid (NV.out.up hb)
  replace NX := hid (NX.out.up hb)
  replace E := hid (E.out.trans hb)
  clear hb 
  go_wp2_with fail
  refine (cmp_n NV.out NX.out (z := z2) HZ.out).mono ?_
  rintro e wn ⟨rfl, hb⟩
  replace NU := hid (NU.out.up hb)
  replace NV := hid (NV.out.up hb)
  replace NX := hid (NX.out.up hb)
  replace E := hid (E.out.trans hb)
  clear hb 
  go_wp2_with fail
  refine (cmp_n NV.out NU.out (z := -1) (M.cmp_lt hab.out)).mono ?_
  rintro e wn ⟨rfl, hb⟩
  replace NU := hid (NU.out.up hb)
  replace NV := hid (NV.out.up hb)
  replace NX := hid (NX.out.up hb)
  replace E := hid (E.out.trans hb)
  clear hb 
  go_wp2_with fail
  refine (add_n NU.out NX.out (by omega) (by omega)).mono ?_
  rintro e wn ⟨vS, rfl, sx, hb⟩
  replace NU := hid (NU.out.up hb)
  replace NV := hid (NV.out.up hb)
  replace NX := hid (NX.out.up hb)
  replace E := hid (E.out.trans hb)
  have S := hid sx
  clear hb sx
  go_wp2_with fail
  refine (add_n NV.out NX.out (by omega) (by omega)).mono ?_
  rintro e wn ⟨vT, rfl, tx, hb⟩
  replace NU := hid (NU.out.up hb)
  replace NV := hid (NV.out.up hb)
  replace NX := hid (NX.out.up hb)
  replace S := hid (S.out.up hb)
  replace E := hid (E.out.trans hb)
  have T := hid tx
  clear hb tx
  go_wp2_with fail
  refine (cmp_n S.out T.out (z := 1) (M.cmp_gt (by have := hab.out; omega))).mono ?_
  rintro e wn ⟨rfl, hb⟩
  replace NU := hid (NU.out.up hb)
  replace NV := hid (NV.out.up hb)
  replace NX := hid (NX.out.up hb)
  replace S := hid (S.out.up hb)
  replace T := hid (T.out.up hb)
  replace E := hid (E.out.trans hb)
  clear hb 
  clear S T
  go_wp2_with fail
  refine (sub_n NU.out NV.out (by omega)).mono ?_
  rintro e wn ⟨vD, rfl, dx, hb⟩
  replace NU := hid (NU.out.up hb)
  replace NV := hid (NV.out.up hb)
  replace NX := hid (NX.out.up hb)
  replace E := hid (E.out.trans hb)
  have D := hid dx
  clear hb dx
  obtain ⟨AD, nD, cD, e, hnD, _⟩ := D.out.1
  subst e
  have hD : ((nD : Int) == 0) = false := by
    have : M.limbs (M.nv a - M.nv b) ≠ [] := M.limbs_ne (by have := hab.out; omega)
    have := List.length_pos_iff.2 this
    rw [← hnD] at this
    simp; omega
  clear D hnD
  go_wp2_with fail
  refine (mul_n NU.out NX.out (by omega) (by omega) (by omega)).mono ?_
  rintro e wn ⟨vS, rfl, sx, hb⟩
  replace NU := hid (NU.out.up hb)
  replace NV := hid (NV.out.up hb)
  replace NX := hid (NX.out.up hb)
  replace E := hid (E.out.trans hb)
  have S := hid sx
  clear hb sx
  go_wp2_with fail
  refine (mul_n NV.out NX.out (by omega) (by omega) (by omega)).mono ?_
  rintro e wn ⟨vT, rfl, tx, hb⟩
  replace NU := hid (NU.out.up hb)
  replace NV := hid (NV.out.up hb)
  replace NX := hid (NX.out.up hb)
  replace S := hid (S.out.up hb)
  replace E := hid (E.out.trans hb)
  have T := hid tx
  clear hb tx
  go_wp2_with fail
  refine (cmp_n S.out T.out (z := 0) (M.cmp_zero.2 (by simp [M.nv, M.isNat, M.val]))).mono ?_
  rintro e wn ⟨rfl, hb⟩
  replace NU := hid (NU.out.up hb)
  replace NV := hid (NV.out.up hb)
  replace NX := hid (NX.out.up hb)
  replace S := hid (S.out.up hb)
  replace T := hid (T.out.up hb)
  replace E := hid (E.out.trans hb)
  clear hb 
  clear S T
  go_wp2
  go_ret
  exact ⟨rfl, E.out⟩

theorem natOrder_walk (W : World) (u : Value) (a : List Nat) (hu : Num W W.heap.size u a) (v : Value) (b : List Nat) (hv : Num W W.heap.size v b) (x : Value) (c : List Nat) (hx : Num W W.heap.size x c) :
    Calls Try.prog 8 #[u, v, x] W fun e w' => e = .returned (.bool true) ∧ Ext W w' := by
  rcases g0 : (decide (a.length ≤ 8)) with _ | _
  · exact order_skip0 W u v x a b c hu hv hx  g0
  rcases g1 : (decide (b.length ≤ 8)) with _ | _
  · exact order_skip1 W u v x a b c hu hv hx g0 g1
  rcases g2 : (decide (c.length ≤ 8)) with _ | _
  · exact order_skip2 W u v x a b c hu hv hx g0 g1 g2
  rcases g3 : (M.isNat a) with _ | _
  · exact order_skip3 W u v x a b c hu hv hx g0 g1 g2 g3
  rcases g4 : (M.isNat b) with _ | _
  · exact order_skip4 W u v x a b c hu hv hx g0 g1 g2 g3 g4
  rcases g5 : (M.isNat c) with _ | _
  · exact order_skip5 W u v x a b c hu hv hx g0 g1 g2 g3 g4 g5
  have hcc : c = [] ∨ 0 < M.nv c := by
    rcases c with _ | ⟨y, r⟩
    · exact .inl rfl
    · right
      rw [M.nv, if_pos g5]
      exact M.val_pos (by simp) (M.isNat_iff.1 g5).2
  have hbc : M.nv b < M.nv c ∨ M.nv c ≤ M.nv b := by omega
  rcases (by omega : M.nv a < M.nv b ∨ M.nv a = M.nv b ∨ M.nv b < M.nv a) with h | h | h
  · rcases hbc with hb | hb
    · exact order_lt_y W u v x a b c hu hv hx g0 g1 g2 g3 g4 g5 h hb (show 0 < M.nv c by omega)
    · rcases hcc with h0 | h0
      · exact order_lt_n_z W u v x a b c hu hv hx g0 g1 g2 g3 g4 g5 h hb h0
      · exact order_lt_n W u v x a b c hu hv hx g0 g1 g2 g3 g4 g5 h hb h0
  · rcases hcc with h0 | h0
    · exact order_eq_z W u v x a b c hu hv hx g0 g1 g2 g3 g4 g5 h h0
    · exact order_eq W u v x a b c hu hv hx g0 g1 g2 g3 g4 g5 h h0
  · rcases hcc with h0 | h0
    · exact order_gt_z W u v x a b c hu hv hx g0 g1 g2 g3 g4 g5 h h0
    · exact order_gt W u v x a b c hu hv hx g0 g1 g2 g3 g4 g5 h h0

set_option maxRecDepth 100000 in
theorem natOrder_lifted (os : Os) (started : os.Started) (H : Type) (enc : TypeId × Value → H) :
    ReturnsInHanded {} Try.checked os 8 .any (Rows.natOrderSpec.pre6 enc Try.prog Try.f8 Rows.natOrderRow.domain false) (Rows.natOrderSpec.post enc Try.prog Try.f8 false true false false) := by
  refine returnsInHanded_of_change (C := Try.checked) own started (by kernel_rfl) Try.func8
    (ChangeSpec.witness6 (enc := enc) (C := Try.checked) false ⟨#[], #[.slice none 0 0, .slice none 0 0, .slice none 0 0], []⟩ 8 (by kernel_rfl) (by kernel_rfl) (by kernel_rfl) (by kernel_rfl)) ?_
  intro W base args ds gs before hval0 hW _ _
  have hval : ∀ (j : Nat) t v, Try.f8.params[j]? = some t → args[j]? = some v → Value.okWide Try.prog W .any base t v := hval0
  have hW' := hW
  obtain ⟨p, q, hA0, hV, rfl, hfz, hnd⟩ := hW
  have hA : DataW.TrodAll enc Try.prog W 0 (fun _ => true) true Try.f8.params.toList args.toList ds p := hA0
  rw [Try.params8] at hA hval
  obtain ⟨v0, vs0, d0, ds0, p0, q0, hargs, rfl, rfl, h0, r0⟩ := trodAll_cons hA
  obtain ⟨v1, vs1, d1, ds1, p1, q1, rfl, rfl, rfl, h1, r1⟩ := trodAll_cons r0
  obtain ⟨v2, vs2, d2, ds2, p2, q2, rfl, rfl, rfl, h2, r2⟩ := trodAll_cons r1
  obtain ⟨rfl, rfl, rfl⟩ := trodAll_nil r2
  obtain rfl : args = #[v0, v1, v2] := by cases args; simp_all
  obtain ⟨rfl, rfl⟩ := trodVars_none hV
  obtain ⟨l0, e0⟩ := open_num (hval 0 22 v0 rfl rfl) h0
  obtain ⟨l1, e1⟩ := open_num (hval 1 22 v1 rfl rfl) h1
  obtain ⟨l2, e2⟩ := open_num (hval 2 22 v2 rfl rfl) h2
  clear hA0 hval0
  refine (natOrder_walk W v0 l0 e0 v1 l1 e1 v2 l2 e2).mono fun e W' ⟨he, hg⟩ => ?_
  subst he
  exact ⟨_, rfl, law_post hW' rfl rfl (by kernel_rfl) (by kernel_rfl) hg⟩

theorem natOrder_over : Rows.natOrderRow.holds Try.pinned (OpenSpec.ofChange Rows.natOrderSpec) :=
  OpenClaim.holds_of_wide 8 Try.f8 rfl rfl rfl rfl rfl rfl rfl ⟨rfl, rfl, rfl, rfl, rfl⟩ rfl rfl rfl rfl rfl (by kernel_rfl) Try.func8 (by kernel_rfl)
    (of_decide_eq_true (by kernel_rfl)) (by unfold Func.isWrapper; first | (rw [if_pos (by decide +kernel)]; kernel_rfl) | (rw [if_neg (by decide +kernel)]; exact ⟨rfl, rfl⟩))
    (fun os started H enc _ => natOrder_lifted os started H enc)

theorem natOrder_proved : Rows.NatOrderSaid := natOrder_over

end Go.Proofs.Ytbmkacnomegogaa
