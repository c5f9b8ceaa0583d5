/-
  NatRules: whatever three rows of limbs: true, and the input reads as it did. No conditions.
-/
import Derived.Test.YtbmkacnomegogaaLaw
import Derived.Test.YtbmkacnomegogaaByRow
import Derived.ProofKit
import Derived.OpenShut
import Derived.Carry
namespace Go.Proofs.Ytbmkacnomegogaa
open Go.ChangeShapes Go.WideShapes Go.ChangeAt Go.RowKit

theorem div_n {w : World} {u v : Value} {a b j k : Nat} (hu : IsN w u a j) (hv : IsN w v b k) (hj : j ≤ 1000000) :
    Calls Try.prog 11 #[u, v] w (GivesN2 w (a / b) j (a % b) j) := by
  have h := div_any w u v _ _ hu.1 hv.1 (Nat.le_trans hu.2 hj)
  rw [M.nv_limbs, M.nv_limbs] at h
  exact h.mono fun _ _ ⟨x, y, he, hx, hy, hb⟩ => ⟨x, y, he, ⟨hx, M.limbs_length_le (Nat.lt_of_le_of_lt (Nat.div_le_self _ _) hu.len)⟩, ⟨hy, M.limbs_length_le (Nat.lt_of_le_of_lt (Nat.mod_le _ _) hu.len)⟩, hb⟩

theorem few_l {w : World} {v : Value} {l : List Nat} {C : Nat} (hv : Num w C v l) {b : Bool} (hb : decide (l.length ≤ 8) = b) :
    Calls Try.prog 10 #[v] w fun e w' => e = .returned (.bool b) ∧ w = w' := by
  obtain ⟨A, n, c, rfl, hn, hc, hm, _⟩ := hv
  have h := few_any w A n c (by unfold maxLen at hm; omega)
  rw [hn, hb] at h
  rw [hn]
  exact h

set_option maxHeartbeats 1000000 in
theorem rules_skip0 (W : World) (u v x : Value) (a b c : List Nat) (hu : Num W W.heap.size u a) (hv : Num W W.heap.size v b) (hx : Num W W.heap.size x c) (g0 : Hid (decide (a.length ≤ 8) = false)) :
    Calls Try.prog 4 #[u, v, x] W fun e w' => e = .returned (.bool true) ∧ Ext W w' := by
  have U := hid hu
  have V := hid hv
  have X := hid hx
  clear hu hv hx
  go_enter Try.func4, Try.ntmps4
  go_wp2_with fail
  refine (known_any _).mono ?_
  rintro e wn ⟨rfl, hb⟩
  replace U := hid (U.out.up hb)
  replace V := hid (V.out.up hb)
  replace X := hid (X.out.up hb)
  have E := hid hb
  clear hb 
  go_wp2_with fail
  refine (few_l U.out g0.out).mono ?_
  rintro e wq ⟨rfl, rfl⟩
  go_wp2
  go_ret
  exact ⟨rfl, E.out⟩

set_option maxHeartbeats 1000000 in
theorem rules_skip1 (W : World) (u v x : Value) (a b c : List Nat) (hu : Num W W.heap.size u a) (hv : Num W W.heap.size v b) (hx : Num W W.heap.size x c) (g0 : Hid (decide (a.length ≤ 8) = true)) (g1 : Hid (decide (b.length ≤ 8) = false)) :
    Calls Try.prog 4 #[u, v, x] W fun e w' => e = .returned (.bool true) ∧ Ext W w' := by
  have U := hid hu
  have V := hid hv
  have X := hid hx
  clear hu hv hx
  go_enter Try.func4, Try.ntmps4
  go_wp2_with fail
  refine (known_any _).mono ?_
  rintro e wn ⟨rfl, hb⟩
  replace U := hid (U.out.up hb)
  replace V := hid (V.out.up hb)
  replace X := hid (X.out.up hb)
  have E := hid hb
  clear hb 
  go_wp2_with fail
  refine (few_l U.out g0.out).mono ?_
  rintro e wq ⟨rfl, rfl⟩
  go_wp2_with fail
  refine (few_l V.out g1.out).mono ?_
  rintro e wq ⟨rfl, rfl⟩
  go_wp2
  go_ret
  exact ⟨rfl, E.out⟩

set_option maxHeartbeats 1000000 in
theorem rules_skip2 (W : World) (u v x : Value) (a b c : List Nat) (hu : Num W W.heap.size u a) (hv : Num W W.heap.size v b) (hx : Num W W.heap.size x c) (g0 : Hid (decide (a.length ≤ 8) = true)) (g1 : Hid (decide (b.length ≤ 8) = true)) (g2 : Hid (decide (c.length ≤ 8) = false)) :
    Calls Try.prog 4 #[u, v, x] W fun e w' => e = .returned (.bool true) ∧ Ext W w' := by
  have U := hid hu
  have V := hid hv
  have X := hid hx
  clear hu hv hx
  go_enter Try.func4, Try.ntmps4
  go_wp2_with fail
  refine (known_any _).mono ?_
  rintro e wn ⟨rfl, hb⟩
  replace U := hid (U.out.up hb)
  replace V := hid (V.out.up hb)
  replace X := hid (X.out.up hb)
  have E := hid hb
  clear hb 
  go_wp2_with fail
  refine (few_l U.out g0.out).mono ?_
  rintro e wq ⟨rfl, rfl⟩
  go_wp2_with fail
  refine (few_l V.out g1.out).mono ?_
  rintro e wq ⟨rfl, rfl⟩
  go_wp2_with fail
  refine (few_l X.out g2.out).mono ?_
  rintro e wq ⟨rfl, rfl⟩
  go_wp2
  go_ret
  exact ⟨rfl, E.out⟩

set_option maxHeartbeats 1000000 in
theorem rules_skip3 (W : World) (u v x : Value) (a b c : List Nat) (hu : Num W W.heap.size u a) (hv : Num W W.heap.size v b) (hx : Num W W.heap.size x c) (g0 : Hid (decide (a.length ≤ 8) = true)) (g1 : Hid (decide (b.length ≤ 8) = true)) (g2 : Hid (decide (c.length ≤ 8) = true)) (g3 : Hid (M.isNat a = false)) :
    Calls Try.prog 4 #[u, v, x] W fun e w' => e = .returned (.bool true) ∧ Ext W w' := by
  have U := hid hu
  have V := hid hv
  have X := hid hx
  clear hu hv hx
  go_enter Try.func4, Try.ntmps4
  go_wp2_with fail
  refine (known_any _).mono ?_
  rintro e wn ⟨rfl, hb⟩
  replace U := hid (U.out.up hb)
  replace V := hid (V.out.up hb)
  replace X := hid (X.out.up hb)
  have E := hid hb
  clear hb 
  go_wp2_with fail
  refine (few_l U.out g0.out).mono ?_
  rintro e wq ⟨rfl, rfl⟩
  go_wp2_with fail
  refine (few_l V.out g1.out).mono ?_
  rintro e wq ⟨rfl, rfl⟩
  go_wp2_with fail
  refine (few_l X.out g2.out).mono ?_
  rintro e wq ⟨rfl, rfl⟩
  go_wp2_with fail
  refine (isNat_l U.out g3.out).mono ?_
  rintro e wq ⟨rfl, rfl⟩
  go_wp2
  go_ret
  exact ⟨rfl, E.out⟩

set_option maxHeartbeats 1000000 in
theorem rules_skip4 (W : World) (u v x : Value) (a b c : List Nat) (hu : Num W W.heap.size u a) (hv : Num W W.heap.size v b) (hx : Num W W.heap.size x c) (g0 : Hid (decide (a.length ≤ 8) = true)) (g1 : Hid (decide (b.length ≤ 8) = true)) (g2 : Hid (decide (c.length ≤ 8) = true)) (g3 : Hid (M.isNat a = true)) (g4 : Hid (M.isNat b = false)) :
    Calls Try.prog 4 #[u, v, x] W fun e w' => e = .returned (.bool true) ∧ Ext W w' := by
  have U := hid hu
  have V := hid hv
  have X := hid hx
  clear hu hv hx
  go_enter Try.func4, Try.ntmps4
  go_wp2_with fail
  refine (known_any _).mono ?_
  rintro e wn ⟨rfl, hb⟩
  replace U := hid (U.out.up hb)
  replace V := hid (V.out.up hb)
  replace X := hid (X.out.up hb)
  have E := hid hb
  clear hb 
  go_wp2_with fail
  refine (few_l U.out g0.out).mono ?_
  rintro e wq ⟨rfl, rfl⟩
  go_wp2_with fail
  refine (few_l V.out g1.out).mono ?_
  rintro e wq ⟨rfl, rfl⟩
  go_wp2_with fail
  refine (few_l X.out g2.out).mono ?_
  rintro e wq ⟨rfl, rfl⟩
  go_wp2_with fail
  refine (isNat_l U.out g3.out).mono ?_
  rintro e wq ⟨rfl, rfl⟩
  go_wp2_with fail
  refine (isNat_l V.out g4.out).mono ?_
  rintro e wq ⟨rfl, rfl⟩
  go_wp2
  go_ret
  exact ⟨rfl, E.out⟩

set_option maxHeartbeats 1000000 in
theorem rules_skip5 (W : World) (u v x : Value) (a b c : List Nat) (hu : Num W W.heap.size u a) (hv : Num W W.heap.size v b) (hx : Num W W.heap.size x c) (g0 : Hid (decide (a.length ≤ 8) = true)) (g1 : Hid (decide (b.length ≤ 8) = true)) (g2 : Hid (decide (c.length ≤ 8) = true)) (g3 : Hid (M.isNat a = true)) (g4 : Hid (M.isNat b = true)) (g5 : Hid (M.isNat c = false)) :
    Calls Try.prog 4 #[u, v, x] W fun e w' => e = .returned (.bool true) ∧ Ext W w' := by
  have U := hid hu
  have V := hid hv
  have X := hid hx
  clear hu hv hx
  go_enter Try.func4, Try.ntmps4
  go_wp2_with fail
  refine (known_any _).mono ?_
  rintro e wn ⟨rfl, hb⟩
  replace U := hid (U.out.up hb)
  replace V := hid (V.out.up hb)
  replace X := hid (X.out.up hb)
  have E := hid hb
  clear hb 
  go_wp2_with fail
  refine (few_l U.out g0.out).mono ?_
  rintro e wq ⟨rfl, rfl⟩
  go_wp2_with fail
  refine (few_l V.out g1.out).mono ?_
  rintro e wq ⟨rfl, rfl⟩
  go_wp2_with fail
  refine (few_l X.out g2.out).mono ?_
  rintro e wq ⟨rfl, rfl⟩
  go_wp2_with fail
  refine (isNat_l U.out g3.out).mono ?_
  rintro e wq ⟨rfl, rfl⟩
  go_wp2_with fail
  refine (isNat_l V.out g4.out).mono ?_
  rintro e wq ⟨rfl, rfl⟩
  go_wp2_with fail
  refine (isNat_l X.out g5.out).mono ?_
  rintro e wq ⟨rfl, rfl⟩
  go_wp2
  go_ret
  exact ⟨rfl, E.out⟩

set_option maxHeartbeats 4000000 in
theorem rules_main_z (W : World) (u v x : Value) (a b c : List Nat) (hu : Num W W.heap.size u a) (hv : Num W W.heap.size v b) (hx : Num W W.heap.size x c) (g0 : Hid (decide (a.length ≤ 8) = true)) (g1 : Hid (decide (b.length ≤ 8) = true)) (g2 : Hid (decide (c.length ≤ 8) = true)) (g3 : Hid (M.isNat a = true)) (g4 : Hid (M.isNat b = true)) (g5 : Hid (M.isNat c = true)) (hb : Hid (b = [])) :
    Calls Try.prog 4 #[u, v, x] W fun e w' => e = .returned (.bool true) ∧ Ext W w' := by
  obtain rfl : b = [] := hb.out
  have U := hid hu
  have V := hid hv
  have X := hid hx
  have NU := hid (IsN.of hu g3.out (of_decide_eq_true g0.out))
  have NV := hid (IsN.of hv g4.out (of_decide_eq_true g1.out))
  have NX := hid (IsN.of hx g5.out (of_decide_eq_true g2.out))
  clear hu hv hx
  obtain ⟨A0, n0, c0, rfl, hn0, _⟩ := V.out
  obtain rfl : n0 = 0 := by simpa using hn0
  clear hn0
  go_enter Try.func4, Try.ntmps4
  go_wp2_with fail
  refine (known_any _).mono ?_
  rintro e wn ⟨rfl, hb⟩
  replace U := hid (U.out.up hb)
  replace V := hid (V.out.up hb)
  replace X := hid (X.out.up hb)
  replace NU := hid (NU.out.up hb)
  replace NV := hid (NV.out.up hb)
  replace NX := hid (NX.out.up hb)
  have E := hid hb
  clear hb 
  go_wp2_with fail
  refine (few_l U.out g0.out).mono ?_
  rintro e wq ⟨rfl, rfl⟩
  go_wp2_with fail
  refine (few_l V.out g1.out).mono ?_
  rintro e wq ⟨rfl, rfl⟩
  go_wp2_with fail
  refine (few_l X.out g2.out).mono ?_
  rintro e wq ⟨rfl, rfl⟩
  go_wp2_with fail
  refine (isNat_l U.out g3.out).mono ?_
  rintro e wq ⟨rfl, rfl⟩
  clear U
  go_wp2_with fail
  refine (isNat_l V.out g4.out).mono ?_
  rintro e wq ⟨rfl, rfl⟩
  clear V
  go_wp2_with fail
  refine (isNat_l X.out g5.out).mono ?_
  rintro e wq ⟨rfl, rfl⟩
  clear X
  go_wp2_with fail
  refine (add_n NU.out NV.out (by omega) (by omega)).mono ?_
  rintro e wn ⟨vS, rfl, sx, hb⟩
  replace NU := hid (NU.out.up hb)
  replace NV := hid (NV.out.up hb)
  replace NX := hid (NX.out.up hb)
  replace E := hid (E.out.trans hb)
  have S := hid sx
  clear hb sx
  go_wp2_with fail
  refine (div_n NU.out NV.out (by omega)).mono ?_
  rintro e wn ⟨vQ, vR, rfl, qx, rx, hb⟩
  replace NU := hid (NU.out.up hb)
  replace NV := hid (NV.out.up hb)
  replace NX := hid (NX.out.up hb)
  replace S := hid (S.out.up hb)
  replace E := hid (E.out.trans hb)
  have Q := hid qx
  have R := hid rx
  clear hb qx rx
  go_wp2_with fail
  refine (isNat_n S.out).mono ?_
  rintro e wq ⟨rfl, rfl⟩
  go_wp2_with fail
  refine (add_n NV.out NU.out (by omega) (by omega)).mono ?_
  rintro e wn ⟨vT, rfl, tx, hb⟩
  replace NU := hid (NU.out.up hb)
  replace NV := hid (NV.out.up hb)
  replace NX := hid (NX.out.up hb)
  replace S := hid (S.out.up hb)
  replace Q := hid (Q.out.up hb)
  replace R := hid (R.out.up hb)
  replace E := hid (E.out.trans hb)
  have T := hid tx
  clear hb tx
  go_wp2_with fail
  refine (cmp_n T.out S.out (z := 0) (M.cmp_zero.2 (Nat.add_comm _ _))).mono ?_
  rintro e wn ⟨rfl, hb⟩
  replace NU := hid (NU.out.up hb)
  replace NV := hid (NV.out.up hb)
  replace NX := hid (NX.out.up hb)
  replace S := hid (S.out.up hb)
  replace Q := hid (Q.out.up hb)
  replace R := hid (R.out.up hb)
  replace T := hid (T.out.up hb)
  replace E := hid (E.out.trans hb)
  clear hb 
  clear T
  go_wp2_with fail
  refine (sub_n S.out NV.out (by omega)).mono ?_
  rintro e wn ⟨vT, rfl, tx, hb⟩
  replace NU := hid (NU.out.up hb)
  replace NV := hid (NV.out.up hb)
  replace NX := hid (NX.out.up hb)
  replace S := hid (S.out.up hb)
  replace Q := hid (Q.out.up hb)
  replace R := hid (R.out.up hb)
  replace E := hid (E.out.trans hb)
  have T := hid tx
  clear hb tx
  go_wp2_with fail
  refine (cmp_n T.out NU.out (z := 0) (M.cmp_zero.2 (Nat.add_sub_cancel _ _))).mono ?_
  rintro e wn ⟨rfl, hb⟩
  replace NU := hid (NU.out.up hb)
  replace NV := hid (NV.out.up hb)
  replace NX := hid (NX.out.up hb)
  replace S := hid (S.out.up hb)
  replace Q := hid (Q.out.up hb)
  replace R := hid (R.out.up hb)
  replace T := hid (T.out.up hb)
  replace E := hid (E.out.trans hb)
  clear hb 
  clear T
  go_wp2_with fail
  refine (add_n S.out NX.out (by omega) (by omega)).mono ?_
  rintro e wn ⟨vT, rfl, tx, hb⟩
  replace NU := hid (NU.out.up hb)
  replace NV := hid (NV.out.up hb)
  replace NX := hid (NX.out.up hb)
  replace S := hid (S.out.up hb)
  replace Q := hid (Q.out.up hb)
  replace R := hid (R.out.up hb)
  replace E := hid (E.out.trans hb)
  have T := hid tx
  clear hb tx
  go_wp2_with fail
  refine (add_n NV.out NX.out (by omega) (by omega)).mono ?_
  rintro e wn ⟨vC, rfl, cx, hb⟩
  replace NU := hid (NU.out.up hb)
  replace NV := hid (NV.out.up hb)
  replace NX := hid (NX.out.up hb)
  replace S := hid (S.out.up hb)
  replace Q := hid (Q.out.up hb)
  replace R := hid (R.out.up hb)
  replace T := hid (T.out.up hb)
  replace E := hid (E.out.trans hb)
  have C := hid cx
  clear hb cx
  go_wp2_with fail
  refine (add_n NU.out C.out (by omega) (by omega)).mono ?_
  rintro e wn ⟨vD, rfl, dx, hb⟩
  replace NU := hid (NU.out.up hb)
  replace NV := hid (NV.out.up hb)
  replace NX := hid (NX.out.up hb)
  replace S := hid (S.out.up hb)
  replace Q := hid (Q.out.up hb)
  replace R := hid (R.out.up hb)
  replace T := hid (T.out.up hb)
  replace C := hid (C.out.up hb)
  replace E := hid (E.out.trans hb)
  have D := hid dx
  clear hb dx
  clear C
  go_wp2_with fail
  refine (cmp_n T.out D.out (z := 0) (M.cmp_zero.2 (Nat.add_assoc _ _ _))).mono ?_
  rintro e wn ⟨rfl, hb⟩
  replace NU := hid (NU.out.up hb)
  replace NV := hid (NV.out.up hb)
  replace NX := hid (NX.out.up hb)
  replace S := hid (S.out.up hb)
  replace Q := hid (Q.out.up hb)
  replace R := hid (R.out.up hb)
  replace T := hid (T.out.up hb)
  replace D := hid (D.out.up hb)
  replace E := hid (E.out.trans hb)
  clear hb 
  clear T D
  go_wp2_with fail
  refine (mul_n S.out NX.out (by omega) (by omega) (by omega)).mono ?_
  rintro e wn ⟨vT, rfl, tx, hb⟩
  replace NU := hid (NU.out.up hb)
  replace NV := hid (NV.out.up hb)
  replace NX := hid (NX.out.up hb)
  replace S := hid (S.out.up hb)
  replace Q := hid (Q.out.up hb)
  replace R := hid (R.out.up hb)
  replace E := hid (E.out.trans hb)
  have T := hid tx
  clear hb tx
  go_wp2_with fail
  refine (mul_n NU.out NX.out (by omega) (by omega) (by omega)).mono ?_
  rintro e wn ⟨vC, rfl, cx, hb⟩
  replace NU := hid (NU.out.up hb)
  replace NV := hid (NV.out.up hb)
  replace NX := hid (NX.out.up hb)
  replace S := hid (S.out.up hb)
  replace Q := hid (Q.out.up hb)
  replace R := hid (R.out.up hb)
  replace T := hid (T.out.up hb)
  replace E := hid (E.out.trans hb)
  have C := hid cx
  clear hb cx
  go_wp2_with fail
  refine (mul_n NV.out NX.out (by omega) (by omega) (by omega)).mono ?_
  rintro e wn ⟨vD, rfl, dx, hb⟩
  replace NU := hid (NU.out.up hb)
  replace NV := hid (NV.out.up hb)
  replace NX := hid (NX.out.up hb)
  replace S := hid (S.out.up hb)
  replace Q := hid (Q.out.up hb)
  replace R := hid (R.out.up hb)
  replace T := hid (T.out.up hb)
  replace C := hid (C.out.up hb)
  replace E := hid (E.out.trans hb)
  have D := hid dx
  clear hb dx
  go_wp2_with fail
  refine (add_n C.out D.out (by omega) (by omega)).mono ?_
  rintro e wn ⟨vG, rfl, gx, hb⟩
  replace NU := hid (NU.out.up hb)
  replace NV := hid (NV.out.up hb)
  replace NX := hid (NX.out.up hb)
  replace S := hid (S.out.up hb)
  replace Q := hid (Q.out.up hb)
  replace R := hid (R.out.up hb)
  replace T := hid (T.out.up hb)
  replace C := hid (C.out.up hb)
  replace D := hid (D.out.up hb)
  replace E := hid (E.out.trans hb)
  have G := hid gx
  clear hb gx
  clear C D
  go_wp2_with fail
  refine (cmp_n T.out G.out (z := 0) (M.cmp_zero.2 (Nat.add_mul _ _ _))).mono ?_
  rintro e wn ⟨rfl, hb⟩
  replace NU := hid (NU.out.up hb)
  replace NV := hid (NV.out.up hb)
  replace NX := hid (NX.out.up hb)
  replace S := hid (S.out.up hb)
  replace Q := hid (Q.out.up hb)
  replace R := hid (R.out.up hb)
  replace T := hid (T.out.up hb)
  replace G := hid (G.out.up hb)
  replace E := hid (E.out.trans hb)
  clear hb 
  clear T G S
  go_wp2_with fail
  refine (mul_n NU.out NV.out (by omega) (by omega) (by omega)).mono ?_
  rintro e wn ⟨vT, rfl, tx, hb⟩
  replace NU := hid (NU.out.up hb)
  replace NV := hid (NV.out.up hb)
  replace NX := hid (NX.out.up hb)
  replace Q := hid (Q.out.up hb)
  replace R := hid (R.out.up hb)
  replace E := hid (E.out.trans hb)
  have T := hid tx
  clear hb tx
  go_wp2_with fail
  refine (mul_n T.out NX.out (by omega) (by omega) (by omega)).mono ?_
  rintro e wn ⟨vC, rfl, cx, hb⟩
  replace NU := hid (NU.out.up hb)
  replace NV := hid (NV.out.up hb)
  replace NX := hid (NX.out.up hb)
  replace Q := hid (Q.out.up hb)
  replace R := hid (R.out.up hb)
  replace T := hid (T.out.up hb)
  replace E := hid (E.out.trans hb)
  have C := hid cx
  clear hb cx
  clear T
  go_wp2_with fail
  refine (mul_n NV.out NX.out (by omega) (by omega) (by omega)).mono ?_
  rintro e wn ⟨vD, rfl, dx, hb⟩
  replace NU := hid (NU.out.up hb)
  replace NV := hid (NV.out.up hb)
  replace NX := hid (NX.out.up hb)
  replace Q := hid (Q.out.up hb)
  replace R := hid (R.out.up hb)
  replace C := hid (C.out.up hb)
  replace E := hid (E.out.trans hb)
  have D := hid dx
  clear hb dx
  go_wp2_with fail
  refine (mul_n NU.out D.out (by omega) (by omega) (by omega)).mono ?_
  rintro e wn ⟨vG, rfl, gx, hb⟩
  replace NU := hid (NU.out.up hb)
  replace NV := hid (NV.out.up hb)
  replace NX := hid (NX.out.up hb)
  replace Q := hid (Q.out.up hb)
  replace R := hid (R.out.up hb)
  replace C := hid (C.out.up hb)
  replace D := hid (D.out.up hb)
  replace E := hid (E.out.trans hb)
  have G := hid gx
  clear hb gx
  clear D
  go_wp2_with fail
  refine (cmp_n C.out G.out (z := 0) (M.cmp_zero.2 (Nat.mul_assoc _ _ _))).mono ?_
  rintro e wn ⟨rfl, hb⟩
  replace NU := hid (NU.out.up hb)
  replace NV := hid (NV.out.up hb)
  replace NX := hid (NX.out.up hb)
  replace Q := hid (Q.out.up hb)
  replace R := hid (R.out.up hb)
  replace C := hid (C.out.up hb)
  replace G := hid (G.out.up hb)
  replace E := hid (E.out.trans hb)
  clear hb 
  clear C G
  go_wp2_with fail
  refine (mul_n Q.out NV.out (by omega) (by omega) (by omega)).mono ?_
  rintro e wn ⟨vT, rfl, tx, hb⟩
  replace NU := hid (NU.out.up hb)
  replace NV := hid (NV.out.up hb)
  replace NX := hid (NX.out.up hb)
  replace Q := hid (Q.out.up hb)
  replace R := hid (R.out.up hb)
  replace E := hid (E.out.trans hb)
  have T := hid tx
  clear hb tx
  go_wp2_with fail
  refine (add_n T.out R.out (by omega) (by omega)).mono ?_
  rintro e wn ⟨vC, rfl, cx, hb⟩
  replace NU := hid (NU.out.up hb)
  replace NV := hid (NV.out.up hb)
  replace NX := hid (NX.out.up hb)
  replace Q := hid (Q.out.up hb)
  replace R := hid (R.out.up hb)
  replace T := hid (T.out.up hb)
  replace E := hid (E.out.trans hb)
  have C := hid cx
  clear hb cx
  clear T
  go_wp2_with fail
  refine (cmp_n C.out NU.out (z := 0) (M.cmp_zero.2 (by rw [Nat.mul_comm]; exact Nat.div_add_mod _ _))).mono ?_
  rintro e wn ⟨rfl, hb⟩
  replace NU := hid (NU.out.up hb)
  replace NV := hid (NV.out.up hb)
  replace NX := hid (NX.out.up hb)
  replace Q := hid (Q.out.up hb)
  replace R := hid (R.out.up hb)
  replace C := hid (C.out.up hb)
  replace E := hid (E.out.trans hb)
  clear hb 
  clear C
  go_wp2_with fail
  refine (isNat_n Q.out).mono ?_
  rintro e wq ⟨rfl, rfl⟩
  go_wp2_with fail
  refine (isNat_n R.out).mono ?_
  rintro e wq ⟨rfl, rfl⟩
  go_wp2
  go_ret
  exact ⟨rfl, E.out⟩

set_option maxHeartbeats 4000000 in
theorem rules_main (W : World) (u v x : Value) (a b c : List Nat) (hu : Num W W.heap.size u a) (hv : Num W W.heap.size v b) (hx : Num W W.heap.size x c) (g0 : Hid (decide (a.length ≤ 8) = true)) (g1 : Hid (decide (b.length ≤ 8) = true)) (g2 : Hid (decide (c.length ≤ 8) = true)) (g3 : Hid (M.isNat a = true)) (g4 : Hid (M.isNat b = true)) (g5 : Hid (M.isNat c = true)) (hb : Hid (0 < M.nv b)) :
    Calls Try.prog 4 #[u, v, x] W fun e w' => e = .returned (.bool true) ∧ Ext W w' := by
  have U := hid hu
  have V := hid hv
  have X := hid hx
  have NU := hid (IsN.of hu g3.out (of_decide_eq_true g0.out))
  have NV := hid (IsN.of hv g4.out (of_decide_eq_true g1.out))
  have NX := hid (IsN.of hx g5.out (of_decide_eq_true g2.out))
  clear hu hv hx
  obtain ⟨A0, n0, c0, rfl, hn0, _⟩ := V.out
  have hn1 : ((n0 : Int) == 0) = false := by
    have : b ≠ [] := by intro e; have := hb.out; rw [e] at this; simp [M.nv, M.isNat, M.val] at this
    have := List.length_pos_iff.2 this
    rw [← hn0] at this
    simp; omega
  clear hn0
  go_enter Try.func4, Try.ntmps4
  go_wp2_with fail
  refine (known_any _).mono ?_
  rintro e wn ⟨rfl, hb⟩
  replace U := hid (U.out.up hb)
  replace V := hid (V.out.up hb)
  replace X := hid (X.out.up hb)
  replace NU := hid (NU.out.up hb)
  replace NV := hid (NV.out.up hb)
  replace NX := hid (NX.out.up hb)
  have E := hid hb
  clear hb 
  go_wp2_with fail
  refine (few_l U.out g0.out).mono ?_
  rintro e wq ⟨rfl, rfl⟩
  go_wp2_with fail
  refine (few_l V.out g1.out).mono ?_
  rintro e wq ⟨rfl, rfl⟩
  go_wp2_with fail
  refine (few_l X.out g2.out).mono ?_
  rintro e wq ⟨rfl, rfl⟩
  go_wp2_with fail
  refine (isNat_l U.out g3.out).mono ?_
  rintro e wq ⟨rfl, rfl⟩
  clear U
  go_wp2_with fail
  refine (isNat_l V.out g4.out).mono ?_
  rintro e wq ⟨rfl, rfl⟩
  clear V
  go_wp2_with fail
  refine (isNat_l X.out g5.out).mono ?_
  rintro e wq ⟨rfl, rfl⟩
  clear X
  go_wp2_with fail
  refine (add_n NU.out NV.out (by omega) (by omega)).mono ?_
  rintro e wn ⟨vS, rfl, sx, hb⟩
  replace NU := hid (NU.out.up hb)
  replace NV := hid (NV.out.up hb)
  replace NX := hid (NX.out.up hb)
  replace E := hid (E.out.trans hb)
  have S := hid sx
  clear hb sx
  go_wp2_with fail
  refine (div_n NU.out NV.out (by omega)).mono ?_
  rintro e wn ⟨vQ, vR, rfl, qx, rx, hb⟩
  replace NU := hid (NU.out.up hb)
  replace NV := hid (NV.out.up hb)
  replace NX := hid (NX.out.up hb)
  replace S := hid (S.out.up hb)
  replace E := hid (E.out.trans hb)
  have Q := hid qx
  have R := hid rx
  clear hb qx rx
  go_wp2_with fail
  refine (isNat_n S.out).mono ?_
  rintro e wq ⟨rfl, rfl⟩
  go_wp2_with fail
  refine (add_n NV.out NU.out (by omega) (by omega)).mono ?_
  rintro e wn ⟨vT, rfl, tx, hb⟩
  replace NU := hid (NU.out.up hb)
  replace NV := hid (NV.out.up hb)
  replace NX := hid (NX.out.up hb)
  replace S := hid (S.out.up hb)
  replace Q := hid (Q.out.up hb)
  replace R := hid (R.out.up hb)
  replace E := hid (E.out.trans hb)
  have T := hid tx
  clear hb tx
  go_wp2_with fail
  refine (cmp_n T.out S.out (z := 0) (M.cmp_zero.2 (Nat.add_comm _ _))).mono ?_
  rintro e wn ⟨rfl, hb⟩
  replace NU := hid (NU.out.up hb)
  replace NV := hid (NV.out.up hb)
  replace NX := hid (NX.out.up hb)
  replace S := hid (S.out.up hb)
  replace Q := hid (Q.out.up hb)
  replace R := hid (R.out.up hb)
  replace T := hid (T.out.up hb)
  replace E := hid (E.out.trans hb)
  clear hb 
  clear T
  go_wp2_with fail
  refine (sub_n S.out NV.out (by omega)).mono ?_
  rintro e wn ⟨vT, rfl, tx, hb⟩
  replace NU := hid (NU.out.up hb)
  replace NV := hid (NV.out.up hb)
  replace NX := hid (NX.out.up hb)
  replace S := hid (S.out.up hb)
  replace Q := hid (Q.out.up hb)
  replace R := hid (R.out.up hb)
  replace E := hid (E.out.trans hb)
  have T := hid tx
  clear hb tx
  go_wp2_with fail
  refine (cmp_n T.out NU.out (z := 0) (M.cmp_zero.2 (Nat.add_sub_cancel _ _))).mono ?_
  rintro e wn ⟨rfl, hb⟩
  replace NU := hid (NU.out.up hb)
  replace NV := hid (NV.out.up hb)
  replace NX := hid (NX.out.up hb)
  replace S := hid (S.out.up hb)
  replace Q := hid (Q.out.up hb)
  replace R := hid (R.out.up hb)
  replace T := hid (T.out.up hb)
  replace E := hid (E.out.trans hb)
  clear hb 
  clear T
  go_wp2_with fail
  refine (add_n S.out NX.out (by omega) (by omega)).mono ?_
  rintro e wn ⟨vT, rfl, tx, hb⟩
  replace NU := hid (NU.out.up hb)
  replace NV := hid (NV.out.up hb)
  replace NX := hid (NX.out.up hb)
  replace S := hid (S.out.up hb)
  replace Q := hid (Q.out.up hb)
  replace R := hid (R.out.up hb)
  replace E := hid (E.out.trans hb)
  have T := hid tx
  clear hb tx
  go_wp2_with fail
  refine (add_n NV.out NX.out (by omega) (by omega)).mono ?_
  rintro e wn ⟨vC, rfl, cx, hb⟩
  replace NU := hid (NU.out.up hb)
  replace NV := hid (NV.out.up hb)
  replace NX := hid (NX.out.up hb)
  replace S := hid (S.out.up hb)
  replace Q := hid (Q.out.up hb)
  replace R := hid (R.out.up hb)
  replace T := hid (T.out.up hb)
  replace E := hid (E.out.trans hb)
  have C := hid cx
  clear hb cx
  go_wp2_with fail
  refine (add_n NU.out C.out (by omega) (by omega)).mono ?_
  rintro e wn ⟨vD, rfl, dx, hb⟩
  replace NU := hid (NU.out.up hb)
  replace NV := hid (NV.out.up hb)
  replace NX := hid (NX.out.up hb)
  replace S := hid (S.out.up hb)
  replace Q := hid (Q.out.up hb)
  replace R := hid (R.out.up hb)
  replace T := hid (T.out.up hb)
  replace C := hid (C.out.up hb)
  replace E := hid (E.out.trans hb)
  have D := hid dx
  clear hb dx
  clear C
  go_wp2_with fail
  refine (cmp_n T.out D.out (z := 0) (M.cmp_zero.2 (Nat.add_assoc _ _ _))).mono ?_
  rintro e wn ⟨rfl, hb⟩
  replace NU := hid (NU.out.up hb)
  replace NV := hid (NV.out.up hb)
  replace NX := hid (NX.out.up hb)
  replace S := hid (S.out.up hb)
  replace Q := hid (Q.out.up hb)
  replace R := hid (R.out.up hb)
  replace T := hid (T.out.up hb)
  replace D := hid (D.out.up hb)
  replace E := hid (E.out.trans hb)
  clear hb 
  clear T D
  go_wp2_with fail
  refine (mul_n S.out NX.out (by omega) (by omega) (by omega)).mono ?_
  rintro e wn ⟨vT, rfl, tx, hb⟩
  replace NU := hid (NU.out.up hb)
  replace NV := hid (NV.out.up hb)
  replace NX := hid (NX.out.up hb)
  replace S := hid (S.out.up hb)
  replace Q := hid (Q.out.up hb)
  replace R := hid (R.out.up hb)
  replace E := hid (E.out.trans hb)
  have T := hid tx
  clear hb tx
  go_wp2_with fail
  refine (mul_n NU.out NX.out (by omega) (by omega) (by omega)).mono ?_
  rintro e wn ⟨vC, rfl, cx, hb⟩
  replace NU := hid (NU.out.up hb)
  replace NV := hid (NV.out.up hb)
  replace NX := hid (NX.out.up hb)
  replace S := hid (S.out.up hb)
  replace Q := hid (Q.out.up hb)
  replace R := hid (R.out.up hb)
  replace T := hid (T.out.up hb)
  replace E := hid (E.out.trans hb)
  have C := hid cx
  clear hb cx
  go_wp2_with fail
  refine (mul_n NV.out NX.out (by omega) (by omega) (by omega)).mono ?_
  rintro e wn ⟨vD, rfl, dx, hb⟩
  replace NU := hid (NU.out.up hb)
  replace NV := hid (NV.out.up hb)
  replace NX := hid (NX.out.up hb)
  replace S := hid (S.out.up hb)
  replace Q := hid (Q.out.up hb)
  replace R := hid (R.out.up hb)
  replace T := hid (T.out.up hb)
  replace C := hid (C.out.up hb)
  replace E := hid (E.out.trans hb)
  have D := hid dx
  clear hb dx
  go_wp2_with fail
  refine (add_n C.out D.out (by omega) (by omega)).mono ?_
  rintro e wn ⟨vG, rfl, gx, hb⟩
  replace NU := hid (NU.out.up hb)
  replace NV := hid (NV.out.up hb)
  replace NX := hid (NX.out.up hb)
  replace S := hid (S.out.up hb)
  replace Q := hid (Q.out.up hb)
  replace R := hid (R.out.up hb)
  replace T := hid (T.out.up hb)
  replace C := hid (C.out.up hb)
  replace D := hid (D.out.up hb)
  replace E := hid (E.out.trans hb)
  have G := hid gx
  clear hb gx
  clear C D
  go_wp2_with fail
  refine (cmp_n T.out G.out (z := 0) (M.cmp_zero.2 (Nat.add_mul _ _ _))).mono ?_
  rintro e wn ⟨rfl, hb⟩
  replace NU := hid (NU.out.up hb)
  replace NV := hid (NV.out.up hb)
  replace NX := hid (NX.out.up hb)
  replace S := hid (S.out.up hb)
  replace Q := hid (Q.out.up hb)
  replace R := hid (R.out.up hb)
  replace T := hid (T.out.up hb)
  replace G := hid (G.out.up hb)
  replace E := hid (E.out.trans hb)
  clear hb 
  clear T G S
  go_wp2_with fail
  refine (mul_n NU.out NV.out (by omega) (by omega) (by omega)).mono ?_
  rintro e wn ⟨vT, rfl, tx, hb⟩
  replace NU := hid (NU.out.up hb)
  replace NV := hid (NV.out.up hb)
  replace NX := hid (NX.out.up hb)
  replace Q := hid (Q.out.up hb)
  replace R := hid (R.out.up hb)
  replace E := hid (E.out.trans hb)
  have T := hid tx
  clear hb tx
  go_wp2_with fail
  refine (mul_n T.out NX.out (by omega) (by omega) (by omega)).mono ?_
  rintro e wn ⟨vC, rfl, cx, hb⟩
  replace NU := hid (NU.out.up hb)
  replace NV := hid (NV.out.up hb)
  replace NX := hid (NX.out.up hb)
  replace Q := hid (Q.out.up hb)
  replace R := hid (R.out.up hb)
  replace T := hid (T.out.up hb)
  replace E := hid (E.out.trans hb)
  have C := hid cx
  clear hb cx
  clear T
  go_wp2_with fail
  refine (mul_n NV.out NX.out (by omega) (by omega) (by omega)).mono ?_
  rintro e wn ⟨vD, rfl, dx, hb⟩
  replace NU := hid (NU.out.up hb)
  replace NV := hid (NV.out.up hb)
  replace NX := hid (NX.out.up hb)
  replace Q := hid (Q.out.up hb)
  replace R := hid (R.out.up hb)
  replace C := hid (C.out.up hb)
  replace E := hid (E.out.trans hb)
  have D := hid dx
  clear hb dx
  go_wp2_with fail
  refine (mul_n NU.out D.out (by omega) (by omega) (by omega)).mono ?_
  rintro e wn ⟨vG, rfl, gx, hb⟩
  replace NU := hid (NU.out.up hb)
  replace NV := hid (NV.out.up hb)
  replace NX := hid (NX.out.up hb)
  replace Q := hid (Q.out.up hb)
  replace R := hid (R.out.up hb)
  replace C := hid (C.out.up hb)
  replace D := hid (D.out.up hb)
  replace E := hid (E.out.trans hb)
  have G := hid gx
  clear hb gx
  clear D
  go_wp2_with fail
  refine (cmp_n C.out G.out (z := 0) (M.cmp_zero.2 (Nat.mul_assoc _ _ _))).mono ?_
  rintro e wn ⟨rfl, hb⟩
  replace NU := hid (NU.out.up hb)
  replace NV := hid (NV.out.up hb)
  replace NX := hid (NX.out.up hb)
  replace Q := hid (Q.out.up hb)
  replace R := hid (R.out.up hb)
  replace C := hid (C.out.up hb)
  replace G := hid (G.out.up hb)
  replace E := hid (E.out.trans hb)
  clear hb 
  clear C G
  go_wp2_with fail
  refine (mul_n Q.out NV.out (by omega) (by omega) (by omega)).mono ?_
  rintro e wn ⟨vT, rfl, tx, hb⟩
  replace NU := hid (NU.out.up hb)
  replace NV := hid (NV.out.up hb)
  replace NX := hid (NX.out.up hb)
  replace Q := hid (Q.out.up hb)
  replace R := hid (R.out.up hb)
  replace E := hid (E.out.trans hb)
  have T := hid tx
  clear hb tx
  go_wp2_with fail
  refine (add_n T.out R.out (by omega) (by omega)).mono ?_
  rintro e wn ⟨vC, rfl, cx, hb⟩
  replace NU := hid (NU.out.up hb)
  replace NV := hid (NV.out.up hb)
  replace NX := hid (NX.out.up hb)
  replace Q := hid (Q.out.up hb)
  replace R := hid (R.out.up hb)
  replace T := hid (T.out.up hb)
  replace E := hid (E.out.trans hb)
  have C := hid cx
  clear hb cx
  clear T
  go_wp2_with fail
  refine (cmp_n C.out NU.out (z := 0) (M.cmp_zero.2 (by rw [Nat.mul_comm]; exact Nat.div_add_mod _ _))).mono ?_
  rintro e wn ⟨rfl, hb⟩
  replace NU := hid (NU.out.up hb)
  replace NV := hid (NV.out.up hb)
  replace NX := hid (NX.out.up hb)
  replace Q := hid (Q.out.up hb)
  replace R := hid (R.out.up hb)
  replace C := hid (C.out.up hb)
  replace E := hid (E.out.trans hb)
  clear hb 
  clear C
  go_wp2_with fail
  refine (cmp_n R.out NV.out (z := -1) (M.cmp_lt (Nat.mod_lt _ hb.out))).mono ?_
  rintro e wn ⟨rfl, hb⟩
  replace NU := hid (NU.out.up hb)
  replace NV := hid (NV.out.up hb)
  replace NX := hid (NX.out.up hb)
  replace Q := hid (Q.out.up hb)
  replace R := hid (R.out.up hb)
  replace E := hid (E.out.trans hb)
  clear hb 
  go_wp2_with fail
  refine (isNat_n Q.out).mono ?_
  rintro e wq ⟨rfl, rfl⟩
  go_wp2_with fail
  refine (isNat_n R.out).mono ?_
  rintro e wq ⟨rfl, rfl⟩
  go_wp2
  go_ret
  exact ⟨rfl, E.out⟩

theorem natRules_walk (W : World) (u : Value) (a : List Nat) (hu : Num W W.heap.size u a) (v : Value) (b : List Nat) (hv : Num W W.heap.size v b) (x : Value) (c : List Nat) (hx : Num W W.heap.size x c) :
    Calls Try.prog 4 #[u, v, x] W fun e w' => e = .returned (.bool true) ∧ Ext W w' := by
  rcases g0 : (decide (a.length ≤ 8)) with _ | _
  · exact rules_skip0 W u v x a b c hu hv hx  g0
  rcases g1 : (decide (b.length ≤ 8)) with _ | _
  · exact rules_skip1 W u v x a b c hu hv hx g0 g1
  rcases g2 : (decide (c.length ≤ 8)) with _ | _
  · exact rules_skip2 W u v x a b c hu hv hx g0 g1 g2
  rcases g3 : (M.isNat a) with _ | _
  · exact rules_skip3 W u v x a b c hu hv hx g0 g1 g2 g3
  rcases g4 : (M.isNat b) with _ | _
  · exact rules_skip4 W u v x a b c hu hv hx g0 g1 g2 g3 g4
  rcases g5 : (M.isNat c) with _ | _
  · exact rules_skip5 W u v x a b c hu hv hx g0 g1 g2 g3 g4 g5
  have hbb : b = [] ∨ 0 < M.nv b := by
    rcases b with _ | ⟨y, r⟩
    · exact .inl rfl
    · right
      rw [M.nv, if_pos g4]
      exact M.val_pos (by simp) (M.isNat_iff.1 g4).2
  rcases hbb with h | h
  · exact rules_main_z W u v x a b c hu hv hx g0 g1 g2 g3 g4 g5 h
  · exact rules_main W u v x a b c hu hv hx g0 g1 g2 g3 g4 g5 h

set_option maxRecDepth 100000 in
theorem natRules_lifted (os : Os) (started : os.Started) (H : Type) (enc : TypeId × Value → H) :
    ReturnsInHanded {} Try.checked os 4 .any (Rows.natRulesSpec.pre6 enc Try.prog Try.f4 Rows.natRulesRow.domain false) (Rows.natRulesSpec.post enc Try.prog Try.f4 false true false false) := by
  refine returnsInHanded_of_change (C := Try.checked) own started (by kernel_rfl) Try.func4
    (ChangeSpec.witness6 (enc := enc) (C := Try.checked) false ⟨#[], #[.slice none 0 0, .slice none 0 0, .slice none 0 0], []⟩ 8 (by kernel_rfl) (by kernel_rfl) (by kernel_rfl) (by kernel_rfl)) ?_
  intro W base args ds gs before hval0 hW _ _
  have hval : ∀ (j : Nat) t v, Try.f4.params[j]? = some t → args[j]? = some v → Value.okWide Try.prog W .any base t v := hval0
  have hW' := hW
  obtain ⟨p, q, hA0, hV, rfl, hfz, hnd⟩ := hW
  have hA : DataW.TrodAll enc Try.prog W 0 (fun _ => true) true Try.f4.params.toList args.toList ds p := hA0
  rw [Try.params4] at hA hval
  obtain ⟨v0, vs0, d0, ds0, p0, q0, hargs, rfl, rfl, h0, r0⟩ := trodAll_cons hA
  obtain ⟨v1, vs1, d1, ds1, p1, q1, rfl, rfl, rfl, h1, r1⟩ := trodAll_cons r0
  obtain ⟨v2, vs2, d2, ds2, p2, q2, rfl, rfl, rfl, h2, r2⟩ := trodAll_cons r1
  obtain ⟨rfl, rfl, rfl⟩ := trodAll_nil r2
  obtain rfl : args = #[v0, v1, v2] := by cases args; simp_all
  obtain ⟨rfl, rfl⟩ := trodVars_none hV
  obtain ⟨l0, e0⟩ := open_num (hval 0 22 v0 rfl rfl) h0
  obtain ⟨l1, e1⟩ := open_num (hval 1 22 v1 rfl rfl) h1
  obtain ⟨l2, e2⟩ := open_num (hval 2 22 v2 rfl rfl) h2
  clear hA0 hval0
  refine (natRules_walk W v0 l0 e0 v1 l1 e1 v2 l2 e2).mono fun e W' ⟨he, hg⟩ => ?_
  subst he
  exact ⟨_, rfl, law_post hW' rfl rfl (by kernel_rfl) (by kernel_rfl) hg⟩

theorem natRules_over : Rows.natRulesRow.holds Try.pinned (OpenSpec.ofChange Rows.natRulesSpec) :=
  OpenClaim.holds_of_wide 4 Try.f4 rfl rfl rfl rfl rfl rfl rfl ⟨rfl, rfl, rfl, rfl, rfl⟩ rfl rfl rfl rfl rfl (by kernel_rfl) Try.func4 (by kernel_rfl)
    (of_decide_eq_true (by kernel_rfl)) (by unfold Func.isWrapper; first | (rw [if_pos (by decide +kernel)]; kernel_rfl) | (rw [if_neg (by decide +kernel)]; exact ⟨rfl, rfl⟩))
    (fun os started H enc _ => natRules_lifted os started H enc)

theorem natRules_proved : Rows.NatRulesSaid := natRules_over

end Go.Proofs.Ytbmkacnomegogaa
