/-
  NatTells: whatever two rows of limbs and a number of 64 bits: true, and the input reads as it did. No conditions.
-/
import Derived.Test.YtjmonmbgfihgmaaLaw
import Derived.Test.YtjmonmbgfihgmaaByRow
import Derived.Test.YtjmonmbgfihgmaaRefDiv
import Derived.ProofKit
import Derived.OpenShut
import Derived.Carry
namespace Go.Proofs.Ytjmonmbgfihgmaa
open Go.ChangeShapes Go.WideShapes Go.ChangeAt Go.RowKit

set_option linter.unusedSimpArgs false
set_option linter.unusedVariables false
theorem few_l {w : World} {v : Value} {l : List Nat} {C : Nat} (hv : Num w C v l) {b : Bool} (hb : decide (l.length ≤ 8) = b) :
    Calls Try.prog 42 #[v] w fun e w' => e = .returned (.bool b) ∧ w = w' := by
  obtain ⟨A, n, c, rfl, hn, hc, hm, _⟩ := hv
  have h := few_any w A n c (by unfold maxLen at hm; omega)
  rw [hn, hb] at h
  rw [hn]
  exact h
theorem isR_l {w : World} {v : Value} {l : List Nat} (hv : Num w w.heap.size v l) {b : Bool} (hb : M.isNat l = b) :
    Calls Try.prog 45 #[v] w fun e w' => e = .returned (.bool b) ∧ w = w' := hb ▸ rIs_any w v l hv
theorem cmp_l {w : World} {u v : Value} {l m : List Nat} (hu : Num w w.heap.size u l) (hv : Num w w.heap.size v m) {z : Int} (hz : M.cmp (M.nv l) (M.nv m) = z) :
    Calls Try.prog 50 #[u, v] w fun e w' => e = .returned (.int .i64 z) ∧ Ext w w' := hz ▸ natCmp_any w u v l m hu hv
theorem rcmp_l {w : World} {u v : Value} {l m : List Nat} (hu : Num w w.heap.size u l) (hv : Num w w.heap.size v m) {z : Int} (hz : M.cmp (M.nv l) (M.nv m) = z) :
    Calls Try.prog 51 #[u, v] w fun e w' => e = .returned (.int .i64 z) ∧ Ext w w' := by
  have h := rCmp_any w u v l m hu hv
  rw [hz] at h
  exact h.mono fun _ _ ⟨he, k, hk⟩ => ⟨he, by subst hk; exact below_drewN (Below.refl _ _) k⟩
theorem even_l {w : World} {v : Value} {l : List Nat} (hv : Num w w.heap.size v l) {b : Bool} (hb : decide (M.nv l % 2 = 0) = b) :
    Calls Try.prog 58 #[v] w fun e w' => e = .returned (.bool b) ∧ w = w' := hb ▸ natEven_any w v l hv

set_option maxHeartbeats 1000000 in
theorem tells_skip0 (W : World) (u v : Value) (a b : List Nat) (n : Nat) (hu : Num W W.heap.size u a) (hv : Num W W.heap.size v b) (hn : Hid ((n : Int) ≤ 18446744073709551615)) (g0 : Hid (decide (a.length ≤ 8) = false)) :
    Calls Try.prog 10 #[u, v, .int .u64 (n : Int)] W fun e w' => e = .returned (.bool true) ∧ Ext W w' := by
  have U := hid hu
  have V := hid hv
  clear hu hv
  go_enter Try.func10, Try.ntmps10
  go_wp2_with fail
  refine (known_any _).mono ?_
  rintro e wn ⟨rfl, hb⟩
  replace U := hid (U.out.up hb)
  replace V := hid (V.out.up hb)
  have E := hid hb
  clear hb 
  go_wp2_with fail
  refine (few_l U.out g0.out).mono ?_
  rintro e wq ⟨rfl, rfl⟩
  go_wp2
  go_ret
  exact ⟨rfl, E.out⟩

set_option maxHeartbeats 1000000 in
theorem tells_skip1 (W : World) (u v : Value) (a b : List Nat) (n : Nat) (hu : Num W W.heap.size u a) (hv : Num W W.heap.size v b) (hn : Hid ((n : Int) ≤ 18446744073709551615)) (g0 : Hid (decide (a.length ≤ 8) = true)) (g1 : Hid (decide (b.length ≤ 8) = false)) :
    Calls Try.prog 10 #[u, v, .int .u64 (n : Int)] W fun e w' => e = .returned (.bool true) ∧ Ext W w' := by
  have U := hid hu
  have V := hid hv
  clear hu hv
  go_enter Try.func10, Try.ntmps10
  go_wp2_with fail
  refine (known_any _).mono ?_
  rintro e wn ⟨rfl, hb⟩
  replace U := hid (U.out.up hb)
  replace V := hid (V.out.up hb)
  have E := hid hb
  clear hb 
  go_wp2_with fail
  refine (few_l U.out g0.out).mono ?_
  rintro e wq ⟨rfl, rfl⟩
  go_wp2_with fail
  refine (few_l V.out g1.out).mono ?_
  rintro e wq ⟨rfl, rfl⟩
  go_wp2
  go_ret
  exact ⟨rfl, E.out⟩

set_option maxHeartbeats 4000000 in
theorem tells_no (W : World) (u v : Value) (a b : List Nat) (n : Nat) (hu : Num W W.heap.size u a) (hv : Num W W.heap.size v b) (hn : Hid ((n : Int) ≤ 18446744073709551615)) (g0 : Hid (decide (a.length ≤ 8) = true)) (g1 : Hid (decide (b.length ≤ 8) = true)) (ha : Hid (M.isNat a = false)) :
    Calls Try.prog 10 #[u, v, .int .u64 (n : Int)] W fun e w' => e = .returned (.bool true) ∧ Ext W w' := by
  have HI := hid (show M.isNat a = false from ha.out)
  have HE := hid (show decide (M.nv a % 2 = 0) = true by unfold M.nv; rw [HI.out]; rfl)
  obtain ⟨A0, n0, c0, rfl, hn0, hc0, hm0, hs0, hr0⟩ := id hu
  have HN0 := hid hn0
  have hn09 : n0 ≤ 9223372036854775807 := by unfold maxLen at hm0; omega
  clear hn0 hc0 hm0 hs0 hr0
  have U := hid hu
  have V := hid hv
  obtain ⟨z, hz⟩ : ∃ z, M.cmp (M.nv a) (M.nv b) = z := ⟨_, rfl⟩
  have HZ := hid hz
  have HLa := hid (of_decide_eq_true g0.out)
  have HLb := hid (of_decide_eq_true g1.out)
  clear hu hv hz
  go_enter Try.func10, Try.ntmps10
  go_wp2_with fail
  refine (known_any _).mono ?_
  rintro e wn ⟨rfl, hb⟩
  replace U := hid (U.out.up hb)
  replace V := hid (V.out.up hb)
  have E := hid hb
  clear hb 
  go_wp2_with fail
  refine (few_l U.out g0.out).mono ?_
  rintro e wq ⟨rfl, rfl⟩
  go_wp2_with fail
  refine (few_l V.out g1.out).mono ?_
  rintro e wq ⟨rfl, rfl⟩
  go_wp2_with fail
  refine (div_any _ _ _ _ _ U.out V.out (Nat.le_trans HLa.out (by omega))).mono ?_
  rintro e wn ⟨vQ, vR, rfl, qx, rx, hb⟩
  replace U := hid (U.out.up hb)
  replace V := hid (V.out.up hb)
  replace E := hid (E.out.trans hb)
  have Q := hid qx
  have R := hid rx
  clear hb qx rx
  go_wp2_with fail
  refine (rdiv_n U.out V.out HLa.out HLb.out (by unfold Hid; omega) (by unfold Hid; omega)).mono ?_
  rintro e wn ⟨vX, vY, rfl, xx, yx, hb⟩
  replace U := hid (U.out.up hb)
  replace V := hid (V.out.up hb)
  replace Q := hid (Q.out.up hb)
  replace R := hid (R.out.up hb)
  replace E := hid (E.out.trans hb)
  have X := hid xx
  have Y := hid yx
  clear hb xx yx
  go_wp2_with fail
  refine (isR_l U.out HI.out).mono ?_
  rintro e wq ⟨rfl, rfl⟩
  go_wp2_with fail
  refine (isNat_l U.out HI.out).mono ?_
  rintro e wq ⟨rfl, rfl⟩
  go_wp2_with fail
  refine (isR_l U.out HI.out).mono ?_
  rintro e wq ⟨rfl, rfl⟩
  go_wp2_with fail
  refine (of_any n hn.out _).mono ?_
  rintro e wn ⟨vA, rfl, ax, hb⟩
  replace U := hid (U.out.up hb)
  replace V := hid (V.out.up hb)
  replace Q := hid (Q.out.up hb)
  replace R := hid (R.out.up hb)
  replace X := hid (X.out.up hb)
  replace Y := hid (Y.out.up hb)
  replace E := hid (E.out.trans hb)
  have A := hid ax
  clear hb ax
  go_wp2_with fail
  refine (natOf_any n hn.out _).mono ?_
  rintro e wn ⟨vB, rfl, bx, hb⟩
  replace U := hid (U.out.up hb)
  replace V := hid (V.out.up hb)
  replace Q := hid (Q.out.up hb)
  replace R := hid (R.out.up hb)
  replace X := hid (X.out.up hb)
  replace Y := hid (Y.out.up hb)
  replace A := hid (A.out.up hb)
  replace E := hid (E.out.trans hb)
  have B := hid bx
  clear hb bx
  go_wp2_with fail
  refine (same_l A.out B.out rfl).mono ?_
  rintro e wn ⟨rfl, hb⟩
  replace U := hid (U.out.up hb)
  replace V := hid (V.out.up hb)
  replace Q := hid (Q.out.up hb)
  replace R := hid (R.out.up hb)
  replace X := hid (X.out.up hb)
  replace Y := hid (Y.out.up hb)
  replace A := hid (A.out.up hb)
  replace B := hid (B.out.up hb)
  replace E := hid (E.out.trans hb)
  clear hb 
  clear A B
  go_wp2_with fail
  refine (cmp_l U.out V.out HZ.out).mono ?_
  rintro e wn ⟨rfl, hb⟩
  replace U := hid (U.out.up hb)
  replace V := hid (V.out.up hb)
  replace Q := hid (Q.out.up hb)
  replace R := hid (R.out.up hb)
  replace X := hid (X.out.up hb)
  replace Y := hid (Y.out.up hb)
  replace E := hid (E.out.trans hb)
  clear hb 
  go_wp2_with fail
  refine (rcmp_l U.out V.out HZ.out).mono ?_
  rintro e wn ⟨rfl, hb⟩
  replace U := hid (U.out.up hb)
  replace V := hid (V.out.up hb)
  replace Q := hid (Q.out.up hb)
  replace R := hid (R.out.up hb)
  replace X := hid (X.out.up hb)
  replace Y := hid (Y.out.up hb)
  replace E := hid (E.out.trans hb)
  clear hb 
  go_wp2_with fail
  refine (add_any _ _ _ _ _ U.out V.out (Nat.le_trans HLa.out (by omega)) (Nat.le_trans HLb.out (by omega))).mono ?_
  rintro e wn ⟨vA, rfl, ax, hb⟩
  replace U := hid (U.out.up hb)
  replace V := hid (V.out.up hb)
  replace Q := hid (Q.out.up hb)
  replace R := hid (R.out.up hb)
  replace X := hid (X.out.up hb)
  replace Y := hid (Y.out.up hb)
  replace E := hid (E.out.trans hb)
  have A := hid ax
  clear hb ax
  go_wp2_with fail
  refine (rAdd_any _ _ _ _ _ U.out V.out (by have := HLa.out; unfold Hid; omega) (by have := HLb.out; unfold Hid; omega)).mono ?_
  rintro e wn ⟨vB, rfl, bx, hb⟩
  replace U := hid (U.out.up hb)
  replace V := hid (V.out.up hb)
  replace Q := hid (Q.out.up hb)
  replace R := hid (R.out.up hb)
  replace X := hid (X.out.up hb)
  replace Y := hid (Y.out.up hb)
  replace A := hid (A.out.up hb)
  replace E := hid (E.out.trans hb)
  have B := hid bx
  clear hb bx
  go_wp2_with fail
  refine (same_l A.out B.out rfl).mono ?_
  rintro e wn ⟨rfl, hb⟩
  replace U := hid (U.out.up hb)
  replace V := hid (V.out.up hb)
  replace Q := hid (Q.out.up hb)
  replace R := hid (R.out.up hb)
  replace X := hid (X.out.up hb)
  replace Y := hid (Y.out.up hb)
  replace A := hid (A.out.up hb)
  replace B := hid (B.out.up hb)
  replace E := hid (E.out.trans hb)
  clear hb 
  clear A B
  go_wp2_with fail
  refine (sub_any _ _ _ _ _ U.out V.out (Nat.le_trans HLa.out (by omega))).mono ?_
  rintro e wn ⟨vA, rfl, ax, hb⟩
  replace U := hid (U.out.up hb)
  replace V := hid (V.out.up hb)
  replace Q := hid (Q.out.up hb)
  replace R := hid (R.out.up hb)
  replace X := hid (X.out.up hb)
  replace Y := hid (Y.out.up hb)
  replace E := hid (E.out.trans hb)
  have A := hid ax
  clear hb ax
  go_wp2_with fail
  refine (rSub_any _ _ _ _ _ U.out V.out (by have := HLa.out; unfold Hid; omega)).mono ?_
  rintro e wn ⟨vB, rfl, bx, hb⟩
  replace U := hid (U.out.up hb)
  replace V := hid (V.out.up hb)
  replace Q := hid (Q.out.up hb)
  replace R := hid (R.out.up hb)
  replace X := hid (X.out.up hb)
  replace Y := hid (Y.out.up hb)
  replace A := hid (A.out.up hb)
  replace E := hid (E.out.trans hb)
  have B := hid bx
  clear hb bx
  go_wp2_with fail
  refine (same_l A.out B.out rfl).mono ?_
  rintro e wn ⟨rfl, hb⟩
  replace U := hid (U.out.up hb)
  replace V := hid (V.out.up hb)
  replace Q := hid (Q.out.up hb)
  replace R := hid (R.out.up hb)
  replace X := hid (X.out.up hb)
  replace Y := hid (Y.out.up hb)
  replace A := hid (A.out.up hb)
  replace B := hid (B.out.up hb)
  replace E := hid (E.out.trans hb)
  clear hb 
  clear A B
  go_wp2_with fail
  refine (mul_any _ _ _ _ _ U.out V.out (Nat.le_trans HLa.out (by omega)) (Nat.le_trans HLb.out (by omega)) (.inl (Nat.lt_of_le_of_lt HLa.out (by omega)))).mono ?_
  rintro e wn ⟨vA, rfl, ax, hb⟩
  replace U := hid (U.out.up hb)
  replace V := hid (V.out.up hb)
  replace Q := hid (Q.out.up hb)
  replace R := hid (R.out.up hb)
  replace X := hid (X.out.up hb)
  replace Y := hid (Y.out.up hb)
  replace E := hid (E.out.trans hb)
  have A := hid ax
  clear hb ax
  go_wp2_with fail
  refine (rmul_n U.out V.out HLa.out HLb.out (by unfold Hid; omega) (by unfold Hid; omega)).mono ?_
  rintro e wn ⟨vB, rfl, bx, hb⟩
  replace U := hid (U.out.up hb)
  replace V := hid (V.out.up hb)
  replace Q := hid (Q.out.up hb)
  replace R := hid (R.out.up hb)
  replace X := hid (X.out.up hb)
  replace Y := hid (Y.out.up hb)
  replace A := hid (A.out.up hb)
  replace E := hid (E.out.trans hb)
  have B := hid bx
  clear hb bx
  go_wp2_with fail
  refine (same_l A.out B.out.1 rfl).mono ?_
  rintro e wn ⟨rfl, hb⟩
  replace U := hid (U.out.up hb)
  replace V := hid (V.out.up hb)
  replace Q := hid (Q.out.up hb)
  replace R := hid (R.out.up hb)
  replace X := hid (X.out.up hb)
  replace Y := hid (Y.out.up hb)
  replace A := hid (A.out.up hb)
  replace B := hid (B.out.up hb)
  replace E := hid (E.out.trans hb)
  clear hb 
  clear A B
  go_wp2_with fail
  refine (same_l Q.out X.out.1 rfl).mono ?_
  rintro e wn ⟨rfl, hb⟩
  replace U := hid (U.out.up hb)
  replace V := hid (V.out.up hb)
  replace Q := hid (Q.out.up hb)
  replace R := hid (R.out.up hb)
  replace X := hid (X.out.up hb)
  replace Y := hid (Y.out.up hb)
  replace E := hid (E.out.trans hb)
  clear hb 
  clear Q X
  go_wp2_with fail
  refine (same_l R.out Y.out.1 rfl).mono ?_
  rintro e wn ⟨rfl, hb⟩
  replace U := hid (U.out.up hb)
  replace V := hid (V.out.up hb)
  replace R := hid (R.out.up hb)
  replace Y := hid (Y.out.up hb)
  replace E := hid (E.out.trans hb)
  clear hb 
  clear R Y
  go_wp2_with fail
  refine (even_l U.out HE.out).mono ?_
  rintro e wq ⟨rfl, rfl⟩
  go_wp2
  go_ret
  exact ⟨rfl, E.out⟩

set_option maxHeartbeats 4000000 in
theorem tells_nil (W : World) (u v : Value) (a b : List Nat) (n : Nat) (hu : Num W W.heap.size u a) (hv : Num W W.heap.size v b) (hn : Hid ((n : Int) ≤ 18446744073709551615)) (g0 : Hid (decide (a.length ≤ 8) = true)) (g1 : Hid (decide (b.length ≤ 8) = true)) (ha : Hid (a = [])) :
    Calls Try.prog 10 #[u, v, .int .u64 (n : Int)] W fun e w' => e = .returned (.bool true) ∧ Ext W w' := by
  have HI := hid (show M.isNat a = true from by rw [ha.out]; rfl)
  have HE := hid (show decide (M.nv a % 2 = 0) = true by rw [ha.out]; rfl)
  obtain ⟨A0, n0, c0, rfl, hn0, hc0, hm0, hs0, hr0⟩ := id hu
  have HN0 := hid hn0
  have hn09 : n0 ≤ 9223372036854775807 := by unfold maxLen at hm0; omega
  obtain rfl : n0 = 0 := by rw [hn0, ha.out]; rfl
  clear hn0 hc0 hm0 hs0 hr0
  have U := hid hu
  have V := hid hv
  obtain ⟨z, hz⟩ : ∃ z, M.cmp (M.nv a) (M.nv b) = z := ⟨_, rfl⟩
  have HZ := hid hz
  have HLa := hid (of_decide_eq_true g0.out)
  have HLb := hid (of_decide_eq_true g1.out)
  clear hu hv hz
  go_enter Try.func10, Try.ntmps10
  go_wp2_with fail
  refine (known_any _).mono ?_
  rintro e wn ⟨rfl, hb⟩
  replace U := hid (U.out.up hb)
  replace V := hid (V.out.up hb)
  have E := hid hb
  clear hb 
  go_wp2_with fail
  refine (few_l U.out g0.out).mono ?_
  rintro e wq ⟨rfl, rfl⟩
  go_wp2_with fail
  refine (few_l V.out g1.out).mono ?_
  rintro e wq ⟨rfl, rfl⟩
  go_wp2_with fail
  refine (div_any _ _ _ _ _ U.out V.out (Nat.le_trans HLa.out (by omega))).mono ?_
  rintro e wn ⟨vQ, vR, rfl, qx, rx, hb⟩
  replace U := hid (U.out.up hb)
  replace V := hid (V.out.up hb)
  replace E := hid (E.out.trans hb)
  have Q := hid qx
  have R := hid rx
  clear hb qx rx
  go_wp2_with fail
  refine (rdiv_n U.out V.out HLa.out HLb.out (by unfold Hid; omega) (by unfold Hid; omega)).mono ?_
  rintro e wn ⟨vX, vY, rfl, xx, yx, hb⟩
  replace U := hid (U.out.up hb)
  replace V := hid (V.out.up hb)
  replace Q := hid (Q.out.up hb)
  replace R := hid (R.out.up hb)
  replace E := hid (E.out.trans hb)
  have X := hid xx
  have Y := hid yx
  clear hb xx yx
  go_wp2_with fail
  refine (isR_l U.out HI.out).mono ?_
  rintro e wq ⟨rfl, rfl⟩
  go_wp2_with fail
  refine (isNat_l U.out HI.out).mono ?_
  rintro e wq ⟨rfl, rfl⟩
  go_wp2_with fail
  refine (isR_l U.out HI.out).mono ?_
  rintro e wq ⟨rfl, rfl⟩
  go_wp2_with fail
  refine (of_any n hn.out _).mono ?_
  rintro e wn ⟨vA, rfl, ax, hb⟩
  replace U := hid (U.out.up hb)
  replace V := hid (V.out.up hb)
  replace Q := hid (Q.out.up hb)
  replace R := hid (R.out.up hb)
  replace X := hid (X.out.up hb)
  replace Y := hid (Y.out.up hb)
  replace E := hid (E.out.trans hb)
  have A := hid ax
  clear hb ax
  go_wp2_with fail
  refine (natOf_any n hn.out _).mono ?_
  rintro e wn ⟨vB, rfl, bx, hb⟩
  replace U := hid (U.out.up hb)
  replace V := hid (V.out.up hb)
  replace Q := hid (Q.out.up hb)
  replace R := hid (R.out.up hb)
  replace X := hid (X.out.up hb)
  replace Y := hid (Y.out.up hb)
  replace A := hid (A.out.up hb)
  replace E := hid (E.out.trans hb)
  have B := hid bx
  clear hb bx
  go_wp2_with fail
  refine (same_l A.out B.out rfl).mono ?_
  rintro e wn ⟨rfl, hb⟩
  replace U := hid (U.out.up hb)
  replace V := hid (V.out.up hb)
  replace Q := hid (Q.out.up hb)
  replace R := hid (R.out.up hb)
  replace X := hid (X.out.up hb)
  replace Y := hid (Y.out.up hb)
  replace A := hid (A.out.up hb)
  replace B := hid (B.out.up hb)
  replace E := hid (E.out.trans hb)
  clear hb 
  clear A B
  go_wp2_with fail
  refine (cmp_l U.out V.out HZ.out).mono ?_
  rintro e wn ⟨rfl, hb⟩
  replace U := hid (U.out.up hb)
  replace V := hid (V.out.up hb)
  replace Q := hid (Q.out.up hb)
  replace R := hid (R.out.up hb)
  replace X := hid (X.out.up hb)
  replace Y := hid (Y.out.up hb)
  replace E := hid (E.out.trans hb)
  clear hb 
  go_wp2_with fail
  refine (rcmp_l U.out V.out HZ.out).mono ?_
  rintro e wn ⟨rfl, hb⟩
  replace U := hid (U.out.up hb)
  replace V := hid (V.out.up hb)
  replace Q := hid (Q.out.up hb)
  replace R := hid (R.out.up hb)
  replace X := hid (X.out.up hb)
  replace Y := hid (Y.out.up hb)
  replace E := hid (E.out.trans hb)
  clear hb 
  go_wp2_with fail
  refine (add_any _ _ _ _ _ U.out V.out (Nat.le_trans HLa.out (by omega)) (Nat.le_trans HLb.out (by omega))).mono ?_
  rintro e wn ⟨vA, rfl, ax, hb⟩
  replace U := hid (U.out.up hb)
  replace V := hid (V.out.up hb)
  replace Q := hid (Q.out.up hb)
  replace R := hid (R.out.up hb)
  replace X := hid (X.out.up hb)
  replace Y := hid (Y.out.up hb)
  replace E := hid (E.out.trans hb)
  have A := hid ax
  clear hb ax
  go_wp2_with fail
  refine (rAdd_any _ _ _ _ _ U.out V.out (by have := HLa.out; unfold Hid; omega) (by have := HLb.out; unfold Hid; omega)).mono ?_
  rintro e wn ⟨vB, rfl, bx, hb⟩
  replace U := hid (U.out.up hb)
  replace V := hid (V.out.up hb)
  replace Q := hid (Q.out.up hb)
  replace R := hid (R.out.up hb)
  replace X := hid (X.out.up hb)
  replace Y := hid (Y.out.up hb)
  replace A := hid (A.out.up hb)
  replace E := hid (E.out.trans hb)
  have B := hid bx
  clear hb bx
  go_wp2_with fail
  refine (same_l A.out B.out rfl).mono ?_
  rintro e wn ⟨rfl, hb⟩
  replace U := hid (U.out.up hb)
  replace V := hid (V.out.up hb)
  replace Q := hid (Q.out.up hb)
  replace R := hid (R.out.up hb)
  replace X := hid (X.out.up hb)
  replace Y := hid (Y.out.up hb)
  replace A := hid (A.out.up hb)
  replace B := hid (B.out.up hb)
  replace E := hid (E.out.trans hb)
  clear hb 
  clear A B
  go_wp2_with fail
  refine (sub_any _ _ _ _ _ U.out V.out (Nat.le_trans HLa.out (by omega))).mono ?_
  rintro e wn ⟨vA, rfl, ax, hb⟩
  replace U := hid (U.out.up hb)
  replace V := hid (V.out.up hb)
  replace Q := hid (Q.out.up hb)
  replace R := hid (R.out.up hb)
  replace X := hid (X.out.up hb)
  replace Y := hid (Y.out.up hb)
  replace E := hid (E.out.trans hb)
  have A := hid ax
  clear hb ax
  go_wp2_with fail
  refine (rSub_any _ _ _ _ _ U.out V.out (by have := HLa.out; unfold Hid; omega)).mono ?_
  rintro e wn ⟨vB, rfl, bx, hb⟩
  replace U := hid (U.out.up hb)
  replace V := hid (V.out.up hb)
  replace Q := hid (Q.out.up hb)
  replace R := hid (R.out.up hb)
  replace X := hid (X.out.up hb)
  replace Y := hid (Y.out.up hb)
  replace A := hid (A.out.up hb)
  replace E := hid (E.out.trans hb)
  have B := hid bx
  clear hb bx
  go_wp2_with fail
  refine (same_l A.out B.out rfl).mono ?_
  rintro e wn ⟨rfl, hb⟩
  replace U := hid (U.out.up hb)
  replace V := hid (V.out.up hb)
  replace Q := hid (Q.out.up hb)
  replace R := hid (R.out.up hb)
  replace X := hid (X.out.up hb)
  replace Y := hid (Y.out.up hb)
  replace A := hid (A.out.up hb)
  replace B := hid (B.out.up hb)
  replace E := hid (E.out.trans hb)
  clear hb 
  clear A B
  go_wp2_with fail
  refine (mul_any _ _ _ _ _ U.out V.out (Nat.le_trans HLa.out (by omega)) (Nat.le_trans HLb.out (by omega)) (.inl (Nat.lt_of_le_of_lt HLa.out (by omega)))).mono ?_
  rintro e wn ⟨vA, rfl, ax, hb⟩
  replace U := hid (U.out.up hb)
  replace V := hid (V.out.up hb)
  replace Q := hid (Q.out.up hb)
  replace R := hid (R.out.up hb)
  replace X := hid (X.out.up hb)
  replace Y := hid (Y.out.up hb)
  replace E := hid (E.out.trans hb)
  have A := hid ax
  clear hb ax
  go_wp2_with fail
  refine (rmul_n U.out V.out HLa.out HLb.out (by unfold Hid; omega) (by unfold Hid; omega)).mono ?_
  rintro e wn ⟨vB, rfl, bx, hb⟩
  replace U := hid (U.out.up hb)
  replace V := hid (V.out.up hb)
  replace Q := hid (Q.out.up hb)
  replace R := hid (R.out.up hb)
  replace X := hid (X.out.up hb)
  replace Y := hid (Y.out.up hb)
  replace A := hid (A.out.up hb)
  replace E := hid (E.out.trans hb)
  have B := hid bx
  clear hb bx
  go_wp2_with fail
  refine (same_l A.out B.out.1 rfl).mono ?_
  rintro e wn ⟨rfl, hb⟩
  replace U := hid (U.out.up hb)
  replace V := hid (V.out.up hb)
  replace Q := hid (Q.out.up hb)
  replace R := hid (R.out.up hb)
  replace X := hid (X.out.up hb)
  replace Y := hid (Y.out.up hb)
  replace A := hid (A.out.up hb)
  replace B := hid (B.out.up hb)
  replace E := hid (E.out.trans hb)
  clear hb 
  clear A B
  go_wp2_with fail
  refine (same_l Q.out X.out.1 rfl).mono ?_
  rintro e wn ⟨rfl, hb⟩
  replace U := hid (U.out.up hb)
  replace V := hid (V.out.up hb)
  replace Q := hid (Q.out.up hb)
  replace R := hid (R.out.up hb)
  replace X := hid (X.out.up hb)
  replace Y := hid (Y.out.up hb)
  replace E := hid (E.out.trans hb)
  clear hb 
  clear Q X
  go_wp2_with fail
  refine (same_l R.out Y.out.1 rfl).mono ?_
  rintro e wn ⟨rfl, hb⟩
  replace U := hid (U.out.up hb)
  replace V := hid (V.out.up hb)
  replace R := hid (R.out.up hb)
  replace Y := hid (Y.out.up hb)
  replace E := hid (E.out.trans hb)
  clear hb 
  clear R Y
  go_wp2_with fail
  refine (even_l U.out HE.out).mono ?_
  rintro e wq ⟨rfl, rfl⟩
  go_wp2
  go_ret
  exact ⟨rfl, E.out⟩

set_option maxHeartbeats 4000000 in
theorem tells_ev (W : World) (u v : Value) (a b : List Nat) (n : Nat) (hu : Num W W.heap.size u a) (hv : Num W W.heap.size v b) (hn : Hid ((n : Int) ≤ 18446744073709551615)) (g0 : Hid (decide (a.length ≤ 8) = true)) (g1 : Hid (decide (b.length ≤ 8) = true)) (ha : Hid (M.isNat a = true)) (y : Nat) (r : List Nat) (hy : Hid (a = y :: r)) (hb : Hid (y % 2 = 0)) :
    Calls Try.prog 10 #[u, v, .int .u64 (n : Int)] W fun e w' => e = .returned (.bool true) ∧ Ext W w' := by
  have HI := hid (show M.isNat a = true from ha.out)
  have HE := hid (show decide (M.nv a % 2 = 0) = true by
    unfold M.nv; rw [HI.out, if_pos rfl, M.even_val, hy.out]; have := hb.out; simp; omega)
  obtain ⟨A0, n0, c0, rfl, hn0, hc0, hm0, hs0, hr0⟩ := id hu
  have HN0 := hid hn0
  have hn09 : n0 ≤ 9223372036854775807 := by unfold maxLen at hm0; omega
  have hnz : ((n0 : Int) == 0) = false := by rw [hn0, hy.out]; simp; omega
  have hpos : 1 ≤ n0 := by rw [hn0, hy.out]; simp
  have hpar : ((y : Int) % 2 == 0) = true := by have := hb.out; simp; omega
  have hy9 := hid (hs0 y (by rw [hy.out]; simp))
  obtain ⟨ad, rfl, had, hcl⟩ := hr0 (by rw [hy.out]; simp)
  have KC := hid (show CellAt W ad (.int .u32 (y : Int)) by have := hcl 0 y (by rw [hy.out]; rfl); rwa [Addr.add_zero'] at this)
  clear hcl had
  clear hn0 hc0 hm0 hs0
  have U := hid hu
  have V := hid hv
  obtain ⟨z, hz⟩ : ∃ z, M.cmp (M.nv a) (M.nv b) = z := ⟨_, rfl⟩
  have HZ := hid hz
  have HLa := hid (of_decide_eq_true g0.out)
  have HLb := hid (of_decide_eq_true g1.out)
  clear hu hv hz
  go_enter Try.func10, Try.ntmps10
  go_wp2_with fail
  refine (known_any _).mono ?_
  rintro e wn ⟨rfl, hb⟩
  replace U := hid (U.out.up hb)
  replace V := hid (V.out.up hb)
  replace KC := hid (KC.out.up hb)
  have E := hid hb
  clear hb 
  go_wp2_with fail
  refine (few_l U.out g0.out).mono ?_
  rintro e wq ⟨rfl, rfl⟩
  go_wp2_with fail
  refine (few_l V.out g1.out).mono ?_
  rintro e wq ⟨rfl, rfl⟩
  go_wp2_with fail
  refine (div_any _ _ _ _ _ U.out V.out (Nat.le_trans HLa.out (by omega))).mono ?_
  rintro e wn ⟨vQ, vR, rfl, qx, rx, hb⟩
  replace U := hid (U.out.up hb)
  replace V := hid (V.out.up hb)
  replace KC := hid (KC.out.up hb)
  replace E := hid (E.out.trans hb)
  have Q := hid qx
  have R := hid rx
  clear hb qx rx
  go_wp2_with fail
  refine (rdiv_n U.out V.out HLa.out HLb.out (by unfold Hid; omega) (by unfold Hid; omega)).mono ?_
  rintro e wn ⟨vX, vY, rfl, xx, yx, hb⟩
  replace U := hid (U.out.up hb)
  replace V := hid (V.out.up hb)
  replace KC := hid (KC.out.up hb)
  replace Q := hid (Q.out.up hb)
  replace R := hid (R.out.up hb)
  replace E := hid (E.out.trans hb)
  have X := hid xx
  have Y := hid yx
  clear hb xx yx
  go_wp2_with fail
  refine (isR_l U.out HI.out).mono ?_
  rintro e wq ⟨rfl, rfl⟩
  have hcell : wn.cell? ad = some (.int .u32 (y : Int)) := KC.out
  go_wp2_with fail
  refine (isNat_l U.out HI.out).mono ?_
  rintro e wq ⟨rfl, rfl⟩
  clear hcell
  clear KC
  go_wp2_with fail
  refine (isR_l U.out HI.out).mono ?_
  rintro e wq ⟨rfl, rfl⟩
  go_wp2_with fail
  refine (of_any n hn.out _).mono ?_
  rintro e wn ⟨vA, rfl, ax, hb⟩
  replace U := hid (U.out.up hb)
  replace V := hid (V.out.up hb)
  replace Q := hid (Q.out.up hb)
  replace R := hid (R.out.up hb)
  replace X := hid (X.out.up hb)
  replace Y := hid (Y.out.up hb)
  replace E := hid (E.out.trans hb)
  have A := hid ax
  clear hb ax
  go_wp2_with fail
  refine (natOf_any n hn.out _).mono ?_
  rintro e wn ⟨vB, rfl, bx, hb⟩
  replace U := hid (U.out.up hb)
  replace V := hid (V.out.up hb)
  replace Q := hid (Q.out.up hb)
  replace R := hid (R.out.up hb)
  replace X := hid (X.out.up hb)
  replace Y := hid (Y.out.up hb)
  replace A := hid (A.out.up hb)
  replace E := hid (E.out.trans hb)
  have B := hid bx
  clear hb bx
  go_wp2_with fail
  refine (same_l A.out B.out rfl).mono ?_
  rintro e wn ⟨rfl, hb⟩
  replace U := hid (U.out.up hb)
  replace V := hid (V.out.up hb)
  replace Q := hid (Q.out.up hb)
  replace R := hid (R.out.up hb)
  replace X := hid (X.out.up hb)
  replace Y := hid (Y.out.up hb)
  replace A := hid (A.out.up hb)
  replace B := hid (B.out.up hb)
  replace E := hid (E.out.trans hb)
  clear hb 
  clear A B
  go_wp2_with fail
  refine (cmp_l U.out V.out HZ.out).mono ?_
  rintro e wn ⟨rfl, hb⟩
  replace U := hid (U.out.up hb)
  replace V := hid (V.out.up hb)
  replace Q := hid (Q.out.up hb)
  replace R := hid (R.out.up hb)
  replace X := hid (X.out.up hb)
  replace Y := hid (Y.out.up hb)
  replace E := hid (E.out.trans hb)
  clear hb 
  go_wp2_with fail
  refine (rcmp_l U.out V.out HZ.out).mono ?_
  rintro e wn ⟨rfl, hb⟩
  replace U := hid (U.out.up hb)
  replace V := hid (V.out.up hb)
  replace Q := hid (Q.out.up hb)
  replace R := hid (R.out.up hb)
  replace X := hid (X.out.up hb)
  replace Y := hid (Y.out.up hb)
  replace E := hid (E.out.trans hb)
  clear hb 
  go_wp2_with fail
  refine (add_any _ _ _ _ _ U.out V.out (Nat.le_trans HLa.out (by omega)) (Nat.le_trans HLb.out (by omega))).mono ?_
  rintro e wn ⟨vA, rfl, ax, hb⟩
  replace U := hid (U.out.up hb)
  replace V := hid (V.out.up hb)
  replace Q := hid (Q.out.up hb)
  replace R := hid (R.out.up hb)
  replace X := hid (X.out.up hb)
  replace Y := hid (Y.out.up hb)
  replace E := hid (E.out.trans hb)
  have A := hid ax
  clear hb ax
  go_wp2_with fail
  refine (rAdd_any _ _ _ _ _ U.out V.out (by have := HLa.out; unfold Hid; omega) (by have := HLb.out; unfold Hid; omega)).mono ?_
  rintro e wn ⟨vB, rfl, bx, hb⟩
  replace U := hid (U.out.up hb)
  replace V := hid (V.out.up hb)
  replace Q := hid (Q.out.up hb)
  replace R := hid (R.out.up hb)
  replace X := hid (X.out.up hb)
  replace Y := hid (Y.out.up hb)
  replace A := hid (A.out.up hb)
  replace E := hid (E.out.trans hb)
  have B := hid bx
  clear hb bx
  go_wp2_with fail
  refine (same_l A.out B.out rfl).mono ?_
  rintro e wn ⟨rfl, hb⟩
  replace U := hid (U.out.up hb)
  replace V := hid (V.out.up hb)
  replace Q := hid (Q.out.up hb)
  replace R := hid (R.out.up hb)
  replace X := hid (X.out.up hb)
  replace Y := hid (Y.out.up hb)
  replace A := hid (A.out.up hb)
  replace B := hid (B.out.up hb)
  replace E := hid (E.out.trans hb)
  clear hb 
  clear A B
  go_wp2_with fail
  refine (sub_any _ _ _ _ _ U.out V.out (Nat.le_trans HLa.out (by omega))).mono ?_
  rintro e wn ⟨vA, rfl, ax, hb⟩
  replace U := hid (U.out.up hb)
  replace V := hid (V.out.up hb)
  replace Q := hid (Q.out.up hb)
  replace R := hid (R.out.up hb)
  replace X := hid (X.out.up hb)
  replace Y := hid (Y.out.up hb)
  replace E := hid (E.out.trans hb)
  have A := hid ax
  clear hb ax
  go_wp2_with fail
  refine (rSub_any _ _ _ _ _ U.out V.out (by have := HLa.out; unfold Hid; omega)).mono ?_
  rintro e wn ⟨vB, rfl, bx, hb⟩
  replace U := hid (U.out.up hb)
  replace V := hid (V.out.up hb)
  replace Q := hid (Q.out.up hb)
  replace R := hid (R.out.up hb)
  replace X := hid (X.out.up hb)
  replace Y := hid (Y.out.up hb)
  replace A := hid (A.out.up hb)
  replace E := hid (E.out.trans hb)
  have B := hid bx
  clear hb bx
  go_wp2_with fail
  refine (same_l A.out B.out rfl).mono ?_
  rintro e wn ⟨rfl, hb⟩
  replace U := hid (U.out.up hb)
  replace V := hid (V.out.up hb)
  replace Q := hid (Q.out.up hb)
  replace R := hid (R.out.up hb)
  replace X := hid (X.out.up hb)
  replace Y := hid (Y.out.up hb)
  replace A := hid (A.out.up hb)
  replace B := hid (B.out.up hb)
  replace E := hid (E.out.trans hb)
  clear hb 
  clear A B
  go_wp2_with fail
  refine (mul_any _ _ _ _ _ U.out V.out (Nat.le_trans HLa.out (by omega)) (Nat.le_trans HLb.out (by omega)) (.inl (Nat.lt_of_le_of_lt HLa.out (by omega)))).mono ?_
  rintro e wn ⟨vA, rfl, ax, hb⟩
  replace U := hid (U.out.up hb)
  replace V := hid (V.out.up hb)
  replace Q := hid (Q.out.up hb)
  replace R := hid (R.out.up hb)
  replace X := hid (X.out.up hb)
  replace Y := hid (Y.out.up hb)
  replace E := hid (E.out.trans hb)
  have A := hid ax
  clear hb ax
  go_wp2_with fail
  refine (rmul_n U.out V.out HLa.out HLb.out (by unfold Hid; omega) (by unfold Hid; omega)).mono ?_
  rintro e wn ⟨vB, rfl, bx, hb⟩
  replace U := hid (U.out.up hb)
  replace V := hid (V.out.up hb)
  replace Q := hid (Q.out.up hb)
  replace R := hid (R.out.up hb)
  replace X := hid (X.out.up hb)
  replace Y := hid (Y.out.up hb)
  replace A := hid (A.out.up hb)
  replace E := hid (E.out.trans hb)
  have B := hid bx
  clear hb bx
  go_wp2_with fail
  refine (same_l A.out B.out.1 rfl).mono ?_
  rintro e wn ⟨rfl, hb⟩
  replace U := hid (U.out.up hb)
  replace V := hid (V.out.up hb)
  replace Q := hid (Q.out.up hb)
  replace R := hid (R.out.up hb)
  replace X := hid (X.out.up hb)
  replace Y := hid (Y.out.up hb)
  replace A := hid (A.out.up hb)
  replace B := hid (B.out.up hb)
  replace E := hid (E.out.trans hb)
  clear hb 
  clear A B
  go_wp2_with fail
  refine (same_l Q.out X.out.1 rfl).mono ?_
  rintro e wn ⟨rfl, hb⟩
  replace U := hid (U.out.up hb)
  replace V := hid (V.out.up hb)
  replace Q := hid (Q.out.up hb)
  replace R := hid (R.out.up hb)
  replace X := hid (X.out.up hb)
  replace Y := hid (Y.out.up hb)
  replace E := hid (E.out.trans hb)
  clear hb 
  clear Q X
  go_wp2_with fail
  refine (same_l R.out Y.out.1 rfl).mono ?_
  rintro e wn ⟨rfl, hb⟩
  replace U := hid (U.out.up hb)
  replace V := hid (V.out.up hb)
  replace R := hid (R.out.up hb)
  replace Y := hid (Y.out.up hb)
  replace E := hid (E.out.trans hb)
  clear hb 
  clear R Y
  go_wp2_with fail
  refine (even_l U.out HE.out).mono ?_
  rintro e wq ⟨rfl, rfl⟩
  go_wp2
  go_ret
  exact ⟨rfl, E.out⟩

set_option maxHeartbeats 4000000 in
theorem tells_od (W : World) (u v : Value) (a b : List Nat) (n : Nat) (hu : Num W W.heap.size u a) (hv : Num W W.heap.size v b) (hn : Hid ((n : Int) ≤ 18446744073709551615)) (g0 : Hid (decide (a.length ≤ 8) = true)) (g1 : Hid (decide (b.length ≤ 8) = true)) (ha : Hid (M.isNat a = true)) (y : Nat) (r : List Nat) (hy : Hid (a = y :: r)) (hb : Hid (y % 2 = 1)) :
    Calls Try.prog 10 #[u, v, .int .u64 (n : Int)] W fun e w' => e = .returned (.bool true) ∧ Ext W w' := by
  have HI := hid (show M.isNat a = true from ha.out)
  have HE := hid (show decide (M.nv a % 2 = 0) = false by
    unfold M.nv; rw [HI.out, if_pos rfl, M.even_val, hy.out]; have := hb.out; simp; omega)
  obtain ⟨A0, n0, c0, rfl, hn0, hc0, hm0, hs0, hr0⟩ := id hu
  have HN0 := hid hn0
  have hn09 : n0 ≤ 9223372036854775807 := by unfold maxLen at hm0; omega
  have hnz : ((n0 : Int) == 0) = false := by rw [hn0, hy.out]; simp; omega
  have hpos : 1 ≤ n0 := by rw [hn0, hy.out]; simp
  have hpar : ((y : Int) % 2 == 0) = false := by have := hb.out; simp; omega
  have hy9 := hid (hs0 y (by rw [hy.out]; simp))
  obtain ⟨ad, rfl, had, hcl⟩ := hr0 (by rw [hy.out]; simp)
  have KC := hid (show CellAt W ad (.int .u32 (y : Int)) by have := hcl 0 y (by rw [hy.out]; rfl); rwa [Addr.add_zero'] at this)
  clear hcl had
  clear hn0 hc0 hm0 hs0
  have U := hid hu
  have V := hid hv
  obtain ⟨z, hz⟩ : ∃ z, M.cmp (M.nv a) (M.nv b) = z := ⟨_, rfl⟩
  have HZ := hid hz
  have HLa := hid (of_decide_eq_true g0.out)
  have HLb := hid (of_decide_eq_true g1.out)
  clear hu hv hz
  go_enter Try.func10, Try.ntmps10
  go_wp2_with fail
  refine (known_any _).mono ?_
  rintro e wn ⟨rfl, hb⟩
  replace U := hid (U.out.up hb)
  replace V := hid (V.out.up hb)
  replace KC := hid (KC.out.up hb)
  have E := hid hb
  clear hb 
  go_wp2_with fail
  refine (few_l U.out g0.out).mono ?_
  rintro e wq ⟨rfl, rfl⟩
  go_wp2_with fail
  refine (few_l V.out g1.out).mono ?_
  rintro e wq ⟨rfl, rfl⟩
  go_wp2_with fail
  refine (div_any _ _ _ _ _ U.out V.out (Nat.le_trans HLa.out (by omega))).mono ?_
  rintro e wn ⟨vQ, vR, rfl, qx, rx, hb⟩
  replace U := hid (U.out.up hb)
  replace V := hid (V.out.up hb)
  replace KC := hid (KC.out.up hb)
  replace E := hid (E.out.trans hb)
  have Q := hid qx
  have R := hid rx
  clear hb qx rx
  go_wp2_with fail
  refine (rdiv_n U.out V.out HLa.out HLb.out (by unfold Hid; omega) (by unfold Hid; omega)).mono ?_
  rintro e wn ⟨vX, vY, rfl, xx, yx, hb⟩
  replace U := hid (U.out.up hb)
  replace V := hid (V.out.up hb)
  replace KC := hid (KC.out.up hb)
  replace Q := hid (Q.out.up hb)
  replace R := hid (R.out.up hb)
  replace E := hid (E.out.trans hb)
  have X := hid xx
  have Y := hid yx
  clear hb xx yx
  go_wp2_with fail
  refine (isR_l U.out HI.out).mono ?_
  rintro e wq ⟨rfl, rfl⟩
  have hcell : wn.cell? ad = some (.int .u32 (y : Int)) := KC.out
  go_wp2_with fail
  refine (isNat_l U.out HI.out).mono ?_
  rintro e wq ⟨rfl, rfl⟩
  clear hcell
  clear KC
  go_wp2_with fail
  refine (isR_l U.out HI.out).mono ?_
  rintro e wq ⟨rfl, rfl⟩
  go_wp2_with fail
  refine (of_any n hn.out _).mono ?_
  rintro e wn ⟨vA, rfl, ax, hb⟩
  replace U := hid (U.out.up hb)
  replace V := hid (V.out.up hb)
  replace Q := hid (Q.out.up hb)
  replace R := hid (R.out.up hb)
  replace X := hid (X.out.up hb)
  replace Y := hid (Y.out.up hb)
  replace E := hid (E.out.trans hb)
  have A := hid ax
  clear hb ax
  go_wp2_with fail
  refine (natOf_any n hn.out _).mono ?_
  rintro e wn ⟨vB, rfl, bx, hb⟩
  replace U := hid (U.out.up hb)
  replace V := hid (V.out.up hb)
  replace Q := hid (Q.out.up hb)
  replace R := hid (R.out.up hb)
  replace X := hid (X.out.up hb)
  replace Y := hid (Y.out.up hb)
  replace A := hid (A.out.up hb)
  replace E := hid (E.out.trans hb)
  have B := hid bx
  clear hb bx
  go_wp2_with fail
  refine (same_l A.out B.out rfl).mono ?_
  rintro e wn ⟨rfl, hb⟩
  replace U := hid (U.out.up hb)
  replace V := hid (V.out.up hb)
  replace Q := hid (Q.out.up hb)
  replace R := hid (R.out.up hb)
  replace X := hid (X.out.up hb)
  replace Y := hid (Y.out.up hb)
  replace A := hid (A.out.up hb)
  replace B := hid (B.out.up hb)
  replace E := hid (E.out.trans hb)
  clear hb 
  clear A B
  go_wp2_with fail
  refine (cmp_l U.out V.out HZ.out).mono ?_
  rintro e wn ⟨rfl, hb⟩
  replace U := hid (U.out.up hb)
  replace V := hid (V.out.up hb)
  replace Q := hid (Q.out.up hb)
  replace R := hid (R.out.up hb)
  replace X := hid (X.out.up hb)
  replace Y := hid (Y.out.up hb)
  replace E := hid (E.out.trans hb)
  clear hb 
  go_wp2_with fail
  refine (rcmp_l U.out V.out HZ.out).mono ?_
  rintro e wn ⟨rfl, hb⟩
  replace U := hid (U.out.up hb)
  replace V := hid (V.out.up hb)
  replace Q := hid (Q.out.up hb)
  replace R := hid (R.out.up hb)
  replace X := hid (X.out.up hb)
  replace Y := hid (Y.out.up hb)
  replace E := hid (E.out.trans hb)
  clear hb 
  go_wp2_with fail
  refine (add_any _ _ _ _ _ U.out V.out (Nat.le_trans HLa.out (by omega)) (Nat.le_trans HLb.out (by omega))).mono ?_
  rintro e wn ⟨vA, rfl, ax, hb⟩
  replace U := hid (U.out.up hb)
  replace V := hid (V.out.up hb)
  replace Q := hid (Q.out.up hb)
  replace R := hid (R.out.up hb)
  replace X := hid (X.out.up hb)
  replace Y := hid (Y.out.up hb)
  replace E := hid (E.out.trans hb)
  have A := hid ax
  clear hb ax
  go_wp2_with fail
  refine (rAdd_any _ _ _ _ _ U.out V.out (by have := HLa.out; unfold Hid; omega) (by have := HLb.out; unfold Hid; omega)).mono ?_
  rintro e wn ⟨vB, rfl, bx, hb⟩
  replace U := hid (U.out.up hb)
  replace V := hid (V.out.up hb)
  replace Q := hid (Q.out.up hb)
  replace R := hid (R.out.up hb)
  replace X := hid (X.out.up hb)
  replace Y := hid (Y.out.up hb)
  replace A := hid (A.out.up hb)
  replace E := hid (E.out.trans hb)
  have B := hid bx
  clear hb bx
  go_wp2_with fail
  refine (same_l A.out B.out rfl).mono ?_
  rintro e wn ⟨rfl, hb⟩
  replace U := hid (U.out.up hb)
  replace V := hid (V.out.up hb)
  replace Q := hid (Q.out.up hb)
  replace R := hid (R.out.up hb)
  replace X := hid (X.out.up hb)
  replace Y := hid (Y.out.up hb)
  replace A := hid (A.out.up hb)
  replace B := hid (B.out.up hb)
  replace E := hid (E.out.trans hb)
  clear hb 
  clear A B
  go_wp2_with fail
  refine (sub_any _ _ _ _ _ U.out V.out (Nat.le_trans HLa.out (by omega))).mono ?_
  rintro e wn ⟨vA, rfl, ax, hb⟩
  replace U := hid (U.out.up hb)
  replace V := hid (V.out.up hb)
  replace Q := hid (Q.out.up hb)
  replace R := hid (R.out.up hb)
  replace X := hid (X.out.up hb)
  replace Y := hid (Y.out.up hb)
  replace E := hid (E.out.trans hb)
  have A := hid ax
  clear hb ax
  go_wp2_with fail
  refine (rSub_any _ _ _ _ _ U.out V.out (by have := HLa.out; unfold Hid; omega)).mono ?_
  rintro e wn ⟨vB, rfl, bx, hb⟩
  replace U := hid (U.out.up hb)
  replace V := hid (V.out.up hb)
  replace Q := hid (Q.out.up hb)
  replace R := hid (R.out.up hb)
  replace X := hid (X.out.up hb)
  replace Y := hid (Y.out.up hb)
  replace A := hid (A.out.up hb)
  replace E := hid (E.out.trans hb)
  have B := hid bx
  clear hb bx
  go_wp2_with fail
  refine (same_l A.out B.out rfl).mono ?_
  rintro e wn ⟨rfl, hb⟩
  replace U := hid (U.out.up hb)
  replace V := hid (V.out.up hb)
  replace Q := hid (Q.out.up hb)
  replace R := hid (R.out.up hb)
  replace X := hid (X.out.up hb)
  replace Y := hid (Y.out.up hb)
  replace A := hid (A.out.up hb)
  replace B := hid (B.out.up hb)
  replace E := hid (E.out.trans hb)
  clear hb 
  clear A B
  go_wp2_with fail
  refine (mul_any _ _ _ _ _ U.out V.out (Nat.le_trans HLa.out (by omega)) (Nat.le_trans HLb.out (by omega)) (.inl (Nat.lt_of_le_of_lt HLa.out (by omega)))).mono ?_
  rintro e wn ⟨vA, rfl, ax, hb⟩
  replace U := hid (U.out.up hb)
  replace V := hid (V.out.up hb)
  replace Q := hid (Q.out.up hb)
  replace R := hid (R.out.up hb)
  replace X := hid (X.out.up hb)
  replace Y := hid (Y.out.up hb)
  replace E := hid (E.out.trans hb)
  have A := hid ax
  clear hb ax
  go_wp2_with fail
  refine (rmul_n U.out V.out HLa.out HLb.out (by unfold Hid; omega) (by unfold Hid; omega)).mono ?_
  rintro e wn ⟨vB, rfl, bx, hb⟩
  replace U := hid (U.out.up hb)
  replace V := hid (V.out.up hb)
  replace Q := hid (Q.out.up hb)
  replace R := hid (R.out.up hb)
  replace X := hid (X.out.up hb)
  replace Y := hid (Y.out.up hb)
  replace A := hid (A.out.up hb)
  replace E := hid (E.out.trans hb)
  have B := hid bx
  clear hb bx
  go_wp2_with fail
  refine (same_l A.out B.out.1 rfl).mono ?_
  rintro e wn ⟨rfl, hb⟩
  replace U := hid (U.out.up hb)
  replace V := hid (V.out.up hb)
  replace Q := hid (Q.out.up hb)
  replace R := hid (R.out.up hb)
  replace X := hid (X.out.up hb)
  replace Y := hid (Y.out.up hb)
  replace A := hid (A.out.up hb)
  replace B := hid (B.out.up hb)
  replace E := hid (E.out.trans hb)
  clear hb 
  clear A B
  go_wp2_with fail
  refine (same_l Q.out X.out.1 rfl).mono ?_
  rintro e wn ⟨rfl, hb⟩
  replace U := hid (U.out.up hb)
  replace V := hid (V.out.up hb)
  replace Q := hid (Q.out.up hb)
  replace R := hid (R.out.up hb)
  replace X := hid (X.out.up hb)
  replace Y := hid (Y.out.up hb)
  replace E := hid (E.out.trans hb)
  clear hb 
  clear Q X
  go_wp2_with fail
  refine (same_l R.out Y.out.1 rfl).mono ?_
  rintro e wn ⟨rfl, hb⟩
  replace U := hid (U.out.up hb)
  replace V := hid (V.out.up hb)
  replace R := hid (R.out.up hb)
  replace Y := hid (Y.out.up hb)
  replace E := hid (E.out.trans hb)
  clear hb 
  clear R Y
  go_wp2_with fail
  refine (even_l U.out HE.out).mono ?_
  rintro e wq ⟨rfl, rfl⟩
  go_wp2
  go_ret
  exact ⟨rfl, E.out⟩

theorem natTells_walk (W : World) (u : Value) (a : List Nat) (hu : Num W W.heap.size u a) (v : Value) (b : List Nat) (hv : Num W W.heap.size v b) (a2 : Int) (w2 : (Lit.int .u64 a2).wf = true) :
    Calls Try.prog 10 #[u, v, .int .u64 a2] W fun e w' => e = .returned (.bool true) ∧ Ext W w' := by
  have h2 : 0 ≤ a2 ∧ a2 ≤ 18446744073709551615 := by simpa [Lit.wf, IntKind.min, IntKind.max, IntKind.signed, IntKind.bits] using w2
  obtain ⟨n, rfl⟩ := Int.eq_ofNat_of_zero_le h2.1
  have hn := h2.2
  rcases g0 : (decide (a.length ≤ 8)) with _ | _
  · exact tells_skip0 W u v a b n hu hv hn g0
  rcases g1 : (decide (b.length ≤ 8)) with _ | _
  · exact tells_skip1 W u v a b n hu hv hn g0 g1
  rcases ha : (M.isNat a) with _ | _
  · exact tells_no W u v a b n hu hv hn g0 g1 ha
  rcases a with _ | ⟨y, r⟩
  · exact tells_nil W u v [] b n hu hv hn g0 g1 rfl
  rcases (by omega : y % 2 = 0 ∨ y % 2 = 1) with h | h
  · exact tells_ev W u v _ b n hu hv hn g0 g1 ha y r rfl h
  · exact tells_od W u v _ b n hu hv hn g0 g1 ha y r rfl h

set_option maxRecDepth 100000 in
theorem natTells_lifted (os : Os) (started : os.Started) (H : Type) (enc : TypeId × Value → H) :
    ReturnsInHanded {} Try.checked os 10 .any (Rows.natTellsSpec.pre6 enc Try.prog Try.f10 Rows.natTellsRow.domain false) (Rows.natTellsSpec.post enc Try.prog Try.f10 false true false false) := by
  refine returnsInHanded_of_change (C := Try.checked) own started (by kernel_rfl) Try.func10
    (ChangeSpec.witness6 (enc := enc) (C := Try.checked) false ⟨#[], #[.slice none 0 0, .slice none 0 0, .int .u64 0], []⟩ 8 (by kernel_rfl) (by kernel_rfl) (by kernel_rfl) (by kernel_rfl)) ?_
  intro W base args ds gs before hval0 hW _ _
  have hval : ∀ (j : Nat) t v, Try.f10.params[j]? = some t → args[j]? = some v → Value.okWide Try.prog W .any base t v := hval0
  have hW' := hW
  obtain ⟨p, q, hA0, hV, rfl, hfz, hnd⟩ := hW
  have hA : DataW.TrodAll enc Try.prog W 0 (fun _ => true) true Try.f10.params.toList args.toList ds p := hA0
  rw [Try.params10] at hA hval
  obtain ⟨v0, vs0, d0, ds0, p0, q0, hargs, rfl, rfl, h0, r0⟩ := trodAll_cons hA
  obtain ⟨v1, vs1, d1, ds1, p1, q1, rfl, rfl, rfl, h1, r1⟩ := trodAll_cons r0
  obtain ⟨v2, vs2, d2, ds2, p2, q2, rfl, rfl, rfl, h2, r2⟩ := trodAll_cons r1
  obtain ⟨rfl, rfl, rfl⟩ := trodAll_nil r2
  obtain rfl : args = #[v0, v1, v2] := by cases args; simp_all
  obtain ⟨rfl, rfl⟩ := trodVars_none hV
  obtain ⟨l0, e0⟩ := open_num (hval 0 22 v0 rfl rfl) h0
  obtain ⟨l1, e1⟩ := open_num (hval 1 22 v1 rfl rfl) h1
  obtain ⟨a2, rfl, -, -, w2⟩ := open_int Try.underlying44 (hval 2 44 v2 rfl rfl) h2
  clear hA0 hval0
  refine (natTells_walk W v0 l0 e0 v1 l1 e1 a2 w2).mono fun e W' ⟨he, hg⟩ => ?_
  subst he
  exact ⟨_, rfl, law_post hW' rfl rfl (by kernel_rfl) (by kernel_rfl) hg⟩

theorem natTells_over : Rows.natTellsRow.holds Try.pinned (OpenSpec.ofChange Rows.natTellsSpec) :=
  OpenClaim.holds_of_wide 10 Try.f10 rfl rfl rfl rfl rfl rfl rfl ⟨rfl, rfl, rfl, rfl, rfl⟩ rfl rfl rfl rfl rfl (by kernel_rfl) Try.func10 (by kernel_rfl)
    (of_decide_eq_true (by kernel_rfl)) (by unfold Func.isWrapper; first | (rw [if_pos (by decide +kernel)]; kernel_rfl) | (rw [if_neg (by decide +kernel)]; exact ⟨rfl, rfl⟩))
    (fun os started H enc _ => natTells_lifted os started H enc)

theorem natTells_proved : Rows.NatTellsSaid := natTells_over

end Go.Proofs.Ytjmonmbgfihgmaa
