/-
  NatSmall: whatever two numbers of 32 bits and one of 64: true. No conditions.
-/
import Derived.Test.YtbmkacnomegogaaLaw
import Derived.Test.YtbmkacnomegogaaByRow
import Derived.ProofKit
import Derived.OpenShut
import Derived.Carry
namespace Go.Proofs.Ytbmkacnomegogaa
open Go.ChangeShapes Go.WideShapes Go.ChangeAt Go.RowKit

theorem div_n {w : World} {u v : Value} {a b j k : Nat} (hu : IsN w u a j) (hv : IsN w v b k) (hj : j ≤ 1000000) :
    Calls Try.prog 11 #[u, v] w (GivesN2 w (a / b) j (a % b) j) := by
  have h := div_any w u v _ _ hu.1 hv.1 (Nat.le_trans hu.2 hj)
  rw [M.nv_limbs, M.nv_limbs] at h
  exact h.mono fun _ _ ⟨x, y, he, hx, hy, hb⟩ => ⟨x, y, he, ⟨hx, M.limbs_length_le (Nat.lt_of_le_of_lt (Nat.div_le_self _ _) hu.len)⟩, ⟨hy, M.limbs_length_le (Nat.lt_of_le_of_lt (Nat.mod_le _ _) hu.len)⟩, hb⟩

set_option maxHeartbeats 4000000 in
theorem small_zge (W : World) (x y n : Nat) (hx : (x : Int) ≤ 4294967295) (hy : (y : Int) ≤ 4294967295) (hn : Hid ((n : Int) ≤ 18446744073709551615)) (hy0 : Hid (y = 0)) (hlt : Hid (y ≤ x)) (hev : Hid (n % 2 = 0)) :
    Calls Try.prog 5 #[.int .u32 (x : Int), .int .u32 (y : Int), .int .u64 (n : Int)] W fun e w' => e = .returned (.bool true) ∧ Ext W w' := by
  obtain rfl : y = 0 := hy0.out
  obtain ⟨p, hp⟩ : ∃ p, p = x * 0 := ⟨_, rfl⟩
  have hpI : (x : Int) * (((0 : Nat) : Int) : Int) = (p : Int) := by rw [hp]; simp
  have hp9 : p ≤ 18446744065119617025 := by rw [hp]; exact Nat.mul_le_mul (show x ≤ 4294967295 by omega) (show 0 ≤ 4294967295 by omega)
  have HP := hid hp
  have HP9 := hid hp9
  clear hp hp9
  have hw : IntKind.u64.wrap (p : Int) = (p : Int) := by have := HP9.out; rw [IntKind.wrap_u64]; omega
  have he : ((n : Int) % 2 == 0) = true := by have := hev.out; simp; omega
  go_enter Try.func5, Try.ntmps5
  go_wp2_with fail
  refine (known_any _).mono ?_
  rintro e wn ⟨rfl, hb⟩
  have E := hid hb
  clear hb 
  go_wp2_with fail
  refine (of_n x (by omega) _).mono ?_
  rintro e wn ⟨vX, rfl, xx, hb⟩
  replace E := hid (E.out.trans hb)
  have X := hid xx
  clear hb xx
  go_wp2_with fail
  refine (of_n 0 (by omega) _).mono ?_
  rintro e wn ⟨vY, rfl, yx, hb⟩
  replace X := hid (X.out.up hb)
  replace E := hid (E.out.trans hb)
  have Y := hid yx
  clear hb yx
  go_wp2_with fail
  refine (of_n n hn.out _).mono ?_
  rintro e wn ⟨vN, rfl, nx, hb⟩
  replace X := hid (X.out.up hb)
  replace Y := hid (Y.out.up hb)
  replace E := hid (E.out.trans hb)
  have N := hid nx
  clear hb nx
  go_wp2_with fail
  refine (div_n N.out Y.out (by omega)).mono ?_
  rintro e wn ⟨vQ, vR, rfl, qx, rx, hb⟩
  replace X := hid (X.out.up hb)
  replace Y := hid (Y.out.up hb)
  replace N := hid (N.out.up hb)
  replace E := hid (E.out.trans hb)
  have Q := hid qx
  have R := hid rx
  clear hb qx rx
  go_wp2_with fail
  refine (add_n X.out Y.out (by omega) (by omega)).mono ?_
  rintro e wn ⟨vS, rfl, sx, hb⟩
  replace X := hid (X.out.up hb)
  replace Y := hid (Y.out.up hb)
  replace N := hid (N.out.up hb)
  replace Q := hid (Q.out.up hb)
  replace R := hid (R.out.up hb)
  replace E := hid (E.out.trans hb)
  have S := hid sx
  clear hb sx
  go_wp2_with fail
  refine (of_n x (by omega) _).mono ?_
  rintro e wn ⟨vB, rfl, bx, hb⟩
  replace X := hid (X.out.up hb)
  replace Y := hid (Y.out.up hb)
  replace N := hid (N.out.up hb)
  replace Q := hid (Q.out.up hb)
  replace R := hid (R.out.up hb)
  replace S := hid (S.out.up hb)
  replace E := hid (E.out.trans hb)
  have B := hid bx
  clear hb bx
  go_wp2_with fail
  refine (cmp_n S.out B.out (z := 0) (M.cmp_zero.2 (rfl))).mono ?_
  rintro e wn ⟨rfl, hb⟩
  replace X := hid (X.out.up hb)
  replace Y := hid (Y.out.up hb)
  replace N := hid (N.out.up hb)
  replace Q := hid (Q.out.up hb)
  replace R := hid (R.out.up hb)
  replace S := hid (S.out.up hb)
  replace B := hid (B.out.up hb)
  replace E := hid (E.out.trans hb)
  clear hb 
  clear S B
  go_wp2_with fail
  refine (mul_n X.out Y.out (by omega) (by omega) (by omega)).mono ?_
  rintro e wn ⟨vS, rfl, sx, hb⟩
  replace X := hid (X.out.up hb)
  replace Y := hid (Y.out.up hb)
  replace N := hid (N.out.up hb)
  replace Q := hid (Q.out.up hb)
  replace R := hid (R.out.up hb)
  replace E := hid (E.out.trans hb)
  have S := hid sx
  clear hb sx
  go_wp2_with fail
  refine (of_n 0 (by have := HP9.out; omega) _).mono ?_
  rintro e wn ⟨vB, rfl, bx, hb⟩
  replace X := hid (X.out.up hb)
  replace Y := hid (Y.out.up hb)
  replace N := hid (N.out.up hb)
  replace Q := hid (Q.out.up hb)
  replace R := hid (R.out.up hb)
  replace S := hid (S.out.up hb)
  replace E := hid (E.out.trans hb)
  have B := hid bx
  clear hb bx
  go_wp2_with fail
  refine (cmp_n S.out B.out (z := 0) (M.cmp_zero.2 (rfl))).mono ?_
  rintro e wn ⟨rfl, hb⟩
  replace X := hid (X.out.up hb)
  replace Y := hid (Y.out.up hb)
  replace N := hid (N.out.up hb)
  replace Q := hid (Q.out.up hb)
  replace R := hid (R.out.up hb)
  replace S := hid (S.out.up hb)
  replace B := hid (B.out.up hb)
  replace E := hid (E.out.trans hb)
  clear hb 
  clear S B
  go_wp2_with fail
  refine (sub_n X.out Y.out (by omega)).mono ?_
  rintro e wn ⟨vS, rfl, sx, hb⟩
  replace X := hid (X.out.up hb)
  replace Y := hid (Y.out.up hb)
  replace N := hid (N.out.up hb)
  replace Q := hid (Q.out.up hb)
  replace R := hid (R.out.up hb)
  replace E := hid (E.out.trans hb)
  have S := hid sx
  clear hb sx
  go_wp2_with fail
  refine (of_n x (by omega) _).mono ?_
  rintro e wn ⟨vB, rfl, bx, hb⟩
  replace X := hid (X.out.up hb)
  replace Y := hid (Y.out.up hb)
  replace N := hid (N.out.up hb)
  replace Q := hid (Q.out.up hb)
  replace R := hid (R.out.up hb)
  replace S := hid (S.out.up hb)
  replace E := hid (E.out.trans hb)
  have B := hid bx
  clear hb bx
  go_wp2_with fail
  refine (cmp_n S.out B.out (z := 0) (M.cmp_zero.2 (rfl))).mono ?_
  rintro e wn ⟨rfl, hb⟩
  replace X := hid (X.out.up hb)
  replace Y := hid (Y.out.up hb)
  replace N := hid (N.out.up hb)
  replace Q := hid (Q.out.up hb)
  replace R := hid (R.out.up hb)
  replace S := hid (S.out.up hb)
  replace B := hid (B.out.up hb)
  replace E := hid (E.out.trans hb)
  clear hb 
  clear S B
  go_wp2_with fail
  refine (of_n n hn.out _).mono ?_
  rintro e wn ⟨vB, rfl, bx, hb⟩
  replace X := hid (X.out.up hb)
  replace Y := hid (Y.out.up hb)
  replace N := hid (N.out.up hb)
  replace Q := hid (Q.out.up hb)
  replace R := hid (R.out.up hb)
  replace E := hid (E.out.trans hb)
  have B := hid bx
  clear hb bx
  go_wp2_with fail
  refine (even_n B.out (b := true) (by have := hev.out; simp; omega)).mono ?_
  rintro e wq ⟨rfl, rfl⟩
  clear B
  obtain ⟨z, hz⟩ : ∃ z, M.cmp x 0 = z := ⟨_, rfl⟩
  have hz0 : 0 ≤ z := by rw [← hz]; exact M.cmp_nonneg hlt.out
  have HZ := hid hz
  clear hz
  go_wp2_with fail
  refine (cmp_n X.out Y.out (z := z) HZ.out).mono ?_
  rintro e wn ⟨rfl, hb⟩
  replace X := hid (X.out.up hb)
  replace Y := hid (Y.out.up hb)
  replace N := hid (N.out.up hb)
  replace Q := hid (Q.out.up hb)
  replace R := hid (R.out.up hb)
  replace E := hid (E.out.trans hb)
  clear hb 
  have e1 : decide (z < 0) = false := by simp; all_goals omega
  have e2 : decide ((x : Int) < 0) = false := by simp; all_goals omega
  go_wp2
  go_ret
  exact ⟨ret_bool (by first | rfl | (simp only [e1, e2]; done) | (rw [e1, e2]; rfl) | (simp [e1, e2]; done)), E.out⟩

set_option maxHeartbeats 4000000 in
theorem small_zgo (W : World) (x y n : Nat) (hx : (x : Int) ≤ 4294967295) (hy : (y : Int) ≤ 4294967295) (hn : Hid ((n : Int) ≤ 18446744073709551615)) (hy0 : Hid (y = 0)) (hlt : Hid (y ≤ x)) (hev : Hid (n % 2 = 1)) :
    Calls Try.prog 5 #[.int .u32 (x : Int), .int .u32 (y : Int), .int .u64 (n : Int)] W fun e w' => e = .returned (.bool true) ∧ Ext W w' := by
  obtain rfl : y = 0 := hy0.out
  obtain ⟨p, hp⟩ : ∃ p, p = x * 0 := ⟨_, rfl⟩
  have hpI : (x : Int) * (((0 : Nat) : Int) : Int) = (p : Int) := by rw [hp]; simp
  have hp9 : p ≤ 18446744065119617025 := by rw [hp]; exact Nat.mul_le_mul (show x ≤ 4294967295 by omega) (show 0 ≤ 4294967295 by omega)
  have HP := hid hp
  have HP9 := hid hp9
  clear hp hp9
  have hw : IntKind.u64.wrap (p : Int) = (p : Int) := by have := HP9.out; rw [IntKind.wrap_u64]; omega
  have he : ((n : Int) % 2 == 0) = false := by have := hev.out; simp; omega
  go_enter Try.func5, Try.ntmps5
  go_wp2_with fail
  refine (known_any _).mono ?_
  rintro e wn ⟨rfl, hb⟩
  have E := hid hb
  clear hb 
  go_wp2_with fail
  refine (of_n x (by omega) _).mono ?_
  rintro e wn ⟨vX, rfl, xx, hb⟩
  replace E := hid (E.out.trans hb)
  have X := hid xx
  clear hb xx
  go_wp2_with fail
  refine (of_n 0 (by omega) _).mono ?_
  rintro e wn ⟨vY, rfl, yx, hb⟩
  replace X := hid (X.out.up hb)
  replace E := hid (E.out.trans hb)
  have Y := hid yx
  clear hb yx
  go_wp2_with fail
  refine (of_n n hn.out _).mono ?_
  rintro e wn ⟨vN, rfl, nx, hb⟩
  replace X := hid (X.out.up hb)
  replace Y := hid (Y.out.up hb)
  replace E := hid (E.out.trans hb)
  have N := hid nx
  clear hb nx
  go_wp2_with fail
  refine (div_n N.out Y.out (by omega)).mono ?_
  rintro e wn ⟨vQ, vR, rfl, qx, rx, hb⟩
  replace X := hid (X.out.up hb)
  replace Y := hid (Y.out.up hb)
  replace N := hid (N.out.up hb)
  replace E := hid (E.out.trans hb)
  have Q := hid qx
  have R := hid rx
  clear hb qx rx
  go_wp2_with fail
  refine (add_n X.out Y.out (by omega) (by omega)).mono ?_
  rintro e wn ⟨vS, rfl, sx, hb⟩
  replace X := hid (X.out.up hb)
  replace Y := hid (Y.out.up hb)
  replace N := hid (N.out.up hb)
  replace Q := hid (Q.out.up hb)
  replace R := hid (R.out.up hb)
  replace E := hid (E.out.trans hb)
  have S := hid sx
  clear hb sx
  go_wp2_with fail
  refine (of_n x (by omega) _).mono ?_
  rintro e wn ⟨vB, rfl, bx, hb⟩
  replace X := hid (X.out.up hb)
  replace Y := hid (Y.out.up hb)
  replace N := hid (N.out.up hb)
  replace Q := hid (Q.out.up hb)
  replace R := hid (R.out.up hb)
  replace S := hid (S.out.up hb)
  replace E := hid (E.out.trans hb)
  have B := hid bx
  clear hb bx
  go_wp2_with fail
  refine (cmp_n S.out B.out (z := 0) (M.cmp_zero.2 (rfl))).mono ?_
  rintro e wn ⟨rfl, hb⟩
  replace X := hid (X.out.up hb)
  replace Y := hid (Y.out.up hb)
  replace N := hid (N.out.up hb)
  replace Q := hid (Q.out.up hb)
  replace R := hid (R.out.up hb)
  replace S := hid (S.out.up hb)
  replace B := hid (B.out.up hb)
  replace E := hid (E.out.trans hb)
  clear hb 
  clear S B
  go_wp2_with fail
  refine (mul_n X.out Y.out (by omega) (by omega) (by omega)).mono ?_
  rintro e wn ⟨vS, rfl, sx, hb⟩
  replace X := hid (X.out.up hb)
  replace Y := hid (Y.out.up hb)
  replace N := hid (N.out.up hb)
  replace Q := hid (Q.out.up hb)
  replace R := hid (R.out.up hb)
  replace E := hid (E.out.trans hb)
  have S := hid sx
  clear hb sx
  go_wp2_with fail
  refine (of_n 0 (by have := HP9.out; omega) _).mono ?_
  rintro e wn ⟨vB, rfl, bx, hb⟩
  replace X := hid (X.out.up hb)
  replace Y := hid (Y.out.up hb)
  replace N := hid (N.out.up hb)
  replace Q := hid (Q.out.up hb)
  replace R := hid (R.out.up hb)
  replace S := hid (S.out.up hb)
  replace E := hid (E.out.trans hb)
  have B := hid bx
  clear hb bx
  go_wp2_with fail
  refine (cmp_n S.out B.out (z := 0) (M.cmp_zero.2 (rfl))).mono ?_
  rintro e wn ⟨rfl, hb⟩
  replace X := hid (X.out.up hb)
  replace Y := hid (Y.out.up hb)
  replace N := hid (N.out.up hb)
  replace Q := hid (Q.out.up hb)
  replace R := hid (R.out.up hb)
  replace S := hid (S.out.up hb)
  replace B := hid (B.out.up hb)
  replace E := hid (E.out.trans hb)
  clear hb 
  clear S B
  go_wp2_with fail
  refine (sub_n X.out Y.out (by omega)).mono ?_
  rintro e wn ⟨vS, rfl, sx, hb⟩
  replace X := hid (X.out.up hb)
  replace Y := hid (Y.out.up hb)
  replace N := hid (N.out.up hb)
  replace Q := hid (Q.out.up hb)
  replace R := hid (R.out.up hb)
  replace E := hid (E.out.trans hb)
  have S := hid sx
  clear hb sx
  go_wp2_with fail
  refine (of_n x (by omega) _).mono ?_
  rintro e wn ⟨vB, rfl, bx, hb⟩
  replace X := hid (X.out.up hb)
  replace Y := hid (Y.out.up hb)
  replace N := hid (N.out.up hb)
  replace Q := hid (Q.out.up hb)
  replace R := hid (R.out.up hb)
  replace S := hid (S.out.up hb)
  replace E := hid (E.out.trans hb)
  have B := hid bx
  clear hb bx
  go_wp2_with fail
  refine (cmp_n S.out B.out (z := 0) (M.cmp_zero.2 (rfl))).mono ?_
  rintro e wn ⟨rfl, hb⟩
  replace X := hid (X.out.up hb)
  replace Y := hid (Y.out.up hb)
  replace N := hid (N.out.up hb)
  replace Q := hid (Q.out.up hb)
  replace R := hid (R.out.up hb)
  replace S := hid (S.out.up hb)
  replace B := hid (B.out.up hb)
  replace E := hid (E.out.trans hb)
  clear hb 
  clear S B
  go_wp2_with fail
  refine (of_n n hn.out _).mono ?_
  rintro e wn ⟨vB, rfl, bx, hb⟩
  replace X := hid (X.out.up hb)
  replace Y := hid (Y.out.up hb)
  replace N := hid (N.out.up hb)
  replace Q := hid (Q.out.up hb)
  replace R := hid (R.out.up hb)
  replace E := hid (E.out.trans hb)
  have B := hid bx
  clear hb bx
  go_wp2_with fail
  refine (even_n B.out (b := false) (by have := hev.out; simp; omega)).mono ?_
  rintro e wq ⟨rfl, rfl⟩
  clear B
  obtain ⟨z, hz⟩ : ∃ z, M.cmp x 0 = z := ⟨_, rfl⟩
  have hz0 : 0 ≤ z := by rw [← hz]; exact M.cmp_nonneg hlt.out
  have HZ := hid hz
  clear hz
  go_wp2_with fail
  refine (cmp_n X.out Y.out (z := z) HZ.out).mono ?_
  rintro e wn ⟨rfl, hb⟩
  replace X := hid (X.out.up hb)
  replace Y := hid (Y.out.up hb)
  replace N := hid (N.out.up hb)
  replace Q := hid (Q.out.up hb)
  replace R := hid (R.out.up hb)
  replace E := hid (E.out.trans hb)
  clear hb 
  have e1 : decide (z < 0) = false := by simp; all_goals omega
  have e2 : decide ((x : Int) < 0) = false := by simp; all_goals omega
  go_wp2
  go_ret
  exact ⟨ret_bool (by first | rfl | (simp only [e1, e2]; done) | (rw [e1, e2]; rfl) | (simp [e1, e2]; done)), E.out⟩

set_option maxHeartbeats 4000000 in
theorem small_ple (W : World) (x y n : Nat) (hx : (x : Int) ≤ 4294967295) (hy : (y : Int) ≤ 4294967295) (hn : Hid ((n : Int) ≤ 18446744073709551615)) (hy0 : Hid (0 < y)) (hlt : Hid (x < y)) (hev : Hid (n % 2 = 0)) :
    Calls Try.prog 5 #[.int .u32 (x : Int), .int .u32 (y : Int), .int .u64 (n : Int)] W fun e w' => e = .returned (.bool true) ∧ Ext W w' := by
  obtain ⟨p, hp⟩ : ∃ p, p = x * y := ⟨_, rfl⟩
  have hpI : (x : Int) * (y : Int) = (p : Int) := by rw [hp]; simp
  have hp9 : p ≤ 18446744065119617025 := by rw [hp]; exact Nat.mul_le_mul (show x ≤ 4294967295 by omega) (show y ≤ 4294967295 by omega)
  have HP := hid hp
  have HP9 := hid hp9
  clear hp hp9
  have hw : IntKind.u64.wrap (p : Int) = (p : Int) := by have := HP9.out; rw [IntKind.wrap_u64]; omega
  obtain ⟨q, hq⟩ : ∃ q, q = n / y := ⟨_, rfl⟩
  obtain ⟨r, hr⟩ : ∃ r, r = n % y := ⟨_, rfl⟩
  have hqI : (n : Int) / (y : Int) = (q : Int) := by rw [hq]; simp
  have hrI : (n : Int) % (y : Int) = (r : Int) := by rw [hr]; simp
  have HQ9 := hid (show q ≤ n by rw [hq]; exact Nat.div_le_self _ _)
  have HR9 := hid (show r ≤ n by rw [hr]; exact Nat.mod_le _ _)
  have HQ := hid hq
  have HR := hid hr
  clear hq hr
  have hyp : 0 < y := hy0.out
  have hwq : IntKind.u64.wrap (q : Int) = (q : Int) := by have := HQ9.out; have := hn.out; rw [IntKind.wrap_u64]; omega
  obtain ⟨d, hd⟩ : ∃ d, d = x - y := ⟨_, rfl⟩
  have hdI : max (x : Int) (y : Int) - (y : Int) = (d : Int) := by omega
  have hwd : IntKind.u64.wrap (d : Int) = (d : Int) := by rw [IntKind.wrap_u64]; omega
  have HD := hid hd
  have hd9 : (d : Int) ≤ 4294967295 := by omega
  clear hd
  have hl : x < y := hlt.out
  have he : ((n : Int) % 2 == 0) = true := by have := hev.out; simp; omega
  go_enter Try.func5, Try.ntmps5
  go_wp2_with fail
  refine (known_any _).mono ?_
  rintro e wn ⟨rfl, hb⟩
  have E := hid hb
  clear hb 
  go_wp2_with fail
  refine (of_n x (by omega) _).mono ?_
  rintro e wn ⟨vX, rfl, xx, hb⟩
  replace E := hid (E.out.trans hb)
  have X := hid xx
  clear hb xx
  go_wp2_with fail
  refine (of_n y (by omega) _).mono ?_
  rintro e wn ⟨vY, rfl, yx, hb⟩
  replace X := hid (X.out.up hb)
  replace E := hid (E.out.trans hb)
  have Y := hid yx
  clear hb yx
  go_wp2_with fail
  refine (of_n n hn.out _).mono ?_
  rintro e wn ⟨vN, rfl, nx, hb⟩
  replace X := hid (X.out.up hb)
  replace Y := hid (Y.out.up hb)
  replace E := hid (E.out.trans hb)
  have N := hid nx
  clear hb nx
  go_wp2_with fail
  refine (div_n N.out Y.out (by omega)).mono ?_
  rintro e wn ⟨vQ, vR, rfl, qx, rx, hb⟩
  replace X := hid (X.out.up hb)
  replace Y := hid (Y.out.up hb)
  replace N := hid (N.out.up hb)
  replace E := hid (E.out.trans hb)
  have Q := hid qx
  have R := hid rx
  clear hb qx rx
  go_wp2_with fail
  refine (of_n q (by have := HQ9.out; have := hn.out; omega) _).mono ?_
  rintro e wn ⟨vB, rfl, bx, hb⟩
  replace X := hid (X.out.up hb)
  replace Y := hid (Y.out.up hb)
  replace N := hid (N.out.up hb)
  replace Q := hid (Q.out.up hb)
  replace R := hid (R.out.up hb)
  replace E := hid (E.out.trans hb)
  have B := hid bx
  clear hb bx
  go_wp2_with fail
  refine (cmp_n Q.out B.out (z := 0) (M.cmp_zero.2 (HQ.out.symm))).mono ?_
  rintro e wn ⟨rfl, hb⟩
  replace X := hid (X.out.up hb)
  replace Y := hid (Y.out.up hb)
  replace N := hid (N.out.up hb)
  replace Q := hid (Q.out.up hb)
  replace R := hid (R.out.up hb)
  replace B := hid (B.out.up hb)
  replace E := hid (E.out.trans hb)
  clear hb 
  clear B
  go_wp2_with fail
  refine (of_n r (by have := HR9.out; have := hn.out; omega) _).mono ?_
  rintro e wn ⟨vB, rfl, bx, hb⟩
  replace X := hid (X.out.up hb)
  replace Y := hid (Y.out.up hb)
  replace N := hid (N.out.up hb)
  replace Q := hid (Q.out.up hb)
  replace R := hid (R.out.up hb)
  replace E := hid (E.out.trans hb)
  have B := hid bx
  clear hb bx
  go_wp2_with fail
  refine (cmp_n R.out B.out (z := 0) (M.cmp_zero.2 (HR.out.symm))).mono ?_
  rintro e wn ⟨rfl, hb⟩
  replace X := hid (X.out.up hb)
  replace Y := hid (Y.out.up hb)
  replace N := hid (N.out.up hb)
  replace Q := hid (Q.out.up hb)
  replace R := hid (R.out.up hb)
  replace B := hid (B.out.up hb)
  replace E := hid (E.out.trans hb)
  clear hb 
  clear B Q R
  go_wp2_with fail
  refine (add_n X.out Y.out (by omega) (by omega)).mono ?_
  rintro e wn ⟨vS, rfl, sx, hb⟩
  replace X := hid (X.out.up hb)
  replace Y := hid (Y.out.up hb)
  replace N := hid (N.out.up hb)
  replace E := hid (E.out.trans hb)
  have S := hid sx
  clear hb sx
  go_wp2_with fail
  refine (of_n (x + y) (by omega) _).mono ?_
  rintro e wn ⟨vB, rfl, bx, hb⟩
  replace X := hid (X.out.up hb)
  replace Y := hid (Y.out.up hb)
  replace N := hid (N.out.up hb)
  replace S := hid (S.out.up hb)
  replace E := hid (E.out.trans hb)
  have B := hid bx
  clear hb bx
  go_wp2_with fail
  refine (cmp_n S.out B.out (z := 0) (M.cmp_zero.2 (rfl))).mono ?_
  rintro e wn ⟨rfl, hb⟩
  replace X := hid (X.out.up hb)
  replace Y := hid (Y.out.up hb)
  replace N := hid (N.out.up hb)
  replace S := hid (S.out.up hb)
  replace B := hid (B.out.up hb)
  replace E := hid (E.out.trans hb)
  clear hb 
  clear S B
  go_wp2_with fail
  refine (mul_n X.out Y.out (by omega) (by omega) (by omega)).mono ?_
  rintro e wn ⟨vS, rfl, sx, hb⟩
  replace X := hid (X.out.up hb)
  replace Y := hid (Y.out.up hb)
  replace N := hid (N.out.up hb)
  replace E := hid (E.out.trans hb)
  have S := hid sx
  clear hb sx
  go_wp2_with fail
  refine (of_n p (by have := HP9.out; omega) _).mono ?_
  rintro e wn ⟨vB, rfl, bx, hb⟩
  replace X := hid (X.out.up hb)
  replace Y := hid (Y.out.up hb)
  replace N := hid (N.out.up hb)
  replace S := hid (S.out.up hb)
  replace E := hid (E.out.trans hb)
  have B := hid bx
  clear hb bx
  go_wp2_with fail
  refine (cmp_n S.out B.out (z := 0) (M.cmp_zero.2 (HP.out.symm))).mono ?_
  rintro e wn ⟨rfl, hb⟩
  replace X := hid (X.out.up hb)
  replace Y := hid (Y.out.up hb)
  replace N := hid (N.out.up hb)
  replace S := hid (S.out.up hb)
  replace B := hid (B.out.up hb)
  replace E := hid (E.out.trans hb)
  clear hb 
  clear S B
  go_wp2_with fail
  refine (sub_n X.out Y.out (by omega)).mono ?_
  rintro e wn ⟨vS, rfl, sx, hb⟩
  replace X := hid (X.out.up hb)
  replace Y := hid (Y.out.up hb)
  replace N := hid (N.out.up hb)
  replace E := hid (E.out.trans hb)
  have S := hid sx
  clear hb sx
  go_wp2_with fail
  refine (of_n d (by omega) _).mono ?_
  rintro e wn ⟨vB, rfl, bx, hb⟩
  replace X := hid (X.out.up hb)
  replace Y := hid (Y.out.up hb)
  replace N := hid (N.out.up hb)
  replace S := hid (S.out.up hb)
  replace E := hid (E.out.trans hb)
  have B := hid bx
  clear hb bx
  go_wp2_with fail
  refine (cmp_n S.out B.out (z := 0) (M.cmp_zero.2 (HD.out.symm))).mono ?_
  rintro e wn ⟨rfl, hb⟩
  replace X := hid (X.out.up hb)
  replace Y := hid (Y.out.up hb)
  replace N := hid (N.out.up hb)
  replace S := hid (S.out.up hb)
  replace B := hid (B.out.up hb)
  replace E := hid (E.out.trans hb)
  clear hb 
  clear S B
  go_wp2_with fail
  refine (of_n n hn.out _).mono ?_
  rintro e wn ⟨vB, rfl, bx, hb⟩
  replace X := hid (X.out.up hb)
  replace Y := hid (Y.out.up hb)
  replace N := hid (N.out.up hb)
  replace E := hid (E.out.trans hb)
  have B := hid bx
  clear hb bx
  go_wp2_with fail
  refine (even_n B.out (b := true) (by have := hev.out; simp; omega)).mono ?_
  rintro e wq ⟨rfl, rfl⟩
  clear B
  go_wp2_with fail
  refine (cmp_n X.out Y.out (z := -1) (M.cmp_lt hlt.out)).mono ?_
  rintro e wn ⟨rfl, hb⟩
  replace X := hid (X.out.up hb)
  replace Y := hid (Y.out.up hb)
  replace N := hid (N.out.up hb)
  replace E := hid (E.out.trans hb)
  clear hb 
  go_wp2
  go_ret
  exact ⟨ret_bool (by simp), E.out⟩

set_option maxHeartbeats 4000000 in
theorem small_plo (W : World) (x y n : Nat) (hx : (x : Int) ≤ 4294967295) (hy : (y : Int) ≤ 4294967295) (hn : Hid ((n : Int) ≤ 18446744073709551615)) (hy0 : Hid (0 < y)) (hlt : Hid (x < y)) (hev : Hid (n % 2 = 1)) :
    Calls Try.prog 5 #[.int .u32 (x : Int), .int .u32 (y : Int), .int .u64 (n : Int)] W fun e w' => e = .returned (.bool true) ∧ Ext W w' := by
  obtain ⟨p, hp⟩ : ∃ p, p = x * y := ⟨_, rfl⟩
  have hpI : (x : Int) * (y : Int) = (p : Int) := by rw [hp]; simp
  have hp9 : p ≤ 18446744065119617025 := by rw [hp]; exact Nat.mul_le_mul (show x ≤ 4294967295 by omega) (show y ≤ 4294967295 by omega)
  have HP := hid hp
  have HP9 := hid hp9
  clear hp hp9
  have hw : IntKind.u64.wrap (p : Int) = (p : Int) := by have := HP9.out; rw [IntKind.wrap_u64]; omega
  obtain ⟨q, hq⟩ : ∃ q, q = n / y := ⟨_, rfl⟩
  obtain ⟨r, hr⟩ : ∃ r, r = n % y := ⟨_, rfl⟩
  have hqI : (n : Int) / (y : Int) = (q : Int) := by rw [hq]; simp
  have hrI : (n : Int) % (y : Int) = (r : Int) := by rw [hr]; simp
  have HQ9 := hid (show q ≤ n by rw [hq]; exact Nat.div_le_self _ _)
  have HR9 := hid (show r ≤ n by rw [hr]; exact Nat.mod_le _ _)
  have HQ := hid hq
  have HR := hid hr
  clear hq hr
  have hyp : 0 < y := hy0.out
  have hwq : IntKind.u64.wrap (q : Int) = (q : Int) := by have := HQ9.out; have := hn.out; rw [IntKind.wrap_u64]; omega
  obtain ⟨d, hd⟩ : ∃ d, d = x - y := ⟨_, rfl⟩
  have hdI : max (x : Int) (y : Int) - (y : Int) = (d : Int) := by omega
  have hwd : IntKind.u64.wrap (d : Int) = (d : Int) := by rw [IntKind.wrap_u64]; omega
  have HD := hid hd
  have hd9 : (d : Int) ≤ 4294967295 := by omega
  clear hd
  have hl : x < y := hlt.out
  have he : ((n : Int) % 2 == 0) = false := by have := hev.out; simp; omega
  go_enter Try.func5, Try.ntmps5
  go_wp2_with fail
  refine (known_any _).mono ?_
  rintro e wn ⟨rfl, hb⟩
  have E := hid hb
  clear hb 
  go_wp2_with fail
  refine (of_n x (by omega) _).mono ?_
  rintro e wn ⟨vX, rfl, xx, hb⟩
  replace E := hid (E.out.trans hb)
  have X := hid xx
  clear hb xx
  go_wp2_with fail
  refine (of_n y (by omega) _).mono ?_
  rintro e wn ⟨vY, rfl, yx, hb⟩
  replace X := hid (X.out.up hb)
  replace E := hid (E.out.trans hb)
  have Y := hid yx
  clear hb yx
  go_wp2_with fail
  refine (of_n n hn.out _).mono ?_
  rintro e wn ⟨vN, rfl, nx, hb⟩
  replace X := hid (X.out.up hb)
  replace Y := hid (Y.out.up hb)
  replace E := hid (E.out.trans hb)
  have N := hid nx
  clear hb nx
  go_wp2_with fail
  refine (div_n N.out Y.out (by omega)).mono ?_
  rintro e wn ⟨vQ, vR, rfl, qx, rx, hb⟩
  replace X := hid (X.out.up hb)
  replace Y := hid (Y.out.up hb)
  replace N := hid (N.out.up hb)
  replace E := hid (E.out.trans hb)
  have Q := hid qx
  have R := hid rx
  clear hb qx rx
  go_wp2_with fail
  refine (of_n q (by have := HQ9.out; have := hn.out; omega) _).mono ?_
  rintro e wn ⟨vB, rfl, bx, hb⟩
  replace X := hid (X.out.up hb)
  replace Y := hid (Y.out.up hb)
  replace N := hid (N.out.up hb)
  replace Q := hid (Q.out.up hb)
  replace R := hid (R.out.up hb)
  replace E := hid (E.out.trans hb)
  have B := hid bx
  clear hb bx
  go_wp2_with fail
  refine (cmp_n Q.out B.out (z := 0) (M.cmp_zero.2 (HQ.out.symm))).mono ?_
  rintro e wn ⟨rfl, hb⟩
  replace X := hid (X.out.up hb)
  replace Y := hid (Y.out.up hb)
  replace N := hid (N.out.up hb)
  replace Q := hid (Q.out.up hb)
  replace R := hid (R.out.up hb)
  replace B := hid (B.out.up hb)
  replace E := hid (E.out.trans hb)
  clear hb 
  clear B
  go_wp2_with fail
  refine (of_n r (by have := HR9.out; have := hn.out; omega) _).mono ?_
  rintro e wn ⟨vB, rfl, bx, hb⟩
  replace X := hid (X.out.up hb)
  replace Y := hid (Y.out.up hb)
  replace N := hid (N.out.up hb)
  replace Q := hid (Q.out.up hb)
  replace R := hid (R.out.up hb)
  replace E := hid (E.out.trans hb)
  have B := hid bx
  clear hb bx
  go_wp2_with fail
  refine (cmp_n R.out B.out (z := 0) (M.cmp_zero.2 (HR.out.symm))).mono ?_
  rintro e wn ⟨rfl, hb⟩
  replace X := hid (X.out.up hb)
  replace Y := hid (Y.out.up hb)
  replace N := hid (N.out.up hb)
  replace Q := hid (Q.out.up hb)
  replace R := hid (R.out.up hb)
  replace B := hid (B.out.up hb)
  replace E := hid (E.out.trans hb)
  clear hb 
  clear B Q R
  go_wp2_with fail
  refine (add_n X.out Y.out (by omega) (by omega)).mono ?_
  rintro e wn ⟨vS, rfl, sx, hb⟩
  replace X := hid (X.out.up hb)
  replace Y := hid (Y.out.up hb)
  replace N := hid (N.out.up hb)
  replace E := hid (E.out.trans hb)
  have S := hid sx
  clear hb sx
  go_wp2_with fail
  refine (of_n (x + y) (by omega) _).mono ?_
  rintro e wn ⟨vB, rfl, bx, hb⟩
  replace X := hid (X.out.up hb)
  replace Y := hid (Y.out.up hb)
  replace N := hid (N.out.up hb)
  replace S := hid (S.out.up hb)
  replace E := hid (E.out.trans hb)
  have B := hid bx
  clear hb bx
  go_wp2_with fail
  refine (cmp_n S.out B.out (z := 0) (M.cmp_zero.2 (rfl))).mono ?_
  rintro e wn ⟨rfl, hb⟩
  replace X := hid (X.out.up hb)
  replace Y := hid (Y.out.up hb)
  replace N := hid (N.out.up hb)
  replace S := hid (S.out.up hb)
  replace B := hid (B.out.up hb)
  replace E := hid (E.out.trans hb)
  clear hb 
  clear S B
  go_wp2_with fail
  refine (mul_n X.out Y.out (by omega) (by omega) (by omega)).mono ?_
  rintro e wn ⟨vS, rfl, sx, hb⟩
  replace X := hid (X.out.up hb)
  replace Y := hid (Y.out.up hb)
  replace N := hid (N.out.up hb)
  replace E := hid (E.out.trans hb)
  have S := hid sx
  clear hb sx
  go_wp2_with fail
  refine (of_n p (by have := HP9.out; omega) _).mono ?_
  rintro e wn ⟨vB, rfl, bx, hb⟩
  replace X := hid (X.out.up hb)
  replace Y := hid (Y.out.up hb)
  replace N := hid (N.out.up hb)
  replace S := hid (S.out.up hb)
  replace E := hid (E.out.trans hb)
  have B := hid bx
  clear hb bx
  go_wp2_with fail
  refine (cmp_n S.out B.out (z := 0) (M.cmp_zero.2 (HP.out.symm))).mono ?_
  rintro e wn ⟨rfl, hb⟩
  replace X := hid (X.out.up hb)
  replace Y := hid (Y.out.up hb)
  replace N := hid (N.out.up hb)
  replace S := hid (S.out.up hb)
  replace B := hid (B.out.up hb)
  replace E := hid (E.out.trans hb)
  clear hb 
  clear S B
  go_wp2_with fail
  refine (sub_n X.out Y.out (by omega)).mono ?_
  rintro e wn ⟨vS, rfl, sx, hb⟩
  replace X := hid (X.out.up hb)
  replace Y := hid (Y.out.up hb)
  replace N := hid (N.out.up hb)
  replace E := hid (E.out.trans hb)
  have S := hid sx
  clear hb sx
  go_wp2_with fail
  refine (of_n d (by omega) _).mono ?_
  rintro e wn ⟨vB, rfl, bx, hb⟩
  replace X := hid (X.out.up hb)
  replace Y := hid (Y.out.up hb)
  replace N := hid (N.out.up hb)
  replace S := hid (S.out.up hb)
  replace E := hid (E.out.trans hb)
  have B := hid bx
  clear hb bx
  go_wp2_with fail
  refine (cmp_n S.out B.out (z := 0) (M.cmp_zero.2 (HD.out.symm))).mono ?_
  rintro e wn ⟨rfl, hb⟩
  replace X := hid (X.out.up hb)
  replace Y := hid (Y.out.up hb)
  replace N := hid (N.out.up hb)
  replace S := hid (S.out.up hb)
  replace B := hid (B.out.up hb)
  replace E := hid (E.out.trans hb)
  clear hb 
  clear S B
  go_wp2_with fail
  refine (of_n n hn.out _).mono ?_
  rintro e wn ⟨vB, rfl, bx, hb⟩
  replace X := hid (X.out.up hb)
  replace Y := hid (Y.out.up hb)
  replace N := hid (N.out.up hb)
  replace E := hid (E.out.trans hb)
  have B := hid bx
  clear hb bx
  go_wp2_with fail
  refine (even_n B.out (b := false) (by have := hev.out; simp; omega)).mono ?_
  rintro e wq ⟨rfl, rfl⟩
  clear B
  go_wp2_with fail
  refine (cmp_n X.out Y.out (z := -1) (M.cmp_lt hlt.out)).mono ?_
  rintro e wn ⟨rfl, hb⟩
  replace X := hid (X.out.up hb)
  replace Y := hid (Y.out.up hb)
  replace N := hid (N.out.up hb)
  replace E := hid (E.out.trans hb)
  clear hb 
  go_wp2
  go_ret
  exact ⟨ret_bool (by simp), E.out⟩

set_option maxHeartbeats 4000000 in
theorem small_pge (W : World) (x y n : Nat) (hx : (x : Int) ≤ 4294967295) (hy : (y : Int) ≤ 4294967295) (hn : Hid ((n : Int) ≤ 18446744073709551615)) (hy0 : Hid (0 < y)) (hlt : Hid (y ≤ x)) (hev : Hid (n % 2 = 0)) :
    Calls Try.prog 5 #[.int .u32 (x : Int), .int .u32 (y : Int), .int .u64 (n : Int)] W fun e w' => e = .returned (.bool true) ∧ Ext W w' := by
  obtain ⟨p, hp⟩ : ∃ p, p = x * y := ⟨_, rfl⟩
  have hpI : (x : Int) * (y : Int) = (p : Int) := by rw [hp]; simp
  have hp9 : p ≤ 18446744065119617025 := by rw [hp]; exact Nat.mul_le_mul (show x ≤ 4294967295 by omega) (show y ≤ 4294967295 by omega)
  have HP := hid hp
  have HP9 := hid hp9
  clear hp hp9
  have hw : IntKind.u64.wrap (p : Int) = (p : Int) := by have := HP9.out; rw [IntKind.wrap_u64]; omega
  obtain ⟨q, hq⟩ : ∃ q, q = n / y := ⟨_, rfl⟩
  obtain ⟨r, hr⟩ : ∃ r, r = n % y := ⟨_, rfl⟩
  have hqI : (n : Int) / (y : Int) = (q : Int) := by rw [hq]; simp
  have hrI : (n : Int) % (y : Int) = (r : Int) := by rw [hr]; simp
  have HQ9 := hid (show q ≤ n by rw [hq]; exact Nat.div_le_self _ _)
  have HR9 := hid (show r ≤ n by rw [hr]; exact Nat.mod_le _ _)
  have HQ := hid hq
  have HR := hid hr
  clear hq hr
  have hyp : 0 < y := hy0.out
  have hwq : IntKind.u64.wrap (q : Int) = (q : Int) := by have := HQ9.out; have := hn.out; rw [IntKind.wrap_u64]; omega
  obtain ⟨d, hd⟩ : ∃ d, d = x - y := ⟨_, rfl⟩
  have hdI : max (x : Int) (y : Int) - (y : Int) = (d : Int) := by omega
  have hwd : IntKind.u64.wrap (d : Int) = (d : Int) := by rw [IntKind.wrap_u64]; omega
  have HD := hid hd
  have hd9 : (d : Int) ≤ 4294967295 := by omega
  clear hd
  have hl : ¬ x < y := by have := hlt.out; omega
  have hl2 : decide (x < y) = false := by simpa using hl
  have he : ((n : Int) % 2 == 0) = true := by have := hev.out; simp; omega
  go_enter Try.func5, Try.ntmps5
  go_wp2_with fail
  refine (known_any _).mono ?_
  rintro e wn ⟨rfl, hb⟩
  have E := hid hb
  clear hb 
  go_wp2_with fail
  refine (of_n x (by omega) _).mono ?_
  rintro e wn ⟨vX, rfl, xx, hb⟩
  replace E := hid (E.out.trans hb)
  have X := hid xx
  clear hb xx
  go_wp2_with fail
  refine (of_n y (by omega) _).mono ?_
  rintro e wn ⟨vY, rfl, yx, hb⟩
  replace X := hid (X.out.up hb)
  replace E := hid (E.out.trans hb)
  have Y := hid yx
  clear hb yx
  go_wp2_with fail
  refine (of_n n hn.out _).mono ?_
  rintro e wn ⟨vN, rfl, nx, hb⟩
  replace X := hid (X.out.up hb)
  replace Y := hid (Y.out.up hb)
  replace E := hid (E.out.trans hb)
  have N := hid nx
  clear hb nx
  go_wp2_with fail
  refine (div_n N.out Y.out (by omega)).mono ?_
  rintro e wn ⟨vQ, vR, rfl, qx, rx, hb⟩
  replace X := hid (X.out.up hb)
  replace Y := hid (Y.out.up hb)
  replace N := hid (N.out.up hb)
  replace E := hid (E.out.trans hb)
  have Q := hid qx
  have R := hid rx
  clear hb qx rx
  go_wp2_with fail
  refine (of_n q (by have := HQ9.out; have := hn.out; omega) _).mono ?_
  rintro e wn ⟨vB, rfl, bx, hb⟩
  replace X := hid (X.out.up hb)
  replace Y := hid (Y.out.up hb)
  replace N := hid (N.out.up hb)
  replace Q := hid (Q.out.up hb)
  replace R := hid (R.out.up hb)
  replace E := hid (E.out.trans hb)
  have B := hid bx
  clear hb bx
  go_wp2_with fail
  refine (cmp_n Q.out B.out (z := 0) (M.cmp_zero.2 (HQ.out.symm))).mono ?_
  rintro e wn ⟨rfl, hb⟩
  replace X := hid (X.out.up hb)
  replace Y := hid (Y.out.up hb)
  replace N := hid (N.out.up hb)
  replace Q := hid (Q.out.up hb)
  replace R := hid (R.out.up hb)
  replace B := hid (B.out.up hb)
  replace E := hid (E.out.trans hb)
  clear hb 
  clear B
  go_wp2_with fail
  refine (of_n r (by have := HR9.out; have := hn.out; omega) _).mono ?_
  rintro e wn ⟨vB, rfl, bx, hb⟩
  replace X := hid (X.out.up hb)
  replace Y := hid (Y.out.up hb)
  replace N := hid (N.out.up hb)
  replace Q := hid (Q.out.up hb)
  replace R := hid (R.out.up hb)
  replace E := hid (E.out.trans hb)
  have B := hid bx
  clear hb bx
  go_wp2_with fail
  refine (cmp_n R.out B.out (z := 0) (M.cmp_zero.2 (HR.out.symm))).mono ?_
  rintro e wn ⟨rfl, hb⟩
  replace X := hid (X.out.up hb)
  replace Y := hid (Y.out.up hb)
  replace N := hid (N.out.up hb)
  replace Q := hid (Q.out.up hb)
  replace R := hid (R.out.up hb)
  replace B := hid (B.out.up hb)
  replace E := hid (E.out.trans hb)
  clear hb 
  clear B Q R
  go_wp2_with fail
  refine (add_n X.out Y.out (by omega) (by omega)).mono ?_
  rintro e wn ⟨vS, rfl, sx, hb⟩
  replace X := hid (X.out.up hb)
  replace Y := hid (Y.out.up hb)
  replace N := hid (N.out.up hb)
  replace E := hid (E.out.trans hb)
  have S := hid sx
  clear hb sx
  go_wp2_with fail
  refine (of_n (x + y) (by omega) _).mono ?_
  rintro e wn ⟨vB, rfl, bx, hb⟩
  replace X := hid (X.out.up hb)
  replace Y := hid (Y.out.up hb)
  replace N := hid (N.out.up hb)
  replace S := hid (S.out.up hb)
  replace E := hid (E.out.trans hb)
  have B := hid bx
  clear hb bx
  go_wp2_with fail
  refine (cmp_n S.out B.out (z := 0) (M.cmp_zero.2 (rfl))).mono ?_
  rintro e wn ⟨rfl, hb⟩
  replace X := hid (X.out.up hb)
  replace Y := hid (Y.out.up hb)
  replace N := hid (N.out.up hb)
  replace S := hid (S.out.up hb)
  replace B := hid (B.out.up hb)
  replace E := hid (E.out.trans hb)
  clear hb 
  clear S B
  go_wp2_with fail
  refine (mul_n X.out Y.out (by omega) (by omega) (by omega)).mono ?_
  rintro e wn ⟨vS, rfl, sx, hb⟩
  replace X := hid (X.out.up hb)
  replace Y := hid (Y.out.up hb)
  replace N := hid (N.out.up hb)
  replace E := hid (E.out.trans hb)
  have S := hid sx
  clear hb sx
  go_wp2_with fail
  refine (of_n p (by have := HP9.out; omega) _).mono ?_
  rintro e wn ⟨vB, rfl, bx, hb⟩
  replace X := hid (X.out.up hb)
  replace Y := hid (Y.out.up hb)
  replace N := hid (N.out.up hb)
  replace S := hid (S.out.up hb)
  replace E := hid (E.out.trans hb)
  have B := hid bx
  clear hb bx
  go_wp2_with fail
  refine (cmp_n S.out B.out (z := 0) (M.cmp_zero.2 (HP.out.symm))).mono ?_
  rintro e wn ⟨rfl, hb⟩
  replace X := hid (X.out.up hb)
  replace Y := hid (Y.out.up hb)
  replace N := hid (N.out.up hb)
  replace S := hid (S.out.up hb)
  replace B := hid (B.out.up hb)
  replace E := hid (E.out.trans hb)
  clear hb 
  clear S B
  go_wp2_with fail
  refine (sub_n X.out Y.out (by omega)).mono ?_
  rintro e wn ⟨vS, rfl, sx, hb⟩
  replace X := hid (X.out.up hb)
  replace Y := hid (Y.out.up hb)
  replace N := hid (N.out.up hb)
  replace E := hid (E.out.trans hb)
  have S := hid sx
  clear hb sx
  go_wp2_with fail
  refine (of_n d (by omega) _).mono ?_
  rintro e wn ⟨vB, rfl, bx, hb⟩
  replace X := hid (X.out.up hb)
  replace Y := hid (Y.out.up hb)
  replace N := hid (N.out.up hb)
  replace S := hid (S.out.up hb)
  replace E := hid (E.out.trans hb)
  have B := hid bx
  clear hb bx
  go_wp2_with fail
  refine (cmp_n S.out B.out (z := 0) (M.cmp_zero.2 (HD.out.symm))).mono ?_
  rintro e wn ⟨rfl, hb⟩
  replace X := hid (X.out.up hb)
  replace Y := hid (Y.out.up hb)
  replace N := hid (N.out.up hb)
  replace S := hid (S.out.up hb)
  replace B := hid (B.out.up hb)
  replace E := hid (E.out.trans hb)
  clear hb 
  clear S B
  go_wp2_with fail
  refine (of_n n hn.out _).mono ?_
  rintro e wn ⟨vB, rfl, bx, hb⟩
  replace X := hid (X.out.up hb)
  replace Y := hid (Y.out.up hb)
  replace N := hid (N.out.up hb)
  replace E := hid (E.out.trans hb)
  have B := hid bx
  clear hb bx
  go_wp2_with fail
  refine (even_n B.out (b := true) (by have := hev.out; simp; omega)).mono ?_
  rintro e wq ⟨rfl, rfl⟩
  clear B
  obtain ⟨z, hz⟩ : ∃ z, M.cmp x y = z := ⟨_, rfl⟩
  have hz0 : 0 ≤ z := by rw [← hz]; exact M.cmp_nonneg hlt.out
  have HZ := hid hz
  clear hz
  go_wp2_with fail
  refine (cmp_n X.out Y.out (z := z) HZ.out).mono ?_
  rintro e wn ⟨rfl, hb⟩
  replace X := hid (X.out.up hb)
  replace Y := hid (Y.out.up hb)
  replace N := hid (N.out.up hb)
  replace E := hid (E.out.trans hb)
  clear hb 
  have e1 : decide (z < 0) = false := by simp; all_goals omega
  go_wp2
  go_ret
  exact ⟨ret_bool (by first | rfl | (simp only [e1, hl2]; done) | (rw [e1, hl2]; rfl) | (simp [e1, hl2]; done)), E.out⟩

set_option maxHeartbeats 4000000 in
theorem small_pgo (W : World) (x y n : Nat) (hx : (x : Int) ≤ 4294967295) (hy : (y : Int) ≤ 4294967295) (hn : Hid ((n : Int) ≤ 18446744073709551615)) (hy0 : Hid (0 < y)) (hlt : Hid (y ≤ x)) (hev : Hid (n % 2 = 1)) :
    Calls Try.prog 5 #[.int .u32 (x : Int), .int .u32 (y : Int), .int .u64 (n : Int)] W fun e w' => e = .returned (.bool true) ∧ Ext W w' := by
  obtain ⟨p, hp⟩ : ∃ p, p = x * y := ⟨_, rfl⟩
  have hpI : (x : Int) * (y : Int) = (p : Int) := by rw [hp]; simp
  have hp9 : p ≤ 18446744065119617025 := by rw [hp]; exact Nat.mul_le_mul (show x ≤ 4294967295 by omega) (show y ≤ 4294967295 by omega)
  have HP := hid hp
  have HP9 := hid hp9
  clear hp hp9
  have hw : IntKind.u64.wrap (p : Int) = (p : Int) := by have := HP9.out; rw [IntKind.wrap_u64]; omega
  obtain ⟨q, hq⟩ : ∃ q, q = n / y := ⟨_, rfl⟩
  obtain ⟨r, hr⟩ : ∃ r, r = n % y := ⟨_, rfl⟩
  have hqI : (n : Int) / (y : Int) = (q : Int) := by rw [hq]; simp
  have hrI : (n : Int) % (y : Int) = (r : Int) := by rw [hr]; simp
  have HQ9 := hid (show q ≤ n by rw [hq]; exact Nat.div_le_self _ _)
  have HR9 := hid (show r ≤ n by rw [hr]; exact Nat.mod_le _ _)
  have HQ := hid hq
  have HR := hid hr
  clear hq hr
  have hyp : 0 < y := hy0.out
  have hwq : IntKind.u64.wrap (q : Int) = (q : Int) := by have := HQ9.out; have := hn.out; rw [IntKind.wrap_u64]; omega
  obtain ⟨d, hd⟩ : ∃ d, d = x - y := ⟨_, rfl⟩
  have hdI : max (x : Int) (y : Int) - (y : Int) = (d : Int) := by omega
  have hwd : IntKind.u64.wrap (d : Int) = (d : Int) := by rw [IntKind.wrap_u64]; omega
  have HD := hid hd
  have hd9 : (d : Int) ≤ 4294967295 := by omega
  clear hd
  have hl : ¬ x < y := by have := hlt.out; omega
  have hl2 : decide (x < y) = false := by simpa using hl
  have he : ((n : Int) % 2 == 0) = false := by have := hev.out; simp; omega
  go_enter Try.func5, Try.ntmps5
  go_wp2_with fail
  refine (known_any _).mono ?_
  rintro e wn ⟨rfl, hb⟩
  have E := hid hb
  clear hb 
  go_wp2_with fail
  refine (of_n x (by omega) _).mono ?_
  rintro e wn ⟨vX, rfl, xx, hb⟩
  replace E := hid (E.out.trans hb)
  have X := hid xx
  clear hb xx
  go_wp2_with fail
  refine (of_n y (by omega) _).mono ?_
  rintro e wn ⟨vY, rfl, yx, hb⟩
  replace X := hid (X.out.up hb)
  replace E := hid (E.out.trans hb)
  have Y := hid yx
  clear hb yx
  go_wp2_with fail
  refine (of_n n hn.out _).mono ?_
  rintro e wn ⟨vN, rfl, nx, hb⟩
  replace X := hid (X.out.up hb)
  replace Y := hid (Y.out.up hb)
  replace E := hid (E.out.trans hb)
  have N := hid nx
  clear hb nx
  go_wp2_with fail
  refine (div_n N.out Y.out (by omega)).mono ?_
  rintro e wn ⟨vQ, vR, rfl, qx, rx, hb⟩
  replace X := hid (X.out.up hb)
  replace Y := hid (Y.out.up hb)
  replace N := hid (N.out.up hb)
  replace E := hid (E.out.trans hb)
  have Q := hid qx
  have R := hid rx
  clear hb qx rx
  go_wp2_with fail
  refine (of_n q (by have := HQ9.out; have := hn.out; omega) _).mono ?_
  rintro e wn ⟨vB, rfl, bx, hb⟩
  replace X := hid (X.out.up hb)
  replace Y := hid (Y.out.up hb)
  replace N := hid (N.out.up hb)
  replace Q := hid (Q.out.up hb)
  replace R := hid (R.out.up hb)
  replace E := hid (E.out.trans hb)
  have B := hid bx
  clear hb bx
  go_wp2_with fail
  refine (cmp_n Q.out B.out (z := 0) (M.cmp_zero.2 (HQ.out.symm))).mono ?_
  rintro e wn ⟨rfl, hb⟩
  replace X := hid (X.out.up hb)
  replace Y := hid (Y.out.up hb)
  replace N := hid (N.out.up hb)
  replace Q := hid (Q.out.up hb)
  replace R := hid (R.out.up hb)
  replace B := hid (B.out.up hb)
  replace E := hid (E.out.trans hb)
  clear hb 
  clear B
  go_wp2_with fail
  refine (of_n r (by have := HR9.out; have := hn.out; omega) _).mono ?_
  rintro e wn ⟨vB, rfl, bx, hb⟩
  replace X := hid (X.out.up hb)
  replace Y := hid (Y.out.up hb)
  replace N := hid (N.out.up hb)
  replace Q := hid (Q.out.up hb)
  replace R := hid (R.out.up hb)
  replace E := hid (E.out.trans hb)
  have B := hid bx
  clear hb bx
  go_wp2_with fail
  refine (cmp_n R.out B.out (z := 0) (M.cmp_zero.2 (HR.out.symm))).mono ?_
  rintro e wn ⟨rfl, hb⟩
  replace X := hid (X.out.up hb)
  replace Y := hid (Y.out.up hb)
  replace N := hid (N.out.up hb)
  replace Q := hid (Q.out.up hb)
  replace R := hid (R.out.up hb)
  replace B := hid (B.out.up hb)
  replace E := hid (E.out.trans hb)
  clear hb 
  clear B Q R
  go_wp2_with fail
  refine (add_n X.out Y.out (by omega) (by omega)).mono ?_
  rintro e wn ⟨vS, rfl, sx, hb⟩
  replace X := hid (X.out.up hb)
  replace Y := hid (Y.out.up hb)
  replace N := hid (N.out.up hb)
  replace E := hid (E.out.trans hb)
  have S := hid sx
  clear hb sx
  go_wp2_with fail
  refine (of_n (x + y) (by omega) _).mono ?_
  rintro e wn ⟨vB, rfl, bx, hb⟩
  replace X := hid (X.out.up hb)
  replace Y := hid (Y.out.up hb)
  replace N := hid (N.out.up hb)
  replace S := hid (S.out.up hb)
  replace E := hid (E.out.trans hb)
  have B := hid bx
  clear hb bx
  go_wp2_with fail
  refine (cmp_n S.out B.out (z := 0) (M.cmp_zero.2 (rfl))).mono ?_
  rintro e wn ⟨rfl, hb⟩
  replace X := hid (X.out.up hb)
  replace Y := hid (Y.out.up hb)
  replace N := hid (N.out.up hb)
  replace S := hid (S.out.up hb)
  replace B := hid (B.out.up hb)
  replace E := hid (E.out.trans hb)
  clear hb 
  clear S B
  go_wp2_with fail
  refine (mul_n X.out Y.out (by omega) (by omega) (by omega)).mono ?_
  rintro e wn ⟨vS, rfl, sx, hb⟩
  replace X := hid (X.out.up hb)
  replace Y := hid (Y.out.up hb)
  replace N := hid (N.out.up hb)
  replace E := hid (E.out.trans hb)
  have S := hid sx
  clear hb sx
  go_wp2_with fail
  refine (of_n p (by have := HP9.out; omega) _).mono ?_
  rintro e wn ⟨vB, rfl, bx, hb⟩
  replace X := hid (X.out.up hb)
  replace Y := hid (Y.out.up hb)
  replace N := hid (N.out.up hb)
  replace S := hid (S.out.up hb)
  replace E := hid (E.out.trans hb)
  have B := hid bx
  clear hb bx
  go_wp2_with fail
  refine (cmp_n S.out B.out (z := 0) (M.cmp_zero.2 (HP.out.symm))).mono ?_
  rintro e wn ⟨rfl, hb⟩
  replace X := hid (X.out.up hb)
  replace Y := hid (Y.out.up hb)
  replace N := hid (N.out.up hb)
  replace S := hid (S.out.up hb)
  replace B := hid (B.out.up hb)
  replace E := hid (E.out.trans hb)
  clear hb 
  clear S B
  go_wp2_with fail
  refine (sub_n X.out Y.out (by omega)).mono ?_
  rintro e wn ⟨vS, rfl, sx, hb⟩
  replace X := hid (X.out.up hb)
  replace Y := hid (Y.out.up hb)
  replace N := hid (N.out.up hb)
  replace E := hid (E.out.trans hb)
  have S := hid sx
  clear hb sx
  go_wp2_with fail
  refine (of_n d (by omega) _).mono ?_
  rintro e wn ⟨vB, rfl, bx, hb⟩
  replace X := hid (X.out.up hb)
  replace Y := hid (Y.out.up hb)
  replace N := hid (N.out.up hb)
  replace S := hid (S.out.up hb)
  replace E := hid (E.out.trans hb)
  have B := hid bx
  clear hb bx
  go_wp2_with fail
  refine (cmp_n S.out B.out (z := 0) (M.cmp_zero.2 (HD.out.symm))).mono ?_
  rintro e wn ⟨rfl, hb⟩
  replace X := hid (X.out.up hb)
  replace Y := hid (Y.out.up hb)
  replace N := hid (N.out.up hb)
  replace S := hid (S.out.up hb)
  replace B := hid (B.out.up hb)
  replace E := hid (E.out.trans hb)
  clear hb 
  clear S B
  go_wp2_with fail
  refine (of_n n hn.out _).mono ?_
  rintro e wn ⟨vB, rfl, bx, hb⟩
  replace X := hid (X.out.up hb)
  replace Y := hid (Y.out.up hb)
  replace N := hid (N.out.up hb)
  replace E := hid (E.out.trans hb)
  have B := hid bx
  clear hb bx
  go_wp2_with fail
  refine (even_n B.out (b := false) (by have := hev.out; simp; omega)).mono ?_
  rintro e wq ⟨rfl, rfl⟩
  clear B
  obtain ⟨z, hz⟩ : ∃ z, M.cmp x y = z := ⟨_, rfl⟩
  have hz0 : 0 ≤ z := by rw [← hz]; exact M.cmp_nonneg hlt.out
  have HZ := hid hz
  clear hz
  go_wp2_with fail
  refine (cmp_n X.out Y.out (z := z) HZ.out).mono ?_
  rintro e wn ⟨rfl, hb⟩
  replace X := hid (X.out.up hb)
  replace Y := hid (Y.out.up hb)
  replace N := hid (N.out.up hb)
  replace E := hid (E.out.trans hb)
  clear hb 
  have e1 : decide (z < 0) = false := by simp; all_goals omega
  go_wp2
  go_ret
  exact ⟨ret_bool (by first | rfl | (simp only [e1, hl2]; done) | (rw [e1, hl2]; rfl) | (simp [e1, hl2]; done)), E.out⟩

theorem natSmall_walk (W : World) (a0 : Int) (w0 : (Lit.int .u32 a0).wf = true) (a1 : Int) (w1 : (Lit.int .u32 a1).wf = true) (a2 : Int) (w2 : (Lit.int .u64 a2).wf = true) :
    Calls Try.prog 5 #[.int .u32 a0, .int .u32 a1, .int .u64 a2] W fun e w' => e = .returned (.bool true) ∧ Ext W w' := by
  have h0 := u32_of_wf w0
  have h1 := u32_of_wf w1
  have h2 : 0 ≤ a2 ∧ a2 ≤ 18446744073709551615 := by simpa [Lit.wf, IntKind.min, IntKind.max, IntKind.signed, IntKind.bits] using w2
  obtain ⟨x, rfl⟩ := Int.eq_ofNat_of_zero_le h0.1
  obtain ⟨y, rfl⟩ := Int.eq_ofNat_of_zero_le h1.1
  obtain ⟨n, rfl⟩ := Int.eq_ofNat_of_zero_le h2.1
  have hx : (x : Int) ≤ 4294967295 := by omega
  have hy : (y : Int) ≤ 4294967295 := by omega
  rcases (by omega : n % 2 = 0 ∨ n % 2 = 1) with he | he
  · rcases (by omega : y = 0 ∨ (0 < y ∧ x < y) ∨ (0 < y ∧ y ≤ x)) with h | h | h
    · exact small_zge W x y n hx hy h2.2 h (show y ≤ x by omega) he
    · exact small_ple W x y n hx hy h2.2 h.1 h.2 he
    · exact small_pge W x y n hx hy h2.2 h.1 h.2 he
  · rcases (by omega : y = 0 ∨ (0 < y ∧ x < y) ∨ (0 < y ∧ y ≤ x)) with h | h | h
    · exact small_zgo W x y n hx hy h2.2 h (show y ≤ x by omega) he
    · exact small_plo W x y n hx hy h2.2 h.1 h.2 he
    · exact small_pgo W x y n hx hy h2.2 h.1 h.2 he

set_option maxRecDepth 100000 in
theorem natSmall_lifted (os : Os) (started : os.Started) (H : Type) (enc : TypeId × Value → H) :
    ReturnsInHanded {} Try.checked os 5 .any (Rows.natSmallSpec.pre6 enc Try.prog Try.f5 Rows.natSmallRow.domain false) (Rows.natSmallSpec.post enc Try.prog Try.f5 false true false false) := by
  refine returnsInHanded_of_change (C := Try.checked) own started (by kernel_rfl) Try.func5
    (ChangeSpec.witness6 (enc := enc) (C := Try.checked) false ⟨#[], #[.int .u32 0, .int .u32 0, .int .u64 0], []⟩ 8 (by kernel_rfl) (by kernel_rfl) (by kernel_rfl) (by kernel_rfl)) ?_
  intro W base args ds gs before hval0 hW _ _
  have hval : ∀ (j : Nat) t v, Try.f5.params[j]? = some t → args[j]? = some v → Value.okWide Try.prog W .any base t v := hval0
  have hW' := hW
  obtain ⟨p, q, hA0, hV, rfl, hfz, hnd⟩ := hW
  have hA : DataW.TrodAll enc Try.prog W 0 (fun _ => true) true Try.f5.params.toList args.toList ds p := hA0
  rw [Try.params5] at hA hval
  obtain ⟨v0, vs0, d0, ds0, p0, q0, hargs, rfl, rfl, h0, r0⟩ := trodAll_cons hA
  obtain ⟨v1, vs1, d1, ds1, p1, q1, rfl, rfl, rfl, h1, r1⟩ := trodAll_cons r0
  obtain ⟨v2, vs2, d2, ds2, p2, q2, rfl, rfl, rfl, h2, r2⟩ := trodAll_cons r1
  obtain ⟨rfl, rfl, rfl⟩ := trodAll_nil r2
  obtain rfl : args = #[v0, v1, v2] := by cases args; simp_all
  obtain ⟨rfl, rfl⟩ := trodVars_none hV
  obtain ⟨a0, rfl, -, -, w0⟩ := open_int Try.underlying28 (hval 0 28 v0 rfl rfl) h0
  obtain ⟨a1, rfl, -, -, w1⟩ := open_int Try.underlying28 (hval 1 28 v1 rfl rfl) h1
  obtain ⟨a2, rfl, -, -, w2⟩ := open_int Try.underlying23 (hval 2 23 v2 rfl rfl) h2
  clear hA0 hval0
  refine (natSmall_walk W a0 w0 a1 w1 a2 w2).mono fun e W' ⟨he, hg⟩ => ?_
  subst he
  exact ⟨_, rfl, law_post hW' rfl rfl (by kernel_rfl) (by kernel_rfl) hg⟩

theorem natSmall_over : Rows.natSmallRow.holds Try.pinned (OpenSpec.ofChange Rows.natSmallSpec) :=
  OpenClaim.holds_of_wide 5 Try.f5 rfl rfl rfl rfl rfl rfl rfl ⟨rfl, rfl, rfl, rfl, rfl⟩ rfl rfl rfl rfl rfl (by kernel_rfl) Try.func5 (by kernel_rfl)
    (of_decide_eq_true (by kernel_rfl)) (by unfold Func.isWrapper; first | (rw [if_pos (by decide +kernel)]; kernel_rfl) | (rw [if_neg (by decide +kernel)]; exact ⟨rfl, rfl⟩))
    (fun os started H enc _ => natSmall_lifted os started H enc)

theorem natSmall_proved : Rows.NatSmallSaid := natSmall_over

end Go.Proofs.Ytbmkacnomegogaa
