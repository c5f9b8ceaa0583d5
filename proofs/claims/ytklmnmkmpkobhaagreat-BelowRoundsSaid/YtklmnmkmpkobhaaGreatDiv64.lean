/-
  Contract: math/bits.Div64, of a high word that isn't 0 and a divisor below two to the 63: its quotient.
-/
import Derived.Test.YtklmnmkmpkobhaaGreatJB
import Derived.Test.YtklmnmkmpkobhaaGreatShelf
import Derived.Test.YtklmnmkmpkobhaaGreatJM
import Derived.Deep.DeepCutAuto
import Derived.Deep.CutBlock
import Derived.Lib.ItoaNum
import Derived.Laws.Bits64b
namespace Go.Proofs.YtklmnmkmpkobhaaGreat
set_option linter.unusedSimpArgs false
set_option linter.unusedVariables false
open Go.RowKit

theorem wrapN (n : Nat) (h : n < 18446744073709551616) : IntKind.u64.wrap (n : Int) = (n : Int) := by rw [IntKind.wrap_u64]; omega
def Quo (W : World) (Q r : Nat) (e : Ending) (w' : World) : Prop := e = .returned (.tuple #[.int .u64 (Q : Int), .int .u64 (r : Int)]) ∧ W = w'

set_option maxHeartbeats 4000000 in
theorem div64_core (hi lo y s Y a b hs ls u w w1 w0 q0 r0 p0 : Nat) (W : World) (hz : ((hi : Int) == 0) = false) (hz1 : ((y : Int) == 0) = false) (hz2 : decide (y ≤ hi) = false)
 (hlz : Hid (∀ w, Calls Tryz.prog 171 #[.int .u64 (y:Int)] w fun e w' => e = .returned (.int .i64 (s:Int)) ∧ w = w')) (hs0 : 1 ≤ s) (hs1 : s ≤ 63)
 (rY : IntKind.u64.wrap ((y:Int) * 2 ^ s) = (Y : Int)) (ra : (Y : Int) / 4294967296 = (a : Int)) (rb : bits BinOp.and IntKind.u64 (Y:Int) 4294967295 = (b:Int))
 (rhs : IntKind.u64.wrap ((hi:Int) * 2 ^ s) = (hs : Int)) (rls : (lo:Int) / 2 ^ (64 - s) = (ls : Int)) (ru : bits BinOp.or IntKind.u64 (hs:Int) (ls:Int) = (u:Int))
 (rw_ : IntKind.u64.wrap ((lo:Int) * 2 ^ s) = (w : Int)) (rw1 : (w : Int) / 4294967296 = (w1 : Int)) (rw0 : bits BinOp.and IntKind.u64 (w:Int) 4294967295 = (w0:Int))
 (ha0 : 0 < a) (rq : (u:Int) / (a:Int) = (q0:Int)) (rp : (q0:Int) * (a:Int) = (p0:Int)) (rr : (u:Int) - (p0:Int) = (r0:Int)) (rq' : IntKind.u64.wrap (q0:Int) = (q0:Int)) (rp' : IntKind.u64.wrap (p0:Int) = (p0:Int)) (rr' : IntKind.u64.wrap (r0:Int) = (r0:Int))
 (T1 A1 A2 A3 u2 : Nat) (rA1 : IntKind.u64.wrap ((u:Int) * 4294967296) = (A1:Int)) (rA2 : IntKind.u64.wrap ((A1:Int) + (w1:Int)) = (A2:Int)) (rA3 : IntKind.u64.wrap ((T1:Int) * (Y:Int)) = (A3:Int)) (rA4 : IntKind.u64.wrap ((A2:Int) - (A3:Int)) = (u2:Int))
 (q2 r2 p2 : Nat) (rq2 : (u2:Int) / (a:Int) = (q2:Int)) (rp2 : (q2:Int) * (a:Int) = (p2:Int)) (rr2 : (u2:Int) - (p2:Int) = (r2:Int)) (rq2' : IntKind.u64.wrap (q2:Int) = (q2:Int)) (rp2' : IntKind.u64.wrap (p2:Int) = (p2:Int)) (rr2' : IntKind.u64.wrap (r2:Int) = (r2:Int))
 (T0 B1 Q : Nat) (rB1 : IntKind.u64.wrap ((T1:Int) * 4294967296) = (B1:Int)) (rB2 : IntKind.u64.wrap ((B1:Int) + (T0:Int)) = (Q:Int))
 (C1 C2 C3 C4 r : Nat) (rC1 : IntKind.u64.wrap ((u2:Int) * 4294967296) = (C1:Int)) (rC2 : IntKind.u64.wrap ((C1:Int) + (w0:Int)) = (C2:Int)) (rC3 : IntKind.u64.wrap ((T0:Int) * (Y:Int)) = (C3:Int)) (rC4 : IntKind.u64.wrap ((C2:Int) - (C3:Int)) = (C4:Int)) (rR : (C4:Int) / 2 ^ s = (r:Int))
 (hI : Hid (T1 ≤ q0 ∧ q0 * a + r0 = u ∧ q0 ≤ 4294967297 ∧ r0 < a)) (hU : Hid (u < Y)) (hV : Hid (w1 < 4294967296)) (hT : Hid (T1 = (u * 4294967296 + w1) / Y)) (hY0 : Hid (0 < Y)) (hK : Hid (Y = a * 4294967296 + b ∧ b < 4294967296 ∧ a < 4294967296))
 (hI2 : Hid (T0 ≤ q2 ∧ q2 * a + r2 = u2 ∧ q2 ≤ 4294967297 ∧ r2 < a)) (hU2 : Hid (u2 < Y)) (hV2 : Hid (w0 < 4294967296)) (hT2 : Hid (T0 = (u2 * 4294967296 + w0) / Y)) :
 Calls Tryz.prog 169 #[.int .u64 (hi:Int), .int .u64 (lo:Int), .int .u64 (y : Int)] W (Quo W Q r) := by
 go_enter Tryz.func169, Tryz.ntmps169
 go_wp2_with fail
 refine (hlz.out _).mono ?_
 rintro e w' ⟨rfl, rfl⟩
 go_upto_block 0 with (fail)
 go_cut [15, 16] (fun q r wx => ∃ k : Nat, q = .int .u64 (T1 : Int) ∧ r = .int .u64 (k:Int) ∧ W = wx)
 case first =>
  go_wp2_with fail
  go_loop [15, 16] (fun sq sr => ∃ q r : Nat, sq = .int .u64 (q : Int) ∧ sr = .int .u64 (r : Int) ∧ q * a + r = u ∧ T1 ≤ q ∧ q ≤ 4294967297 ∧ r < 4294967296) (fun sq _ => (intOf sq).toNat)
  case atStart => exact ⟨q0, r0, rfl, rfl, hI.out.2.1, hI.out.1, hI.out.2.2.1, by have := hI.out.2.2.2; have := hK.out.2.2; omega⟩
  case round =>
   obtain ⟨q, r, rfl, rfl, hqr, hle, hq9, hr9⟩ := hrel
   have HQR := hid hqr
   have HLE := hid hle
   have HQ9 := hid hq9
   have HR9 := hid hr9
   clear hqr hle hq9 hr9
   by_cases hc1 : 4294967296 ≤ q
   ·have hci : (4294967296 : Int) ≤ (q : Int) := by omega
    obtain ⟨p, hq, hTp, hpr⟩ := M.qhat_dec hK.out.1 hU.out hV.out hT.out HLE.out HQR.out (.inl hc1)
    obtain ⟨r2, hr2⟩ : ∃ r2, r2 = r + a := ⟨_, rfl⟩
    have hra : (r : Int) + (a : Int) = (r2 : Int) := by omega
    have hdq : (q : Int) - 1 = (p : Int) := by omega
    have hwp := wrapN p (by have := HQ9.out; omega)
    have hwr := wrapN r2 (by have := HR9.out; have := hK.out.2.2; omega)
    rw [← hr2] at hpr
    have H1 := hid (And.intro hTp hpr)
    have H2 := hid (show p ≤ 4294967296 by have := HQ9.out; omega)
    clear hq hTp hpr hr2 hc1
    by_cases hbr : 4294967296 ≤ r2
    ·have hbi : (4294967296 : Int) ≤ (r2 : Int) := by omega
     have hpT := hid (M.qhat_done (hK.out.1) hY0.out hT.out H1.out.1 H1.out.2 (M.qhat_over hK.out.2.1 H2.out hbr))
     clear hbr
     go_wp2_with fail
     go_meet
     exact ⟨r2, by rw [hpT.out], rfl, rfl⟩
    ·have hbi : decide ((4294967296 : Int) ≤ (r2 : Int)) = false := by simp; omega
     have hbr' := hid (show r2 < 4294967296 by omega)
     clear hbr
     go_wp2_with fail
     go_round
     case rel => exact ⟨p, r2, rfl, rfl, H1.out.2, H1.out.1, by have := H2.out; omega, hbr'.out⟩
     case measure => simp [intOf]; all_goals omega
   ·have hci : decide ((4294967296 : Int) ≤ (q : Int)) = false := by simp; omega
    have HQ := hid (show q < 4294967296 by omega)
    clear hc1
    obtain ⟨m1, hm1⟩ : ∃ m1, m1 = q * b := ⟨_, rfl⟩
    obtain ⟨m2, hm2⟩ : ∃ m2, m2 = 4294967296 * r := ⟨_, rfl⟩
    obtain ⟨m3, hm3⟩ : ∃ m3, m3 = m2 + w1 := ⟨_, rfl⟩
    have hm1I : (q : Int) * (b : Int) = (m1 : Int) := by rw [hm1]; simp
    have hm2I : (4294967296 : Int) * (r : Int) = (m2 : Int) := by rw [hm2]; simp
    have hm3I : (m2 : Int) + (w1 : Int) = (m3 : Int) := by rw [hm3]; simp
    have hm19 : m1 ≤ 18446744065119617025 := by
     rw [hm1]
     exact Nat.mul_le_mul (show q ≤ 4294967295 by have := HQ.out; omega) (show b ≤ 4294967295 by have := hK.out.2.1; omega)
    have hw1 := wrapN m1 (by omega)
    have hw2 := wrapN m2 (by have := HR9.out; omega)
    have hw3 := wrapN m3 (by have := HR9.out; have := hV.out; omega)
    have HM := hid (show m3 = 4294967296 * r + w1 by omega)
    have HM1 := hid hm1
    clear hm1 hm2 hm3 hm19
    by_cases hlt : m3 < m1
    ·have HLT := hid (show 4294967296 * r + w1 < q * b by rw [← HM.out, ← HM1.out]; exact hlt)
     obtain ⟨p, hq, hTp, hpr⟩ := M.qhat_dec hK.out.1 hU.out hV.out hT.out HLE.out HQR.out (.inr HLT.out)
     obtain ⟨r2, hr2⟩ : ∃ r2, r2 = r + a := ⟨_, rfl⟩
     have hra : (r : Int) + (a : Int) = (r2 : Int) := by omega
     have hdq : (q : Int) - 1 = (p : Int) := by omega
     have hwp := wrapN p (by have := HQ9.out; omega)
     have hwr := wrapN r2 (by have := HR9.out; have := hK.out.2.2; omega)
     rw [← hr2] at hpr
     have H1 := hid (And.intro hTp hpr)
     have H2 := hid (show p ≤ 4294967296 by have := HQ9.out; omega)
     clear hq hTp hpr hr2 
     by_cases hbr : 4294967296 ≤ r2
     ·have hbi : (4294967296 : Int) ≤ (r2 : Int) := by omega
      have hpT := hid (M.qhat_done (hK.out.1) hY0.out hT.out H1.out.1 H1.out.2 (M.qhat_over hK.out.2.1 H2.out hbr))
      clear hbr
      go_wp2_with fail
      go_meet
      exact ⟨r2, by rw [hpT.out], rfl, rfl⟩
     ·have hbi : decide ((4294967296 : Int) ≤ (r2 : Int)) = false := by simp; omega
      have hbr' := hid (show r2 < 4294967296 by omega)
      clear hbr
      go_wp2_with fail
      go_round
      case rel => exact ⟨p, r2, rfl, rfl, H1.out.2, H1.out.1, by have := H2.out; omega, hbr'.out⟩
      case measure => simp [intOf]; all_goals omega
    ·have hpT := hid (M.qhat_done hK.out.1 hY0.out hT.out HLE.out HQR.out (by rw [← HM.out, ← HM1.out]; omega))
     go_wp2_with fail
     go_meet
     exact ⟨r, by rw [hpT.out], rfl, rfl⟩
 case rest =>
  obtain ⟨k, rfl, rfl, rfl⟩ := hcut
  clear hz hz1 hz2 rY ra rb rhs rls ru rw_ rw1 rw0 rq rp rr rq' rp' rr' hI hU hV hT
  go_upto_block 2 with (fail)
  clear rA1 rA2 rA3 rA4 rq2 rp2 rr2 rq2' rp2' rr2'
  go_cut [18, 16] (fun q r wx => ∃ k : Nat, q = .int .u64 (T0 : Int) ∧ r = .int .u64 (k:Int) ∧ W = wx)
  case first =>
   go_wp2_with fail
   go_loop [18, 16] (fun sq sr => ∃ q r : Nat, sq = .int .u64 (q : Int) ∧ sr = .int .u64 (r : Int) ∧ q * a + r = u2 ∧ T0 ≤ q ∧ q ≤ 4294967297 ∧ r < 4294967296) (fun sq _ => (intOf sq).toNat)
   case atStart => exact ⟨q2, r2, rfl, rfl, hI2.out.2.1, hI2.out.1, hI2.out.2.2.1, by have := hI2.out.2.2.2; have := hK.out.2.2; omega⟩
   case round =>
    obtain ⟨q, r, rfl, rfl, hqr, hle, hq9, hr9⟩ := hrel
    have HQR := hid hqr
    have HLE := hid hle
    have HQ9 := hid hq9
    have HR9 := hid hr9
    clear hqr hle hq9 hr9
    by_cases hc1 : 4294967296 ≤ q
    ·have hci : (4294967296 : Int) ≤ (q : Int) := by omega
     obtain ⟨p, hq, hTp, hpr⟩ := M.qhat_dec hK.out.1 hU2.out hV2.out hT2.out HLE.out HQR.out (.inl hc1)
     obtain ⟨r2, hr2⟩ : ∃ r2, r2 = r + a := ⟨_, rfl⟩
     have hra : (r : Int) + (a : Int) = (r2 : Int) := by omega
     have hdq : (q : Int) - 1 = (p : Int) := by omega
     have hwp := wrapN p (by have := HQ9.out; omega)
     have hwr := wrapN r2 (by have := HR9.out; have := hK.out.2.2; omega)
     rw [← hr2] at hpr
     have H1 := hid (And.intro hTp hpr)
     have H2 := hid (show p ≤ 4294967296 by have := HQ9.out; omega)
     clear hq hTp hpr hr2 hc1
     by_cases hbr : 4294967296 ≤ r2
     ·have hbi : (4294967296 : Int) ≤ (r2 : Int) := by omega
      have hpT := hid (M.qhat_done (hK.out.1) hY0.out hT2.out H1.out.1 H1.out.2 (M.qhat_over hK.out.2.1 H2.out hbr))
      clear hbr
      go_wp2_with fail
      go_meet
      exact ⟨r2, by rw [hpT.out], rfl, rfl⟩
     ·have hbi : decide ((4294967296 : Int) ≤ (r2 : Int)) = false := by simp; omega
      have hbr' := hid (show r2 < 4294967296 by omega)
      clear hbr
      go_wp2_with fail
      go_round
      case rel => exact ⟨p, r2, rfl, rfl, H1.out.2, H1.out.1, by have := H2.out; omega, hbr'.out⟩
      case measure => simp [intOf]; all_goals omega
    ·have hci : decide ((4294967296 : Int) ≤ (q : Int)) = false := by simp; omega
     have HQ := hid (show q < 4294967296 by omega)
     clear hc1
     obtain ⟨m1, hm1⟩ : ∃ m1, m1 = q * b := ⟨_, rfl⟩
     obtain ⟨m2, hm2⟩ : ∃ m2, m2 = 4294967296 * r := ⟨_, rfl⟩
     obtain ⟨m3, hm3⟩ : ∃ m3, m3 = m2 + w0 := ⟨_, rfl⟩
     have hm1I : (q : Int) * (b : Int) = (m1 : Int) := by rw [hm1]; simp
     have hm2I : (4294967296 : Int) * (r : Int) = (m2 : Int) := by rw [hm2]; simp
     have hm3I : (m2 : Int) + (w0 : Int) = (m3 : Int) := by rw [hm3]; simp
     have hm19 : m1 ≤ 18446744065119617025 := by
      rw [hm1]
      exact Nat.mul_le_mul (show q ≤ 4294967295 by have := HQ.out; omega) (show b ≤ 4294967295 by have := hK.out.2.1; omega)
     have hw1 := wrapN m1 (by omega)
     have hw2 := wrapN m2 (by have := HR9.out; omega)
     have hw3 := wrapN m3 (by have := HR9.out; have := hV2.out; omega)
     have HM := hid (show m3 = 4294967296 * r + w0 by omega)
     have HM1 := hid hm1
     clear hm1 hm2 hm3 hm19
     by_cases hlt : m3 < m1
     ·have HLT := hid (show 4294967296 * r + w0 < q * b by rw [← HM.out, ← HM1.out]; exact hlt)
      obtain ⟨p, hq, hTp, hpr⟩ := M.qhat_dec hK.out.1 hU2.out hV2.out hT2.out HLE.out HQR.out (.inr HLT.out)
      obtain ⟨r2, hr2⟩ : ∃ r2, r2 = r + a := ⟨_, rfl⟩
      have hra : (r : Int) + (a : Int) = (r2 : Int) := by omega
      have hdq : (q : Int) - 1 = (p : Int) := by omega
      have hwp := wrapN p (by have := HQ9.out; omega)
      have hwr := wrapN r2 (by have := HR9.out; have := hK.out.2.2; omega)
      rw [← hr2] at hpr
      have H1 := hid (And.intro hTp hpr)
      have H2 := hid (show p ≤ 4294967296 by have := HQ9.out; omega)
      clear hq hTp hpr hr2 
      by_cases hbr : 4294967296 ≤ r2
      ·have hbi : (4294967296 : Int) ≤ (r2 : Int) := by omega
       have hpT := hid (M.qhat_done (hK.out.1) hY0.out hT2.out H1.out.1 H1.out.2 (M.qhat_over hK.out.2.1 H2.out hbr))
       clear hbr
       go_wp2_with fail
       go_meet
       exact ⟨r2, by rw [hpT.out], rfl, rfl⟩
      ·have hbi : decide ((4294967296 : Int) ≤ (r2 : Int)) = false := by simp; omega
       have hbr' := hid (show r2 < 4294967296 by omega)
       clear hbr
       go_wp2_with fail
       go_round
       case rel => exact ⟨p, r2, rfl, rfl, H1.out.2, H1.out.1, by have := H2.out; omega, hbr'.out⟩
       case measure => simp [intOf]; all_goals omega
     ·have hpT := hid (M.qhat_done hK.out.1 hY0.out hT2.out HLE.out HQR.out (by rw [← HM.out, ← HM1.out]; omega))
      go_wp2_with fail
      go_meet
      exact ⟨r, by rw [hpT.out], rfl, rfl⟩
  case rest =>
   obtain ⟨k, rfl, rfl, rfl⟩ := hcut
   go_wp2
   go_ret2
   exact ⟨rfl, rfl⟩

theorem wrap_nat (x : Int) : ∃ n : Nat, IntKind.u64.wrap x = (n : Int) := ⟨(IntKind.u64.wrap x).toNat, by rw [IntKind.wrap_u64]; omega⟩
theorem mask32 (x : Nat) (hx : x < 18446744073709551616) : bits .and .u64 (x : Int) 4294967295 = ((x % 4294967296 : Nat) : Int) := by
 have h := bits_and_u64_nat x 4294967295 hx (by omega)
 have e : x &&& 4294967295 = x % 4294967296 := Nat.and_two_pow_sub_one_eq_mod x 32
 rw [e] at h
 exact h
theorem cast_pow2 (n s : Nat) : (n : Int) * 2 ^ s = ((n * 2 ^ s : Nat) : Int) := by simp
theorem cast_div2 (n s : Nat) : (n : Int) / 2 ^ s = ((n / 2 ^ s : Nat) : Int) := by simp
theorem div_a (Y : Nat) : (Y : Int) / 4294967296 = ((Y / 4294967296 : Nat) : Int) := by omega
theorem or_add {h l P s : Nat} (hP : P = 2 ^ s) (hl : l < P) (h1 : h * P < 18446744073709551616) (hs : P ≤ 18446744073709551616) : bits .or .u64 ((h * P : Nat) : Int) (l : Int) = ((h * P + l : Nat) : Int) := by
 rw [bits_or_u64_nat _ _ h1 (by omega)]
 have := Nat.two_pow_add_eq_or_of_lt (i := s) (b := l) (by rw [← hP]; exact hl) h
 rw [← hP] at this
 rw [Nat.mul_comm h P, this]
theorem sub_mod {N u2 QY A A1 A2 A3 v : Nat} (hN : N = A + v) (h2 : QY + u2 = N) (hu : u2 < 18446744073709551616) (r1 : IntKind.u64.wrap (A : Int) = (A1 : Int)) (r2 : IntKind.u64.wrap ((A1 : Int) + (v : Int)) = (A2 : Int)) (r3 : IntKind.u64.wrap (QY : Int) = (A3 : Int)) :
 IntKind.u64.wrap ((A2 : Int) - (A3 : Int)) = (u2 : Int) := by
 rw [IntKind.wrap_u64] at *
 omega

theorem div64_quo (hi lo y : Nat) (hhi : hi < y) (h0 : 0 < hi) (hy : y < 9223372036854775808) (hlo : lo < 18446744073709551616) :
 ∃ r : Nat, ∀ W : World, Calls Tryz.prog 169 #[.int .u64 (hi:Int), .int .u64 (lo:Int), .int .u64 (y : Int)] W (Quo W ((hi * 18446744073709551616 + lo) / y) r) := by
 have hy0 : y ≠ 0 := by omega
 obtain ⟨hL1, hL2, hL3⟩ := Lib.bitLenAux_bounds 64 y (by omega) hy0
 have hL4 : Lib.bitLen y ≤ 63 := Lib.bitLen_le y 63 (by omega) hy
 obtain ⟨L, hL⟩ : ∃ L, L = Lib.bitLen y := ⟨_, rfl⟩
 rw [← hL] at hL4
 change 1 ≤ Lib.bitLen y at hL1
 change 2 ^ (Lib.bitLen y - 1) ≤ y at hL2
 change y < 2 ^ Lib.bitLen y at hL3
 rw [← hL] at hL1 hL2 hL3
 obtain ⟨s, hs⟩ : ∃ s, s = 64 - L := ⟨_, rfl⟩
 obtain ⟨P, hP⟩ : ∃ P, P = 2 ^ s := ⟨_, rfl⟩
 obtain ⟨R, hR⟩ : ∃ R, R = 2 ^ (64 - s) := ⟨_, rfl⟩
 obtain ⟨Y, hY⟩ : ∃ Y, Y = y * P := ⟨_, rfl⟩
 have hPR : P * R = 18446744073709551616 := by rw [hP, hR, ← Nat.pow_add, show s + (64 - s) = 64 by omega]
 have hP0 : 0 < P := by rw [hP]; exact Nat.pow_pos (by omega)
 have hR0 : 0 < R := by rw [hR]; exact Nat.pow_pos (by omega)
 have hP9 : P ≤ 18446744073709551616 := by rw [← hPR]; exact Nat.le_mul_of_pos_right _ hR0
 have hYlo : 9223372036854775808 ≤ Y := by
  have h1 : 2 ^ (L - 1) * P ≤ y * P := Nat.mul_le_mul_right _ hL2
  rw [hP, ← Nat.pow_add, show L - 1 + s = 63 by omega] at h1
  rw [hY, hP]; exact h1
 have hYhi : Y < 18446744073709551616 := by
  have h1 : y * P < 2 ^ L * P := Nat.mul_lt_mul_of_pos_right hL3 hP0
  rw [hP, ← Nat.pow_add, show L + s = 64 by omega] at h1
  rw [hY, hP]; exact h1
 obtain ⟨u, hu⟩ : ∃ u, u = hi * P + lo / R := ⟨_, rfl⟩
 obtain ⟨w, hw⟩ : ∃ w, w = lo * P % 18446744073709551616 := ⟨_, rfl⟩
 obtain ⟨hU, huY, hls⟩ := M.shift_words hPR hY hhi hu hw hlo hP0
 have hw9 : w < 18446744073709551616 := by omega
 have hhsY : hi * P < 18446744073709551616 := by
  have h1 : hi * P ≤ u := by rw [hu]; exact Nat.le_add_right _ _
  exact Nat.lt_of_le_of_lt h1 (Nat.lt_trans huY hYhi)
 have hK1 : Y = Y / 4294967296 * 4294967296 + Y % 4294967296 := by omega
 have ha : 2147483648 ≤ Y / 4294967296 := by omega
 obtain ⟨a, haa⟩ : ∃ a, a = Y / 4294967296 := ⟨_, rfl⟩
 obtain ⟨b, hbb⟩ : ∃ b, b = Y % 4294967296 := ⟨_, rfl⟩
 obtain ⟨w1, hw1⟩ : ∃ w1, w1 = w / 4294967296 := ⟨_, rfl⟩
 obtain ⟨w0, hw0⟩ : ∃ w0, w0 = w % 4294967296 := ⟨_, rfl⟩
 rw [← haa, ← hbb] at hK1
 rw [← haa] at ha
 have hb9 : b < 4294967296 := by omega
 have ha9 : a < 4294967296 := by omega
 have hw19 : w1 < 4294967296 := by omega
 have hw09 : w0 < 4294967296 := by omega
 have digit : ∀ x v : Nat, x < Y → v < 4294967296 → ∃ T q r p : Nat, T = (x * 4294967296 + v) / Y ∧ (T ≤ q ∧ q * a + r = x ∧ q ≤ 4294967297 ∧ r < a) ∧ (x : Int) / (a : Int) = (q : Int) ∧ (q : Int) * (a : Int) = (p : Int) ∧ (x : Int) - (p : Int) = (r : Int) ∧
  IntKind.u64.wrap (q:Int) = (q:Int) ∧ IntKind.u64.wrap (p:Int) = (p:Int) ∧ IntKind.u64.wrap (r:Int) = (r:Int) := by
  intro x v hx hv
  have h := M.qhat_init hK1 hb9 ha hx hv rfl rfl rfl
  have h2 := h.2.1
  refine ⟨_, x / a, x % a, x / a * a, rfl, h, by simp, by simp, by omega, wrapN _ (by have := h.2.2.1; omega), wrapN _ (by omega), wrapN _ (by have := h.2.2.2; omega)⟩
 obtain ⟨T1, q0, r0, p0, hT, hI, rq, rp, rr, rq', rp', rr'⟩ := digit u w1 huY hw19
 have hdm : T1 * Y + (u * 4294967296 + w1) % Y = u * 4294967296 + w1 := by rw [hT, Nat.mul_comm]; exact Nat.div_add_mod _ _
 obtain ⟨u2, hu2⟩ : ∃ u2, u2 = (u * 4294967296 + w1) % Y := ⟨_, rfl⟩
 have hu2Y : u2 < Y := by rw [hu2]; exact Nat.mod_lt _ (by omega)
 rw [← hu2] at hdm
 obtain ⟨T0, q2, r2, p2, hT2, hI2, rq2, rp2, rr2, rq2', rp2', rr2'⟩ := digit u2 w0 hu2Y hw09
 obtain ⟨A1, rA1⟩ := wrap_nat ((u:Int) * 4294967296)
 obtain ⟨A2, rA2⟩ := wrap_nat ((A1:Int) + (w1:Int))
 obtain ⟨A3, rA3⟩ := wrap_nat ((T1:Int) * (Y:Int))
 have rA4 : IntKind.u64.wrap ((A2:Int) - (A3:Int)) = (u2:Int) :=
  sub_mod (A := u * 4294967296) (QY := T1 * Y) (v := w1) rfl hdm (by omega) (by rw [← rA1]; simp) rA2 (by rw [← rA3]; simp)
 obtain ⟨C1, rC1⟩ := wrap_nat ((u2:Int) * 4294967296)
 obtain ⟨C2, rC2⟩ := wrap_nat ((C1:Int) + (w0:Int))
 obtain ⟨C3, rC3⟩ := wrap_nat ((T0:Int) * (Y:Int))
 obtain ⟨C4, rC4⟩ := wrap_nat ((C2:Int) - (C3:Int))
 have hT19 : T1 < 4294967296 := M.qhat_small huY hw19 hT
 have hT09 : T0 < 4294967296 := M.qhat_small hu2Y hw09 hT2
 have hQ : T1 * 4294967296 + T0 = (hi * 18446744073709551616 + lo) / y := M.two_digits hU hY (by omega) hP0 (by omega) hT hu2 hT2
 refine ⟨C4 / 2 ^ s, fun W => ?_⟩
 rw [← hQ]
 refine div64_core hi lo y s Y a b (hi * P) (lo / R) u w w1 w0 q0 r0 p0 W (by simp; omega) (by simp; omega) (by simp; omega) ?_ (by omega) (by omega)
  ?_ (by rw [haa]; exact div_a Y) (by rw [hbb]; exact mask32 Y hYhi) ?_ ?_ ?_ ?_ (by rw [hw1]; exact div_a w) (by rw [hw0]; exact mask32 w hw9)
  (by omega) rq rp rr rq' rp' rr' T1 A1 A2 A3 u2 rA1 rA2 rA3 rA4 q2 r2 p2 rq2 rp2 rr2 rq2' rp2' rr2' T0 (T1 * 4294967296) (T1 * 4294967296 + T0) ?_ ?_
  C1 C2 C3 C4 (C4 / 2 ^ s) rC1 rC2 rC3 rC4 (cast_div2 _ _) hI huY hw19 hT (show 0 < Y by omega) ⟨hK1, hb9, ha9⟩ hI2 hu2Y hw09 hT2
 ·intro w
  refine (Tryz.bits_LeadingZeros64 (y : Int) w (by omega) (by omega)).mono ?_
  rintro e w' ⟨rfl, rfl⟩
  exact ⟨ret_int (by rw [Int.toNat_natCast, ← hL]; omega), rfl⟩
 ·rw [cast_pow2, ← hP, ← hY]; exact wrapN _ hYhi
 ·rw [cast_pow2, ← hP]; exact wrapN _ hhsY
 ·rw [cast_div2, ← hR]
 ·rw [hu]; exact or_add hP hls hhsY hP9
 ·rw [cast_pow2, ← hP, hw, IntKind.wrap_u64]; omega
 ·rw [show (T1 : Int) * 4294967296 = ((T1 * 4294967296 : Nat) : Int) by simp]; exact wrapN _ (by omega)
 ·rw [show ((T1 * 4294967296 : Nat) : Int) + (T0 : Int) = ((T1 * 4294967296 + T0 : Nat) : Int) by simp]; exact wrapN _ (by omega)

/-- .. whatever the high word (below the divisor). -/
theorem div64_any (hi lo y : Nat) (hhi : hi < y) (hy : y < 9223372036854775808) (hlo : lo < 18446744073709551616) :
 ∃ r : Nat, ∀ W : World, Calls Tryz.prog 169 #[.int .u64 (hi:Int), .int .u64 (lo:Int), .int .u64 (y : Int)] W fun e w' => e = .returned (.tuple #[.int .u64 (((hi * 18446744073709551616 + lo) / y : Nat) : Int), .int .u64 (r : Int)]) ∧ ∃ k, w' = W.drewN k := by
 rcases Nat.eq_zero_or_pos hi with h | h
 ·subst h
  refine ⟨lo % y, fun W => ?_⟩
  rw [Nat.zero_mul, Nat.zero_add]
  obtain ⟨q, hq⟩ : ∃ q, q = lo / y := ⟨_, rfl⟩
  obtain ⟨m, hm⟩ : ∃ m, m = lo % y := ⟨_, rfl⟩
  have hqI : (lo : Int) / (y : Int) = (q : Int) := by rw [hq]; simp
  have hmI : (lo : Int) % (y : Int) = (m : Int) := by rw [hm]; simp
  have hq9 : q ≤ lo := by rw [hq]; exact Nat.div_le_self _ _
  have hwq := wrapN q (by omega)
  have hz1 : ((y : Int) == 0) = false := by simp; omega
  have hz3 : ¬ y = 0 := by omega
  have hy1 : 1 ≤ y := by omega
  rw [← hq, ← hm]
  clear hhi hy hlo hq hm hq9
  go_enter Tryz.func169, Tryz.ntmps169
  go_wp2
  go_quiet (fail)
  go_wp2
  go_ret2
  exact ⟨by rw [← hmI]; rfl, _, rfl⟩
 ·obtain ⟨r, hr⟩ := div64_quo hi lo y hhi h hy hlo
  exact ⟨r, fun W => (hr W).mono fun e w' ⟨he, hw⟩ => ⟨he, 0, hw.symm⟩⟩
end Go.Proofs.YtklmnmkmpkobhaaGreat
