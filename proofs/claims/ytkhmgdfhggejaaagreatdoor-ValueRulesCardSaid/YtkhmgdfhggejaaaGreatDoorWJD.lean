/-
  Contracts: the steps of dividing by a row: a row taken away so many times in place, put back in place.
-/
import Derived.Test.YtkhmgdfhggejaaaGreatDoorWJB
import Derived.Test.YtkhmgdfhggejaaaGreatDoorShelf
import Derived.Deep.DeepCutAuto
import Derived.Deep.CutBlock
import Derived.Lib.ItoaNum
import Derived.Laws.Bits64b
import Derived.Laws.Externs
import Derived.Laws.CopyOwn
namespace Go.Proofs.YtkhmgdfhggejaaaGreatDoor
set_option linter.unusedSimpArgs false
set_option linter.unusedVariables false
open Go.RowKit
def Only (g : Nat) (w w' : World) : Prop := w.grownBy w' (some g)
theorem Only.refl (g : Nat) (w : World) : Only g w w := World.grownBy.refl w _
theorem Only.trans {g : Nat} {a b c : World} (h : Only g a b) (k : Only g b c) : Only g a c :=
 ⟨k.os.trans h.os, k.tape.trans h.tape, k.output.trans h.output, Nat.le_trans h.size k.size, fun i hi hne => (k.block i (Nat.lt_of_lt_of_le hi h.size) hne).trans (h.block i hi hne)⟩
theorem Only.setCell {g : Nat} {a w : World} (h : Only g a w) (i : Nat) (u : Value) : Only g a (w.setCell ⟨g, i, none⟩ u) :=
 ⟨h.os, h.tape, h.output, by simpa [World.setCell] using h.size, fun k hk hne => (Below.heap_setCell w ⟨g, i, none⟩ u k (fun e => hne (by rw [e]))).trans (h.block k hk hne)⟩
theorem Only.drewN {g : Nat} {a w : World} (h : Only g a w) (n : Nat) : Only g a (w.drewN n) := ⟨h.os, h.tape, h.output, h.size, h.block⟩
theorem Only.below {g : Nat} {a w : World} (h : Only g a w) {C : Nat} (hC : C ≤ g) (hg : g < a.heap.size) : Below C a w :=
 ⟨h.os, h.tape, h.output, h.size, fun k hk => h.block k (by omega) (fun e => by injection e with e; omega)⟩
theorem Only.blk {g : Nat} {a w : World} (h : Only g a w) {k : Nat} {l : List Nat} (hb : Blk a k l) (hne : k ≠ g) : Blk w k l :=
 (h.block k hb.lt (fun e => hne (by injection e))).trans hb
theorem ret_two {j k : IntKind} {a b c d : Int} (h1 : a = c) (h2 : b = d) : Ending.returned (.tuple #[.int j a, .int k b]) = Ending.returned (.tuple #[.int j c, .int k d]) := by rw [h1, h2]
theorem less_any (x t : Nat) (hx : (x : Int) < 1000000000) (ht : (t : Int) ≤ 1000000000000000000) (w : World) :
 Calls Tryz.prog 198 #[.int .u32 (x : Int), .int .u64 (t : Int)] w fun e w' => e = .returned (.tuple #[.int .u32 (M.lessD x t : Int), .int .u64 (M.lessC x t : Int)]) ∧ w = w' := by
 obtain ⟨d, hd⟩ : ∃ d, d = t % 1000000000 := ⟨_, rfl⟩
 obtain ⟨h, hh⟩ : ∃ h, h = t / 1000000000 := ⟨_, rfl⟩
 have hdI : (t : Int) % 1000000000 = (d : Int) := by omega
 have hhI : (t : Int) / 1000000000 = (h : Int) := by omega
 have hd9 : (d : Int) < 1000000000 := by omega
 have hh9 : (h : Int) ≤ 1000000000 := by omega
 have HD := hid hd
 have HH := hid hh
 clear hd hh
 by_cases hlt : x < d
 ·go_enter Tryz.func198, Tryz.ntmps198
  go_wp2
  go_ret2
  exact ⟨ret_two (by unfold M.lessD; rw [← HD.out, if_pos hlt]; omega) (by unfold M.lessC; rw [← HD.out, ← HH.out, if_pos hlt]; omega), rfl⟩
 ·go_enter Tryz.func198, Tryz.ntmps198
  go_wp2
  go_ret2
  exact ⟨ret_two (by unfold M.lessD; rw [← HD.out, if_neg hlt]; omega) (by unfold M.lessC; rw [← HD.out, ← HH.out, if_neg hlt]), rfl⟩
def Took (w : World) (g : Nat) (pre s post : List Nat) (T b : Nat) (e : Ending) (w' : World) : Prop :=
 ∃ (s' : List Nat) (c : Nat), e = .returned (.bool (decide (0 < c))) ∧ Blk w' g (pre ++ s' ++ post) ∧ s'.length = s.length ∧ M.small s' = true ∧ M.val s' + T * b = M.val s + 1000000000 ^ s.length * c ∧ Only g w w'
theorem takeAway_any (w : World) (g o n cp T : Nat) (v : Value) (m pre s post : List Nat) {C : Nat} (hv : Num w C v m) (hC : C ≤ g) (hm : Hid (M.small m = true)) (hn : n = m.length) (hn9 : n ≤ 100000000) (ho9 : o ≤ 100000000) (hT : (T : Int) ≤ 1000000000)
 (hblk : Blk w g (pre ++ s ++ post)) (ho : Hid (pre.length = o)) (hsl : Hid (s.length = n + 1)) (hss : Hid (M.small s = true)) :
 Calls Tryz.prog 193 #[.slice (some ⟨g, o, none⟩) (n + 1) cp, v, .int .u64 (T : Int)] w (Took w g pre s post T (M.val m)) := by
 obtain ⟨A', n', c', rfl, hn', hc', hm', hs', hr'⟩ := hv
 obtain rfl : n' = n := by omega
 have HR' := hid hr'
 have HN' := hid hn'
 have HS' := hid (M.small_iff.1 hm.out)
 have HG := hid hblk.lt
 have HBL0 := hid hblk
 clear hn hr' hn' hs' hm' hc' hblk
 go_enter Tryz.func193, Tryz.ntmps193
 go_wp2
 go_loopw [7, 12] (fun sc si wr => ∃ (i c : Nat) (s' : List Nat), i ≤ n' ∧ si = .int .i64 (i : Int) ∧ sc = .int .u64 (c : Int) ∧ c ≤ 1000000000 ∧ s'.length = n' + 1 ∧ M.small s' = true ∧ Blk wr g (pre ++ s' ++ post) ∧ Only g w wr ∧
  M.val s' + T * M.val (m.take i) = M.val s + 1000000000 ^ i * c) (fun _ si _ => n' - (intOf si).toNat)
 case atStart => exact ⟨0, 0, s, Nat.zero_le _, rfl, rfl, by omega, hsl.out, hss.out, HBL0.out, Only.refl _ _, by simp [M.val]⟩
 case round =>
  obtain ⟨i, c, s', hi, rfl, rfl, hc9, hs'l, hs's, hblk, honly, hval⟩ := hrel
  have HSL := hid hs'l
  have HSS := hid hs's
  have HBL := hid hblk
  have HO := hid honly
  have HV := hid hval
  clear hs'l hs's hblk honly hval
  have hil : i < s'.length := by rw [HSL.out]; omega
  obtain ⟨x, hx⟩ : ∃ x, s'[i]? = some x := ⟨_, List.getElem?_eq_getElem hil⟩
  have hx9 := M.small_iff.1 HSS.out x (List.mem_of_getElem? hx)
  have hoc := HBL.out.cell (i := o + i) (by rw [M.mid_get ho.out hil]; exact hx)
  have hof := HBL.out.frozen (o + i)
  have HX := hid hx
  have HIL := hid hil
  clear hx hil
  by_cases hlt : i < n'
  ·obtain ⟨ad', y, rfl, had', HY, hcell'⟩ := (HR'.out.keep (HO.out.below hC HG.out) (Nat.le_refl _)).get (k := i) (by rw [← HN'.out]; exact hlt)
   have hy9 := HS'.out y (List.mem_of_getElem? HY.out)
   obtain ⟨p, hp⟩ : ∃ p, p = T * y := ⟨_, rfl⟩
   have hpI : (T : Int) * (y : Int) = (p : Int) := by rw [hp]; simp
   have hp9 : p ≤ 999999999000000000 := by rw [hp]; exact Nat.mul_le_mul (show T ≤ 1000000000 by omega) (show y ≤ 999999999 by omega)
   obtain ⟨t, ht⟩ : ∃ t, t = c + p := ⟨_, rfl⟩
   have htI : (c : Int) + (p : Int) = (t : Int) := by omega
   have ht9 : (t : Int) ≤ 1000000000000000000 := by omega
   have HP := hid hp
   have HT := hid ht
   clear hp ht
   go_wp2_with fail
   refine (less_any x t (by omega) ht9 _).mono ?_
   rintro e w' ⟨rfl, rfl⟩
   go_wp2
   go_roundw
   case rel =>
    refine ⟨i + 1, M.lessC x t, s'.set i (M.lessD x t), by omega, by go_num, rfl, M.lessC_le (by omega), by rw [List.length_set]; exact HSL.out, M.small_set' HSS.out (M.lessD_lt hx9), ?_, HO.out.setCell _ _, ?_⟩
    ·rw [← M.mid_set ho.out HIL.out]; exact HBL.out.put _ rfl
    ·rw [M.val_take HY.out, M.take_mul HP.out, Nat.pow_succ]
     exact M.take_step HV.out (M.val_set_at HX.out _) M.less_eq HT.out HP.out
   case measure => simp [intOf]; all_goals omega
  ·obtain rfl : i = n' := by omega
   go_wp2_with fail
   refine (less_any x c (by omega) (by omega) _).mono ?_
   rintro e w' ⟨rfl, rfl⟩
   go_wp2
   go_ret
   refine ⟨s'.set i (M.lessD x c), M.lessC x c, ?_, ?_, by rw [List.length_set, HSL.out, hsl.out], M.small_set' HSS.out (M.lessD_lt hx9), ?_, HO.out.setCell _ _⟩
   ·exact ret_bool (by simp)
   ·rw [← M.mid_set ho.out HIL.out]; exact HBL.out.put _ rfl
   ·have h1 := HV.out
    rw [List.take_of_length_le (by rw [← HN'.out]; exact Nat.le_refl _)] at h1
    have h2 := M.take_step (p := 0) (T := 0) (y := 0) (t := c) h1 (M.val_set_at HX.out (M.lessD x c)) M.less_eq rfl rfl
    rw [hsl.out, Nat.pow_succ]
    simpa using h2
def Backed (w : World) (g : Nat) (pre s post : List Nat) (b : Nat) (e : Ending) (w' : World) : Prop :=
 ∃ (s' : List Nat) (c : Nat), e = .returned (.tuple #[]) ∧ Blk w' g (pre ++ s' ++ post) ∧ s'.length = s.length ∧ M.small s' = true ∧ c ≤ 1 ∧ M.val s' + 1000000000 ^ s.length * c = M.val s + b ∧ Only g w w'
theorem putBack_any (w : World) (g o n cp : Nat) (v : Value) (m pre s post : List Nat) {C : Nat} (hv : Num w C v m) (hC : C ≤ g) (hm : Hid (M.small m = true)) (hn : n = m.length) (hn9 : n ≤ 100000000) (ho9 : o ≤ 100000000)
 (hblk : Blk w g (pre ++ s ++ post)) (ho : Hid (pre.length = o)) (hsl : Hid (s.length = n + 1)) (hss : Hid (M.small s = true)) :
 Calls Tryz.prog 194 #[.slice (some ⟨g, o, none⟩) (n + 1) cp, v] w (Backed w g pre s post (M.val m)) := by
 obtain ⟨A', n', c', rfl, hn', hc', hm', hs', hr'⟩ := hv
 obtain rfl : n' = n := by omega
 have HR' := hid hr'
 have HN' := hid hn'
 have HS' := hid (M.small_iff.1 hm.out)
 have HG := hid hblk.lt
 have HBL0 := hid hblk
 clear hn hr' hn' hs' hm' hc' hblk
 go_enter Tryz.func194, Tryz.ntmps194
 go_wp2
 go_loopw [4, 9] (fun sc si wr => ∃ (i c : Nat) (s' : List Nat), i ≤ n' + 1 ∧ si = .int .i64 (i : Int) ∧ sc = .int .u32 (c : Int) ∧ c ≤ 1 ∧ s'.length = n' + 1 ∧ M.small s' = true ∧ Blk wr g (pre ++ s' ++ post) ∧ Only g w wr ∧
  M.val s' + 1000000000 ^ i * c = M.val s + M.val (m.take i)) (fun _ si _ => n' + 1 - (intOf si).toNat)
 case atStart => exact ⟨0, 0, s, Nat.zero_le _, rfl, rfl, by omega, hsl.out, hss.out, HBL0.out, Only.refl _ _, by simp [M.val]⟩
 case round =>
  obtain ⟨i, c, s', hi, rfl, rfl, hc9, hs'l, hs's, hblk, honly, hval⟩ := hrel
  have HSL := hid hs'l
  have HSS := hid hs's
  have HBL := hid hblk
  have HO := hid honly
  have HV := hid hval
  clear hs'l hs's hblk honly hval
  by_cases hlt1 : i < n' + 1
  ·have hil : i < s'.length := by rw [HSL.out]; omega
   obtain ⟨x, hx⟩ : ∃ x, s'[i]? = some x := ⟨_, List.getElem?_eq_getElem hil⟩
   have hx9 := M.small_iff.1 HSS.out x (List.mem_of_getElem? hx)
   have hoc := HBL.out.cell (i := o + i) (by rw [M.mid_get ho.out hil]; exact hx)
   have hof := HBL.out.frozen (o + i)
   have HX := hid hx
   have HIL := hid hil
   clear hx hil
   by_cases hlt : i < n'
   ·obtain ⟨ad', y, rfl, had', HY, hcell'⟩ := (HR'.out.keep (HO.out.below hC HG.out) (Nat.le_refl _)).get (k := i) (by rw [← HN'.out]; exact hlt)
    have hy9 := HS'.out y (List.mem_of_getElem? HY.out)
    go_wp2
    go_roundw
    case rel =>
     refine ⟨i + 1, (x + c + y) / 1000000000, s'.set i ((x + c + y) % 1000000000), by omega, by go_num, by congr 1, by omega, by rw [List.length_set]; exact HSL.out, M.small_set' HSS.out (by omega), ?_, HO.out.setCell _ _, ?_⟩
     ·rw [← M.mid_set ho.out HIL.out]; exact HBL.out.put _ (by omega)
     ·rw [M.val_take HY.out, Nat.pow_succ]
      exact M.back_step HV.out (M.val_set_at HX.out _) (by omega)
    case measure => simp [intOf]; all_goals omega
   ·have hin : i = n' := by omega
    have HIN := hid hin
    clear hin
    go_wp2
    go_roundw
    case rel =>
     refine ⟨i + 1, (x + c) / 1000000000, s'.set i ((x + c) % 1000000000), by omega, by go_num, by congr 1, by omega, by rw [List.length_set]; exact HSL.out, M.small_set' HSS.out (by omega), ?_, HO.out.setCell _ _, ?_⟩
     ·rw [← M.mid_set ho.out HIL.out]; exact HBL.out.put _ (by omega)
     ·rw [M.val_take_over (by rw [← HN'.out]; have := HIN.out; omega), Nat.pow_succ]
      exact M.back_step HV.out (M.val_set_at HX.out _) (by omega)
    case measure => simp [intOf]; all_goals omega
  ·have hin : i = n' + 1 := by omega
   have HIN := hid hin
   clear hin
   go_wp2
   go_end0
   refine ⟨s', c, rfl, HBL.out, by rw [HSL.out, hsl.out], HSS.out, hc9, ?_, HO.out⟩
   have h1 := HV.out
   rw [List.take_of_length_le (by rw [← HN'.out]; have := HIN.out; omega), HIN.out] at h1
   rw [hsl.out]; exact h1
theorem wrapN (n : Nat) (h : n < 18446744073709551616) : IntKind.u64.wrap (n : Int) = (n : Int) := by rw [IntKind.wrap_u64]; omega
def Quo (W : World) (Q r : Nat) (e : Ending) (w' : World) : Prop := e = .returned (.tuple #[.int .u64 (Q : Int), .int .u64 (r : Int)]) ∧ W = w'
set_option maxHeartbeats 4000000 in
theorem div64_core (hi lo y s Y a b hs ls u w w1 w0 q0 r0 p0 : Nat) (W : World) (hz : ((hi : Int) == 0) = false) (hz1 : ((y : Int) == 0) = false) (hz2 : decide (y ≤ hi) = false)
 (hlz : Hid (∀ w, Calls Tryz.prog 199 #[.int .u64 (y:Int)] w fun e w' => e = .returned (.int .i64 (s:Int)) ∧ w = w')) (hs0 : 1 ≤ s) (hs1 : s ≤ 63)
 (rY : IntKind.u64.wrap ((y:Int) * 2 ^ s) = (Y : Int)) (ra : (Y : Int) / 4294967296 = (a : Int)) (rb : bits BinOp.and IntKind.u64 (Y:Int) 4294967295 = (b:Int))
 (rhs : IntKind.u64.wrap ((hi:Int) * 2 ^ s) = (hs : Int)) (rls : (lo:Int) / 2 ^ (64 - s) = (ls : Int)) (ru : bits BinOp.or IntKind.u64 (hs:Int) (ls:Int) = (u:Int))
 (rw_ : IntKind.u64.wrap ((lo:Int) * 2 ^ s) = (w : Int)) (rw1 : (w : Int) / 4294967296 = (w1 : Int)) (rw0 : bits BinOp.and IntKind.u64 (w:Int) 4294967295 = (w0:Int))
 (ha0 : 0 < a) (rq : (u:Int) / (a:Int) = (q0:Int)) (rp : (q0:Int) * (a:Int) = (p0:Int)) (rr : (u:Int) - (p0:Int) = (r0:Int)) (rq' : IntKind.u64.wrap (q0:Int) = (q0:Int)) (rp' : IntKind.u64.wrap (p0:Int) = (p0:Int)) (rr' : IntKind.u64.wrap (r0:Int) = (r0:Int))
 (T1 A1 A2 A3 u2 : Nat) (rA1 : IntKind.u64.wrap ((u:Int) * 4294967296) = (A1:Int)) (rA2 : IntKind.u64.wrap ((A1:Int) + (w1:Int)) = (A2:Int)) (rA3 : IntKind.u64.wrap ((T1:Int) * (Y:Int)) = (A3:Int)) (rA4 : IntKind.u64.wrap ((A2:Int) - (A3:Int)) = (u2:Int))
 (q2 r2 p2 : Nat) (rq2 : (u2:Int) / (a:Int) = (q2:Int)) (rp2 : (q2:Int) * (a:Int) = (p2:Int)) (rr2 : (u2:Int) - (p2:Int) = (r2:Int)) (rq2' : IntKind.u64.wrap (q2:Int) = (q2:Int)) (rp2' : IntKind.u64.wrap (p2:Int) = (p2:Int)) (rr2' : IntKind.u64.wrap (r2:Int) = (r2:Int))
 (T0 B1 Q : Nat) (rB1 : IntKind.u64.wrap ((T1:Int) * 4294967296) = (B1:Int)) (rB2 : IntKind.u64.wrap ((B1:Int) + (T0:Int)) = (Q:Int))
 (C1 C2 C3 C4 r : Nat) (rC1 : IntKind.u64.wrap ((u2:Int) * 4294967296) = (C1:Int)) (rC2 : IntKind.u64.wrap ((C1:Int) + (w0:Int)) = (C2:Int)) (rC3 : IntKind.u64.wrap ((T0:Int) * (Y:Int)) = (C3:Int)) (rC4 : IntKind.u64.wrap ((C2:Int) - (C3:Int)) = (C4:Int)) (rR : (C4:Int) / 2 ^ s = (r:Int))
 (hI : Hid (T1 ≤ q0 ∧ q0 * a + r0 = u ∧ q0 ≤ 4294967297 ∧ r0 < a)) (hU : Hid (u < Y)) (hV : Hid (w1 < 4294967296)) (hT : Hid (T1 = (u * 4294967296 + w1) / Y)) (hY0 : Hid (0 < Y)) (hK : Hid (Y = a * 4294967296 + b ∧ b < 4294967296 ∧ a < 4294967296))
 (hI2 : Hid (T0 ≤ q2 ∧ q2 * a + r2 = u2 ∧ q2 ≤ 4294967297 ∧ r2 < a)) (hU2 : Hid (u2 < Y)) (hV2 : Hid (w0 < 4294967296)) (hT2 : Hid (T0 = (u2 * 4294967296 + w0) / Y)) :
 Calls Tryz.prog 197 #[.int .u64 (hi:Int), .int .u64 (lo:Int), .int .u64 (y : Int)] W (Quo W Q r) := by
 go_enter Tryz.func197, Tryz.ntmps197
 go_wp2_with fail
 refine (hlz.out _).mono ?_
 rintro e w' ⟨rfl, rfl⟩
 go_upto_block 0 with (fail)
 go_cut [15, 16] (fun q r wx => ∃ k : Nat, q = .int .u64 (T1 : Int) ∧ r = .int .u64 (k:Int) ∧ W = wx)
 case first =>
  go_wp2_with fail
  go_loop [15, 16] (fun sq sr => ∃ q r : Nat, sq = .int .u64 (q : Int) ∧ sr = .int .u64 (r : Int) ∧ q * a + r = u ∧ T1 ≤ q ∧ q ≤ 4294967297 ∧ r < 4294967296) (fun sq _ => (intOf sq).toNat)
  case atStart => exact ⟨q0, r0, rfl, rfl, hI.out.2.1, hI.out.1, hI.out.2.2.1, by have := hI.out.2.2.2; have := hK.out.2.2; omega⟩
  case round =>
   obtain ⟨q, r, rfl, rfl, hqr, hle, hq9, hr9⟩ := hrel
   have HQR := hid hqr
   have HLE := hid hle
   have HQ9 := hid hq9
   have HR9 := hid hr9
   clear hqr hle hq9 hr9
   by_cases hc1 : 4294967296 ≤ q
   ·have hci : (4294967296 : Int) ≤ (q : Int) := by omega
    obtain ⟨p, hq, hTp, hpr⟩ := M.qhat_dec hK.out.1 hU.out hV.out hT.out HLE.out HQR.out (.inl hc1)
    obtain ⟨r2, hr2⟩ : ∃ r2, r2 = r + a := ⟨_, rfl⟩
    have hra : (r : Int) + (a : Int) = (r2 : Int) := by omega
    have hdq : (q : Int) - 1 = (p : Int) := by omega
    have hwp := wrapN p (by have := HQ9.out; omega)
    have hwr := wrapN r2 (by have := HR9.out; have := hK.out.2.2; omega)
    rw [← hr2] at hpr
    have H1 := hid (And.intro hTp hpr)
    have H2 := hid (show p ≤ 4294967296 by have := HQ9.out; omega)
    clear hq hTp hpr hr2 hc1
    by_cases hbr : 4294967296 ≤ r2
    ·have hbi : (4294967296 : Int) ≤ (r2 : Int) := by omega
     have hpT := hid (M.qhat_done (hK.out.1) hY0.out hT.out H1.out.1 H1.out.2 (M.qhat_over hK.out.2.1 H2.out hbr))
     clear hbr
     go_wp2_with fail
     go_meet
     exact ⟨r2, by rw [hpT.out], rfl, rfl⟩
    ·have hbi : decide ((4294967296 : Int) ≤ (r2 : Int)) = false := by simp; omega
     have hbr' := hid (show r2 < 4294967296 by omega)
     clear hbr
     go_wp2_with fail
     go_round
     case rel => exact ⟨p, r2, rfl, rfl, H1.out.2, H1.out.1, by have := H2.out; omega, hbr'.out⟩
     case measure => simp [intOf]; all_goals omega
   ·have hci : decide ((4294967296 : Int) ≤ (q : Int)) = false := by simp; omega
    have HQ := hid (show q < 4294967296 by omega)
    clear hc1
    obtain ⟨m1, hm1⟩ : ∃ m1, m1 = q * b := ⟨_, rfl⟩
    obtain ⟨m2, hm2⟩ : ∃ m2, m2 = 4294967296 * r := ⟨_, rfl⟩
    obtain ⟨m3, hm3⟩ : ∃ m3, m3 = m2 + w1 := ⟨_, rfl⟩
    have hm1I : (q : Int) * (b : Int) = (m1 : Int) := by rw [hm1]; simp
    have hm2I : (4294967296 : Int) * (r : Int) = (m2 : Int) := by rw [hm2]; simp
    have hm3I : (m2 : Int) + (w1 : Int) = (m3 : Int) := by rw [hm3]; simp
    have hm19 : m1 ≤ 18446744065119617025 := by
     rw [hm1]
     exact Nat.mul_le_mul (show q ≤ 4294967295 by have := HQ.out; omega) (show b ≤ 4294967295 by have := hK.out.2.1; omega)
    have hw1 := wrapN m1 (by omega)
    have hw2 := wrapN m2 (by have := HR9.out; omega)
    have hw3 := wrapN m3 (by have := HR9.out; have := hV.out; omega)
    have HM := hid (show m3 = 4294967296 * r + w1 by omega)
    have HM1 := hid hm1
    clear hm1 hm2 hm3 hm19
    by_cases hlt : m3 < m1
    ·have HLT := hid (show 4294967296 * r + w1 < q * b by rw [← HM.out, ← HM1.out]; exact hlt)
     obtain ⟨p, hq, hTp, hpr⟩ := M.qhat_dec hK.out.1 hU.out hV.out hT.out HLE.out HQR.out (.inr HLT.out)
     obtain ⟨r2, hr2⟩ : ∃ r2, r2 = r + a := ⟨_, rfl⟩
     have hra : (r : Int) + (a : Int) = (r2 : Int) := by omega
     have hdq : (q : Int) - 1 = (p : Int) := by omega
     have hwp := wrapN p (by have := HQ9.out; omega)
     have hwr := wrapN r2 (by have := HR9.out; have := hK.out.2.2; omega)
     rw [← hr2] at hpr
     have H1 := hid (And.intro hTp hpr)
     have H2 := hid (show p ≤ 4294967296 by have := HQ9.out; omega)
     clear hq hTp hpr hr2 
     by_cases hbr : 4294967296 ≤ r2
     ·have hbi : (4294967296 : Int) ≤ (r2 : Int) := by omega
      have hpT := hid (M.qhat_done (hK.out.1) hY0.out hT.out H1.out.1 H1.out.2 (M.qhat_over hK.out.2.1 H2.out hbr))
      clear hbr
      go_wp2_with fail
      go_meet
      exact ⟨r2, by rw [hpT.out], rfl, rfl⟩
     ·have hbi : decide ((4294967296 : Int) ≤ (r2 : Int)) = false := by simp; omega
      have hbr' := hid (show r2 < 4294967296 by omega)
      clear hbr
      go_wp2_with fail
      go_round
      case rel => exact ⟨p, r2, rfl, rfl, H1.out.2, H1.out.1, by have := H2.out; omega, hbr'.out⟩
      case measure => simp [intOf]; all_goals omega
    ·have hpT := hid (M.qhat_done hK.out.1 hY0.out hT.out HLE.out HQR.out (by rw [← HM.out, ← HM1.out]; omega))
     go_wp2_with fail
     go_meet
     exact ⟨r, by rw [hpT.out], rfl, rfl⟩
 case rest =>
  obtain ⟨k, rfl, rfl, rfl⟩ := hcut
  clear hz hz1 hz2 rY ra rb rhs rls ru rw_ rw1 rw0 rq rp rr rq' rp' rr' hI hU hV hT
  go_upto_block 2 with (fail)
  clear rA1 rA2 rA3 rA4 rq2 rp2 rr2 rq2' rp2' rr2'
  go_cut [18, 16] (fun q r wx => ∃ k : Nat, q = .int .u64 (T0 : Int) ∧ r = .int .u64 (k:Int) ∧ W = wx)
  case first =>
   go_wp2_with fail
   go_loop [18, 16] (fun sq sr => ∃ q r : Nat, sq = .int .u64 (q : Int) ∧ sr = .int .u64 (r : Int) ∧ q * a + r = u2 ∧ T0 ≤ q ∧ q ≤ 4294967297 ∧ r < 4294967296) (fun sq _ => (intOf sq).toNat)
   case atStart => exact ⟨q2, r2, rfl, rfl, hI2.out.2.1, hI2.out.1, hI2.out.2.2.1, by have := hI2.out.2.2.2; have := hK.out.2.2; omega⟩
   case round =>
    obtain ⟨q, r, rfl, rfl, hqr, hle, hq9, hr9⟩ := hrel
    have HQR := hid hqr
    have HLE := hid hle
    have HQ9 := hid hq9
    have HR9 := hid hr9
    clear hqr hle hq9 hr9
    by_cases hc1 : 4294967296 ≤ q
    ·have hci : (4294967296 : Int) ≤ (q : Int) := by omega
     obtain ⟨p, hq, hTp, hpr⟩ := M.qhat_dec hK.out.1 hU2.out hV2.out hT2.out HLE.out HQR.out (.inl hc1)
     obtain ⟨r2, hr2⟩ : ∃ r2, r2 = r + a := ⟨_, rfl⟩
     have hra : (r : Int) + (a : Int) = (r2 : Int) := by omega
     have hdq : (q : Int) - 1 = (p : Int) := by omega
     have hwp := wrapN p (by have := HQ9.out; omega)
     have hwr := wrapN r2 (by have := HR9.out; have := hK.out.2.2; omega)
     rw [← hr2] at hpr
     have H1 := hid (And.intro hTp hpr)
     have H2 := hid (show p ≤ 4294967296 by have := HQ9.out; omega)
     clear hq hTp hpr hr2 hc1
     by_cases hbr : 4294967296 ≤ r2
     ·have hbi : (4294967296 : Int) ≤ (r2 : Int) := by omega
      have hpT := hid (M.qhat_done (hK.out.1) hY0.out hT2.out H1.out.1 H1.out.2 (M.qhat_over hK.out.2.1 H2.out hbr))
      clear hbr
      go_wp2_with fail
      go_meet
      exact ⟨r2, by rw [hpT.out], rfl, rfl⟩
     ·have hbi : decide ((4294967296 : Int) ≤ (r2 : Int)) = false := by simp; omega
      have hbr' := hid (show r2 < 4294967296 by omega)
      clear hbr
      go_wp2_with fail
      go_round
      case rel => exact ⟨p, r2, rfl, rfl, H1.out.2, H1.out.1, by have := H2.out; omega, hbr'.out⟩
      case measure => simp [intOf]; all_goals omega
    ·have hci : decide ((4294967296 : Int) ≤ (q : Int)) = false := by simp; omega
     have HQ := hid (show q < 4294967296 by omega)
     clear hc1
     obtain ⟨m1, hm1⟩ : ∃ m1, m1 = q * b := ⟨_, rfl⟩
     obtain ⟨m2, hm2⟩ : ∃ m2, m2 = 4294967296 * r := ⟨_, rfl⟩
     obtain ⟨m3, hm3⟩ : ∃ m3, m3 = m2 + w0 := ⟨_, rfl⟩
     have hm1I : (q : Int) * (b : Int) = (m1 : Int) := by rw [hm1]; simp
     have hm2I : (4294967296 : Int) * (r : Int) = (m2 : Int) := by rw [hm2]; simp
     have hm3I : (m2 : Int) + (w0 : Int) = (m3 : Int) := by rw [hm3]; simp
     have hm19 : m1 ≤ 18446744065119617025 := by
      rw [hm1]
      exact Nat.mul_le_mul (show q ≤ 4294967295 by have := HQ.out; omega) (show b ≤ 4294967295 by have := hK.out.2.1; omega)
     have hw1 := wrapN m1 (by omega)
     have hw2 := wrapN m2 (by have := HR9.out; omega)
     have hw3 := wrapN m3 (by have := HR9.out; have := hV2.out; omega)
     have HM := hid (show m3 = 4294967296 * r + w0 by omega)
     have HM1 := hid hm1
     clear hm1 hm2 hm3 hm19
     by_cases hlt : m3 < m1
     ·have HLT := hid (show 4294967296 * r + w0 < q * b by rw [← HM.out, ← HM1.out]; exact hlt)
      obtain ⟨p, hq, hTp, hpr⟩ := M.qhat_dec hK.out.1 hU2.out hV2.out hT2.out HLE.out HQR.out (.inr HLT.out)
      obtain ⟨r2, hr2⟩ : ∃ r2, r2 = r + a := ⟨_, rfl⟩
      have hra : (r : Int) + (a : Int) = (r2 : Int) := by omega
      have hdq : (q : Int) - 1 = (p : Int) := by omega
      have hwp := wrapN p (by have := HQ9.out; omega)
      have hwr := wrapN r2 (by have := HR9.out; have := hK.out.2.2; omega)
      rw [← hr2] at hpr
      have H1 := hid (And.intro hTp hpr)
      have H2 := hid (show p ≤ 4294967296 by have := HQ9.out; omega)
      clear hq hTp hpr hr2 
      by_cases hbr : 4294967296 ≤ r2
      ·have hbi : (4294967296 : Int) ≤ (r2 : Int) := by omega
       have hpT := hid (M.qhat_done (hK.out.1) hY0.out hT2.out H1.out.1 H1.out.2 (M.qhat_over hK.out.2.1 H2.out hbr))
       clear hbr
       go_wp2_with fail
       go_meet
       exact ⟨r2, by rw [hpT.out], rfl, rfl⟩
      ·have hbi : decide ((4294967296 : Int) ≤ (r2 : Int)) = false := by simp; omega
       have hbr' := hid (show r2 < 4294967296 by omega)
       clear hbr
       go_wp2_with fail
       go_round
       case rel => exact ⟨p, r2, rfl, rfl, H1.out.2, H1.out.1, by have := H2.out; omega, hbr'.out⟩
       case measure => simp [intOf]; all_goals omega
     ·have hpT := hid (M.qhat_done hK.out.1 hY0.out hT2.out HLE.out HQR.out (by rw [← HM.out, ← HM1.out]; omega))
      go_wp2_with fail
      go_meet
      exact ⟨r, by rw [hpT.out], rfl, rfl⟩
  case rest =>
   obtain ⟨k, rfl, rfl, rfl⟩ := hcut
   go_wp2
   go_ret2
   exact ⟨rfl, rfl⟩
theorem wrap_nat (x : Int) : ∃ n : Nat, IntKind.u64.wrap x = (n : Int) := ⟨(IntKind.u64.wrap x).toNat, by rw [IntKind.wrap_u64]; omega⟩
theorem mask32 (x : Nat) (hx : x < 18446744073709551616) : bits .and .u64 (x : Int) 4294967295 = ((x % 4294967296 : Nat) : Int) := by
 have h := bits_and_u64_nat x 4294967295 hx (by omega)
 have e : x &&& 4294967295 = x % 4294967296 := Nat.and_two_pow_sub_one_eq_mod x 32
 rw [e] at h
 exact h
theorem cast_pow2 (n s : Nat) : (n : Int) * 2 ^ s = ((n * 2 ^ s : Nat) : Int) := by simp
theorem cast_div2 (n s : Nat) : (n : Int) / 2 ^ s = ((n / 2 ^ s : Nat) : Int) := by simp
theorem div_a (Y : Nat) : (Y : Int) / 4294967296 = ((Y / 4294967296 : Nat) : Int) := by omega
theorem or_add {h l P s : Nat} (hP : P = 2 ^ s) (hl : l < P) (h1 : h * P < 18446744073709551616) (hs : P ≤ 18446744073709551616) : bits .or .u64 ((h * P : Nat) : Int) (l : Int) = ((h * P + l : Nat) : Int) := by
 rw [bits_or_u64_nat _ _ h1 (by omega)]
 have := Nat.two_pow_add_eq_or_of_lt (i := s) (b := l) (by rw [← hP]; exact hl) h
 rw [← hP] at this
 rw [Nat.mul_comm h P, this]
theorem sub_mod {N u2 QY A A1 A2 A3 v : Nat} (hN : N = A + v) (h2 : QY + u2 = N) (hu : u2 < 18446744073709551616) (r1 : IntKind.u64.wrap (A : Int) = (A1 : Int)) (r2 : IntKind.u64.wrap ((A1 : Int) + (v : Int)) = (A2 : Int)) (r3 : IntKind.u64.wrap (QY : Int) = (A3 : Int)) :
 IntKind.u64.wrap ((A2 : Int) - (A3 : Int)) = (u2 : Int) := by
 rw [IntKind.wrap_u64] at *
 omega
theorem div64_quo (hi lo y : Nat) (hhi : hi < y) (h0 : 0 < hi) (hy : y < 9223372036854775808) (hlo : lo < 18446744073709551616) :
 ∃ r : Nat, ∀ W : World, Calls Tryz.prog 197 #[.int .u64 (hi:Int), .int .u64 (lo:Int), .int .u64 (y : Int)] W (Quo W ((hi * 18446744073709551616 + lo) / y) r) := by
 have hy0 : y ≠ 0 := by omega
 obtain ⟨hL1, hL2, hL3⟩ := Lib.bitLenAux_bounds 64 y (by omega) hy0
 have hL4 : Lib.bitLen y ≤ 63 := Lib.bitLen_le y 63 (by omega) hy
 obtain ⟨L, hL⟩ : ∃ L, L = Lib.bitLen y := ⟨_, rfl⟩
 rw [← hL] at hL4
 change 1 ≤ Lib.bitLen y at hL1
 change 2 ^ (Lib.bitLen y - 1) ≤ y at hL2
 change y < 2 ^ Lib.bitLen y at hL3
 rw [← hL] at hL1 hL2 hL3
 obtain ⟨s, hs⟩ : ∃ s, s = 64 - L := ⟨_, rfl⟩
 obtain ⟨P, hP⟩ : ∃ P, P = 2 ^ s := ⟨_, rfl⟩
 obtain ⟨R, hR⟩ : ∃ R, R = 2 ^ (64 - s) := ⟨_, rfl⟩
 obtain ⟨Y, hY⟩ : ∃ Y, Y = y * P := ⟨_, rfl⟩
 have hPR : P * R = 18446744073709551616 := by rw [hP, hR, ← Nat.pow_add, show s + (64 - s) = 64 by omega]
 have hP0 : 0 < P := by rw [hP]; exact Nat.pow_pos (by omega)
 have hR0 : 0 < R := by rw [hR]; exact Nat.pow_pos (by omega)
 have hP9 : P ≤ 18446744073709551616 := by rw [← hPR]; exact Nat.le_mul_of_pos_right _ hR0
 have hYlo : 9223372036854775808 ≤ Y := by
  have h1 : 2 ^ (L - 1) * P ≤ y * P := Nat.mul_le_mul_right _ hL2
  rw [hP, ← Nat.pow_add, show L - 1 + s = 63 by omega] at h1
  rw [hY, hP]; exact h1
 have hYhi : Y < 18446744073709551616 := by
  have h1 : y * P < 2 ^ L * P := Nat.mul_lt_mul_of_pos_right hL3 hP0
  rw [hP, ← Nat.pow_add, show L + s = 64 by omega] at h1
  rw [hY, hP]; exact h1
 obtain ⟨u, hu⟩ : ∃ u, u = hi * P + lo / R := ⟨_, rfl⟩
 obtain ⟨w, hw⟩ : ∃ w, w = lo * P % 18446744073709551616 := ⟨_, rfl⟩
 obtain ⟨hU, huY, hls⟩ := M.shift_words hPR hY hhi hu hw hlo hP0
 have hw9 : w < 18446744073709551616 := by omega
 have hhsY : hi * P < 18446744073709551616 := by
  have h1 : hi * P ≤ u := by rw [hu]; exact Nat.le_add_right _ _
  exact Nat.lt_of_le_of_lt h1 (Nat.lt_trans huY hYhi)
 have hK1 : Y = Y / 4294967296 * 4294967296 + Y % 4294967296 := by omega
 have ha : 2147483648 ≤ Y / 4294967296 := by omega
 obtain ⟨a, haa⟩ : ∃ a, a = Y / 4294967296 := ⟨_, rfl⟩
 obtain ⟨b, hbb⟩ : ∃ b, b = Y % 4294967296 := ⟨_, rfl⟩
 obtain ⟨w1, hw1⟩ : ∃ w1, w1 = w / 4294967296 := ⟨_, rfl⟩
 obtain ⟨w0, hw0⟩ : ∃ w0, w0 = w % 4294967296 := ⟨_, rfl⟩
 rw [← haa, ← hbb] at hK1
 rw [← haa] at ha
 have hb9 : b < 4294967296 := by omega
 have ha9 : a < 4294967296 := by omega
 have hw19 : w1 < 4294967296 := by omega
 have hw09 : w0 < 4294967296 := by omega
 have digit : ∀ x v : Nat, x < Y → v < 4294967296 → ∃ T q r p : Nat, T = (x * 4294967296 + v) / Y ∧ (T ≤ q ∧ q * a + r = x ∧ q ≤ 4294967297 ∧ r < a) ∧ (x : Int) / (a : Int) = (q : Int) ∧ (q : Int) * (a : Int) = (p : Int) ∧ (x : Int) - (p : Int) = (r : Int) ∧
  IntKind.u64.wrap (q:Int) = (q:Int) ∧ IntKind.u64.wrap (p:Int) = (p:Int) ∧ IntKind.u64.wrap (r:Int) = (r:Int) := by
  intro x v hx hv
  have h := M.qhat_init hK1 hb9 ha hx hv rfl rfl rfl
  have h2 := h.2.1
  refine ⟨_, x / a, x % a, x / a * a, rfl, h, by simp, by simp, by omega, wrapN _ (by have := h.2.2.1; omega), wrapN _ (by omega), wrapN _ (by have := h.2.2.2; omega)⟩
 obtain ⟨T1, q0, r0, p0, hT, hI, rq, rp, rr, rq', rp', rr'⟩ := digit u w1 huY hw19
 have hdm : T1 * Y + (u * 4294967296 + w1) % Y = u * 4294967296 + w1 := by rw [hT, Nat.mul_comm]; exact Nat.div_add_mod _ _
 obtain ⟨u2, hu2⟩ : ∃ u2, u2 = (u * 4294967296 + w1) % Y := ⟨_, rfl⟩
 have hu2Y : u2 < Y := by rw [hu2]; exact Nat.mod_lt _ (by omega)
 rw [← hu2] at hdm
 obtain ⟨T0, q2, r2, p2, hT2, hI2, rq2, rp2, rr2, rq2', rp2', rr2'⟩ := digit u2 w0 hu2Y hw09
 obtain ⟨A1, rA1⟩ := wrap_nat ((u:Int) * 4294967296)
 obtain ⟨A2, rA2⟩ := wrap_nat ((A1:Int) + (w1:Int))
 obtain ⟨A3, rA3⟩ := wrap_nat ((T1:Int) * (Y:Int))
 have rA4 : IntKind.u64.wrap ((A2:Int) - (A3:Int)) = (u2:Int) :=
  sub_mod (A := u * 4294967296) (QY := T1 * Y) (v := w1) rfl hdm (by omega) (by rw [← rA1]; simp) rA2 (by rw [← rA3]; simp)
 obtain ⟨C1, rC1⟩ := wrap_nat ((u2:Int) * 4294967296)
 obtain ⟨C2, rC2⟩ := wrap_nat ((C1:Int) + (w0:Int))
 obtain ⟨C3, rC3⟩ := wrap_nat ((T0:Int) * (Y:Int))
 obtain ⟨C4, rC4⟩ := wrap_nat ((C2:Int) - (C3:Int))
 have hT19 : T1 < 4294967296 := M.qhat_small huY hw19 hT
 have hT09 : T0 < 4294967296 := M.qhat_small hu2Y hw09 hT2
 have hQ : T1 * 4294967296 + T0 = (hi * 18446744073709551616 + lo) / y := M.two_digits hU hY (by omega) hP0 (by omega) hT hu2 hT2
 refine ⟨C4 / 2 ^ s, fun W => ?_⟩
 rw [← hQ]
 refine div64_core hi lo y s Y a b (hi * P) (lo / R) u w w1 w0 q0 r0 p0 W (by simp; omega) (by simp; omega) (by simp; omega) ?_ (by omega) (by omega)
  ?_ (by rw [haa]; exact div_a Y) (by rw [hbb]; exact mask32 Y hYhi) ?_ ?_ ?_ ?_ (by rw [hw1]; exact div_a w) (by rw [hw0]; exact mask32 w hw9)
  (by omega) rq rp rr rq' rp' rr' T1 A1 A2 A3 u2 rA1 rA2 rA3 rA4 q2 r2 p2 rq2 rp2 rr2 rq2' rp2' rr2' T0 (T1 * 4294967296) (T1 * 4294967296 + T0) ?_ ?_
  C1 C2 C3 C4 (C4 / 2 ^ s) rC1 rC2 rC3 rC4 (cast_div2 _ _) hI huY hw19 hT (show 0 < Y by omega) ⟨hK1, hb9, ha9⟩ hI2 hu2Y hw09 hT2
 ·intro w
  refine (Tryz.bits_LeadingZeros64 (y : Int) w (by omega) (by omega)).mono ?_
  rintro e w' ⟨rfl, rfl⟩
  exact ⟨ret_int (by rw [Int.toNat_natCast, ← hL]; omega), rfl⟩
 ·rw [cast_pow2, ← hP, ← hY]; exact wrapN _ hYhi
 ·rw [cast_pow2, ← hP]; exact wrapN _ hhsY
 ·rw [cast_div2, ← hR]
 ·rw [hu]; exact or_add hP hls hhsY hP9
 ·rw [cast_pow2, ← hP, hw, IntKind.wrap_u64]; omega
 ·rw [show (T1 : Int) * 4294967296 = ((T1 * 4294967296 : Nat) : Int) by simp]; exact wrapN _ (by omega)
 ·rw [show ((T1 * 4294967296 : Nat) : Int) + (T0 : Int) = ((T1 * 4294967296 + T0 : Nat) : Int) by simp]; exact wrapN _ (by omega)
theorem div64_any (hi lo y : Nat) (hhi : hi < y) (hy : y < 9223372036854775808) (hlo : lo < 18446744073709551616) :
 ∃ r : Nat, ∀ W : World, Calls Tryz.prog 197 #[.int .u64 (hi:Int), .int .u64 (lo:Int), .int .u64 (y : Int)] W fun e w' => e = .returned (.tuple #[.int .u64 (((hi * 18446744073709551616 + lo) / y : Nat) : Int), .int .u64 (r : Int)]) ∧ ∃ k, w' = W.drewN k := by
 rcases Nat.eq_zero_or_pos hi with h | h
 ·subst h
  refine ⟨lo % y, fun W => ?_⟩
  rw [Nat.zero_mul, Nat.zero_add]
  obtain ⟨q, hq⟩ : ∃ q, q = lo / y := ⟨_, rfl⟩
  obtain ⟨m, hm⟩ : ∃ m, m = lo % y := ⟨_, rfl⟩
  have hqI : (lo : Int) / (y : Int) = (q : Int) := by rw [hq]; simp
  have hmI : (lo : Int) % (y : Int) = (m : Int) := by rw [hm]; simp
  have hq9 : q ≤ lo := by rw [hq]; exact Nat.div_le_self _ _
  have hwq := wrapN q (by omega)
  have hz1 : ((y : Int) == 0) = false := by simp; omega
  have hz3 : ¬ y = 0 := by omega
  have hy1 : 1 ≤ y := by omega
  rw [← hq, ← hm]
  clear hhi hy hlo hq hm hq9
  go_enter Tryz.func197, Tryz.ntmps197
  go_wp2
  go_quiet (fail)
  go_wp2
  go_ret2
  exact ⟨by rw [← hmI]; rfl, _, rfl⟩
 ·obtain ⟨r, hr⟩ := div64_quo hi lo y hhi h hy hlo
  exact ⟨r, fun W => (hr W).mono fun e w' ⟨he, hw⟩ => ⟨he, 0, hw.symm⟩⟩
theorem add64_run (x y : Nat) (w : World) : (callFunc 196 #[.int .u64 (x : Int), .int .u64 (y : Int), .int .u64 0]).run Tryz.prog w =
 .ok (.value (.tuple #[.int .u64 (((x + y) % 18446744073709551616 : Nat) : Int), .int .u64 (((x + y) / 18446744073709551616 : Nat) : Int)])) w := by
 rw [run_callFunc_extern Tryz.func196 (by kernel_rfl) (by kernel_rfl) (by kernel_rfl) (e := add64Entry) (by kernel_rfl), run_add64 (x : Int) (y : Int) 0 (by omega) (by omega) (by omega) (by omega)]
 simp only [Result.andThen]
 congr 5 <;> omega
theorem add_next (ad : Addr) (k : Nat) : (⟨(ad.add k).block, (ad.add k).off + 1, none⟩ : Addr) = ad.add (k + 1) := by
 rw [← Addr.add_add ad k 1]; simp [Addr.add]
theorem quiet_more {P : Program} {f : FuncId} {args : Array Value} {w : World} {a n : Nat} {v : Value}
 (h : Calls P f args (w.drewN (a + n)) fun e w' => e = .returned v ∧ ∃ m, w' = (w.drewN (a + n)).drewN m) :
 Calls P f args (w.drewN (a + n)) fun e w'' => e = .returned v ∧ ∃ m, w'' = w.drewN (a + m) :=
 h.mono fun _ _ ⟨he, m, hm⟩ => ⟨he, n + m, by rw [hm, World.drewN_drewN, Nat.add_assoc]⟩
theorem guess_any (w : World) (g o k cp c' : Nat) (ad : Addr) (x0 x1 x2 y0 y1 : Nat) (hk : k ≤ 100000000) (ho9 : o ≤ 100000000) (hcp : k + 3 ≤ cp) (hc' : k + 2 ≤ c') (hcp9 : cp ≤ 1000000000) (hc9 : c' ≤ 9223372036854775807)
 (h0 : w.cell? ⟨g, o + k, none⟩ = some (.int .u32 (x0 : Int))) (h1 : w.cell? ⟨g, o + k + 1, none⟩ = some (.int .u32 (x1 : Int))) (h2 : w.cell? ⟨g, o + k + 2, none⟩ = some (.int .u32 (x2 : Int)))
 (b0 : w.cell? (ad.add k) = some (.int .u32 (y0 : Int))) (b1 : w.cell? ⟨(ad.add k).block, (ad.add k).off + 1, none⟩ = some (.int .u32 (y1 : Int)))
 (hx0 : (x0 : Int) < 1000000000) (hx1 : (x1 : Int) < 1000000000) (hx2 : (x2 : Int) < 1000000000) (hy0 : (y0 : Int) < 1000000000) (hy1 : (y1 : Int) < 1000000000) (hy : Hid (1 ≤ y1))
 (hlt : Hid (x2 * 1000000000000000000 + x1 * 1000000000 + x0 < (y1 * 1000000000 + y0 + 1) * 1000000000)) :
 Calls Tryz.prog 192 #[.slice (some ⟨g, o, none⟩) (k + 3) cp, .slice (some ad) (k + 2) c'] w fun e w' =>
  e = .returned (.int .u64 (((x2 * 1000000000000000000 + x1 * 1000000000 + x0) / (y1 * 1000000000 + y0) : Nat) : Int)) ∧ ∃ d, w' = w.drewN d := by
 obtain ⟨hi, hhi⟩ : ∃ hi, hi = x2 * 1000000000000000000 / 18446744073709551616 := ⟨_, rfl⟩
 obtain ⟨lo, hlo⟩ : ∃ lo, lo = x2 * 1000000000000000000 % 18446744073709551616 := ⟨_, rfl⟩
 obtain ⟨m, hm⟩ : ∃ m, m = x1 * 1000000000 + x0 := ⟨_, rfl⟩
 obtain ⟨lo2, hlo2⟩ : ∃ l, l = (lo + m) % 18446744073709551616 := ⟨_, rfl⟩
 obtain ⟨cr, hcr⟩ : ∃ c, c = (lo + m) / 18446744073709551616 := ⟨_, rfl⟩
 obtain ⟨h2', hh2⟩ : ∃ h, h = hi + cr := ⟨_, rfl⟩
 obtain ⟨Y, hY⟩ : ∃ Y, Y = y1 * 1000000000 + y0 := ⟨_, rfl⟩
 obtain ⟨X, hX⟩ : ∃ X, X = x2 * 1000000000000000000 + x1 * 1000000000 + x0 := ⟨_, rfl⟩
 have hXX : h2' * 18446744073709551616 + lo2 = X := by omega
 have hYlo : 1000000000 ≤ Y := by have := hy.out; omega
 have hXY : X < Y * 18446744073709551616 := by have h := hlt.out; rw [← hX, ← hY] at h; exact M.gC h hYlo
 have hmul := Tryz.bits_Mul64 x2 1000000000000000000 (by omega) (by omega) w
 rw [← hhi, ← hlo] at hmul
 have hadd := fun W => add64_run lo m W
 rw [← hlo2, ← hcr] at hadd
 obtain ⟨r, hdiv⟩ := div64_any h2' lo2 Y (by omega) (by omega) (by omega)
 rw [hXX] at hdiv
 rw [← hX, ← hY]
 have hmI : (x1 : Int) * 1000000000 + (x0 : Int) = (m : Int) := by omega
 have hYI : (y1 : Int) * 1000000000 + (y0 : Int) = (Y : Int) := by omega
 have hhI : (hi : Int) + (cr : Int) = (h2' : Int) := by omega
 have hwm := wrapN m (by omega)
 have hwY := wrapN Y (by omega)
 have hwh := wrapN h2' (by omega)
 have HMUL := hid (fun d => (show Calls Tryz.prog 195 #[.int .u64 (x2 : Int), .int .u64 1000000000000000000] (w.drewN d) fun e w' => e = .returned (.tuple #[.int .u64 (hi : Int), .int .u64 (lo : Int)]) ∧ w' = w.drewN d by
  have h := Tryz.bits_Mul64 x2 1000000000000000000 (by omega) (by omega) (w.drewN d)
  rw [← hhi, ← hlo] at h
  exact h))
 have HDIV := hid hdiv
 clear hmul hdiv hhi hlo hm hlo2 hcr hh2 hY hX hXX hYlo hXY hlt hy
 go_enter Tryz.func192, Tryz.ntmps192
 go_wp2
 go_quiet (fail)
 go_wp2_with fail
 refine (HMUL.out _).mono ?_
 rintro e w' ⟨rfl, rfl⟩
 go_wp2_with fail
 go_quiet (fail)
 go_wp2_with fail
 go_quiet ((go_at_call 197; exact quiet_more (HDIV.out _)))
 go_wp2
 go_ret
 exact ⟨rfl, drew3 _ _ _ _⟩
def Digit (w : World) (g : Nat) (pre s post : List Nat) (b : Nat) (e : Ending) (w' : World) : Prop :=
 ∃ s' : List Nat, e = .returned (.int .u32 ((M.val s / b : Nat) : Int)) ∧ Blk w' g (pre ++ s' ++ post) ∧ s'.length = s.length ∧ M.small s' = true ∧ M.val s' = M.val s % b ∧ Only g w w'
theorem digit_any (w : World) (g o k cp : Nat) (v : Value) (m pre s post : List Nat) {C : Nat} (hv : Num w C v m) (hC : C ≤ g) (hm : Hid (M.isNat m = true)) (hn : k + 2 = m.length) (hk9 : k ≤ 10000000) (ho9 : o ≤ 10000000) (hcp : k + 3 ≤ cp) (hcp9 : cp ≤ 100000000)
 (hblk : Blk w g (pre ++ s ++ post)) (ho : Hid (pre.length = o)) (hsl : Hid (s.length = k + 3)) (hss : Hid (M.small s = true)) (hlt : Hid (M.val s < M.val m * 1000000000)) :
 Calls Tryz.prog 191 #[.slice (some ⟨g, o, none⟩) (k + 3) cp, v] w (Digit w g pre s post (M.val m)) := by
 have HV := hid hv
 have HBL := hid hblk
 have HN := hid hn
 obtain ⟨A', n', c', rfl, hn', hc', hm', hs', hr'⟩ := hv
 obtain rfl : n' = k + 2 := by omega
 obtain ⟨ad, rfl, had, hcells⟩ := hr'.at_ (k := k) (by omega)
 have hms := (M.isNat_iff.1 hm.out).1
 have hml := (M.isNat_iff.1 hm.out).2
 have hss' := M.small_iff.1 hss.out
 have hms' := M.small_iff.1 hms
 obtain ⟨x0, e0⟩ : ∃ x, s[k]? = some x := ⟨_, List.getElem?_eq_getElem (by rw [hsl.out]; omega)⟩
 obtain ⟨x1, e1⟩ : ∃ x, s[k + 1]? = some x := ⟨_, List.getElem?_eq_getElem (by rw [hsl.out]; omega)⟩
 obtain ⟨x2, e2⟩ : ∃ x, s[k + 2]? = some x := ⟨_, List.getElem?_eq_getElem (by rw [hsl.out]; omega)⟩
 obtain ⟨y0, f0⟩ : ∃ x, m[k]? = some x := ⟨_, List.getElem?_eq_getElem (by omega)⟩
 obtain ⟨y1, f1⟩ : ∃ x, m[k + 1]? = some x := ⟨_, List.getElem?_eq_getElem (by omega)⟩
 have h0 := hss' x0 (List.mem_of_getElem? e0)
 have h1 := hss' x1 (List.mem_of_getElem? e1)
 have h2 := hss' x2 (List.mem_of_getElem? e2)
 have g0 := hms' y0 (List.mem_of_getElem? f0)
 have g1 := hms' y1 (List.mem_of_getElem? f1)
 have hy1 : 1 ≤ y1 := by
  rw [List.getLast?_eq_getElem?, ← hn, show k + 2 - 1 = k + 1 by omega, f1] at hml
  rcases Nat.eq_zero_or_pos y1 with h | h
  ·subst h; exact absurd rfl hml
  ·exact h
 have hX := M.val_three e0 e1 e2 hsl.out
 have hY := M.val_two f0 f1 hn.symm
 have hVs := M.top_split s k (by rw [hsl.out]; omega)
 have hVm := M.top_split m k (by omega)
 have hl1 := M.val_lt (M.small_take hss.out k)
 have hl2 := M.val_lt (M.small_take hms k)
 rw [List.length_take, Nat.min_eq_left (by rw [hsl.out]; omega)] at hl1
 rw [List.length_take, Nat.min_eq_left (by omega)] at hl2
 obtain ⟨t, ht⟩ : ∃ t, t = (x2 * 1000000000000000000 + x1 * 1000000000 + x0) / (y1 * 1000000000 + y0) := ⟨_, rfl⟩
 obtain ⟨q, hq⟩ : ∃ q, q = M.val s / M.val m := ⟨_, rfl⟩
 rw [hX] at hVs
 rw [hY] at hVm
 obtain ⟨hqt, htq, htB, hxy⟩ := M.guess_ok hVs hVm hl1 hl2 (by omega) hlt.out hq ht
 have hbpos : 0 < M.val m := M.val_pos (by intro e; rw [e] at hn; simp at hn) hml
 have hbP : M.val m ≤ 1000000000 ^ s.length := by
  have h3 := M.val_lt hms
  have h4 : 1000000000 ^ m.length ≤ 1000000000 ^ s.length := Nat.pow_le_pow_right (by omega) (by rw [hsl.out]; omega)
  exact Nat.le_trans (Nat.le_of_lt h3) h4
 have hG := guess_any w g o k cp c' ad x0 x1 x2 y0 y1 (by omega) (by omega) hcp hc' (by omega) (by unfold maxLen at hm'; omega)
  (by have := HBL.out.cell (i := o + k) (x := x0) (by rw [M.mid_get ho.out (by rw [hsl.out]; omega)]; exact e0); exact this)
  (by have := HBL.out.cell (i := o + (k + 1)) (x := x1) (by rw [M.mid_get ho.out (by rw [hsl.out]; omega)]; exact e1); exact this)
  (by have := HBL.out.cell (i := o + (k + 2)) (x := x2) (by rw [M.mid_get ho.out (by rw [hsl.out]; omega)]; exact e2); exact this)
  (hcells k y0 f0) (by rw [add_next]; exact hcells (k + 1) y1 f1) (by omega) (by omega) (by omega) (by omega) (by omega) hy1 hxy
 rw [← ht] at hG
 have HGG := hid hG
 have HQT := hid (And.intro hqt htq)
 have HT := hid (show (t : Int) ≤ 1000000000 by omega)
 have HQ := hid hq
 have HBP := hid (And.intro hbpos hbP)
 have HMS := hid hms
 clear hn hn' hc' hm' hs' hr' had hcells hml hss' hms' e0 e1 e2 f0 f1 h0 h1 h2 g0 g1 hy1 hX hY hVs hVm hl1 hl2 ht hq hqt htq htB hxy hbpos hbP hG hms hblk
 unfold Digit
 rw [← HQ.out]
 go_enter Tryz.func191, Tryz.ntmps191
 go_wp2_with fail
 refine HGG.out.mono ?_
 rintro e w' ⟨rfl, d, rfl⟩
 have hbd := below_drewN (Below.refl C w) d
 have HO1 := hid ((Only.refl g w).drewN d)
 have ht9 := HT.out
 go_wp2_with fail
 refine (takeAway_any (w.drewN d) g o (k + 2) cp t _ m pre s post (HV.out.keep hbd (Nat.le_refl _)) hC HMS.out HN.out (by omega) (by omega) HT.out HBL.out ho.out hsl.out hss.out).mono ?_
 rintro e w2 ⟨s1, c, rfl, hb1, hl1, hs1, hv1, ho1⟩
 have HB1 := hid hb1
 have HL1 := hid hl1
 have HS1 := hid hs1
 have HV1 := hid hv1
 have HO2 := hid (HO1.out.trans ho1)
 have hbC : Below C w w2 := HO2.out.below hC HBL.out.lt
 have HVW := hid (HV.out.keep hbC (Nat.le_refl _))
 clear hb1 hl1 hs1 hv1 ho1 hbd hbC
 by_cases hc0 : 0 < c
 ·have hcd : decide (0 < c) = true := by simpa using hc0
  have HC := hid hc0
  clear hc0
  go_wp2_with fail
  refine (putBack_any w2 g o (k + 2) cp _ m pre s1 post HVW.out hC HMS.out HN.out (by omega) (by omega) HB1.out ho.out (HL1.out.trans hsl.out) HS1.out).mono ?_
  rintro e w3 ⟨s2, c2, rfl, hb2, hl2, hs2, hc2, hv2, ho2⟩
  have hfin := M.digit_one HV1.out HC.out (by have := M.val_lt HS1.out; rwa [HL1.out] at this) HQT.out.2 HQT.out.1 HQ.out HBP.out.1 HBP.out.2 (by rw [← HL1.out]; exact hv2) (by have := M.val_lt hs2; rwa [hl2, HL1.out] at this) hc2
  have HF := hid hfin
  have HB2 := hid hb2
  have HS2 := hid hs2
  have HL2 := hid (hl2.trans HL1.out)
  have HO3 := hid (HO2.out.trans ho2)
  have hq9 : (q : Int) ≤ 1000000000 := by omega
  have htq1 : (t : Int) - 1 = (q : Int) := by omega
  clear hfin hb2 hs2 hl2 hc2 hv2 ho2
  go_wp2
  go_ret
  exact ⟨s2, rfl, HB2.out, HL2.out, HS2.out, HF.out.2, HO3.out⟩
 ·have hcd : decide (0 < c) = false := by simpa using hc0
  obtain rfl : c = 0 := by omega
  have hfin := M.digit_zero (by have := HV1.out; rwa [Nat.mul_zero, Nat.add_zero] at this) HQ.out HQT.out.1 HBP.out.1
  have HF := hid hfin
  obtain rfl : t = q := hfin.1
  clear hfin hc0
  go_wp2
  go_ret
  exact ⟨s1, rfl, HB1.out, HL1.out, HS1.out, HF.out.2, HO2.out⟩
theorem wpList_into {w : World} {ops : Array Oper} {rest : List Oper} {o : Oper} {a : Act} {Q : Exit → Act → World → Prop} (hgd : o.guard = none) (d s : Operand)
 (ho : o.op = .call { callee := .builtin .copy, args := #[d, s], argTypes := #[22, 22] }) (g N : Nat) (v : Value) (l : List Nat)
 (hd : a.eval d = .slice (some ⟨g, 0, none⟩) N N) (hs : a.eval s = v) {C : Nat} (hv : Num w C v l) (hN : l.length ≤ N) (hg : Blk w g (List.replicate N 0)) (B : Nat) (w0 : World) (hb : Below B w0 w) (hBg : B ≤ g)
 (h : ∀ (z : Int) w', Hid (Blk w' g (l ++ List.replicate (N - l.length) 0)) → Below B w0 w' → wpList Tryz.prog ops Q rest (a.put o.dst (goInt z)) w') : wpList Tryz.prog ops Q (o :: rest) a w := by
 obtain ⟨i0, hi, hz0, hz1, hz2⟩ := info_parts info_u32
 obtain ⟨A, n, c, rfl, hn, hc, hm, hsm, hr⟩ := hv
 refine wpList_copy_splice hgd d s 22 22 ho 97 Tryz.underlying22 (by rw [hi]; simp [hz1]) (some ⟨g, 0, none⟩) A N N n c hd hs g 0 ((List.replicate N 0).map fun x : Nat => Value.int .u32 (x : Int)) 97 hg
  (l.map fun x : Nat => Value.int .u32 (x : Int)) (by rw [List.length_map, ← hn]; exact (Nat.min_eq_left (by omega)).symm) ?_ (by simp; omega) ?_ B w0 hb hBg ?_
 ·intro h0
  refine ⟨rfl, ?_⟩
  obtain ⟨ad, e, _, hcell⟩ := hr (by rintro rfl; simp at h0)
  refine ⟨ad, e, fun j x hj => ?_⟩
  rw [List.getElem?_map] at hj
  obtain ⟨y, hy, rfl⟩ := Option.map_eq_some_iff.1 hj
  exact hcell j y hy
 ·intro x hx
  obtain ⟨y, _, rfl⟩ := List.mem_map.1 hx
  rfl
 ·intro w' hh hb'
  refine h _ w' ?_ hb'
  have := hh.out
  unfold Hid Blk
  rw [this]
  simp [splice]
theorem limbs_take {l : List Nat} (hs : M.small l = true) : ∃ k, k ≤ l.length ∧ M.limbs (M.val l) = l.take k := by
 have h : ∀ k, k ≤ l.length → M.val (l.take k) = M.val l → ∃ j, j ≤ l.length ∧ M.limbs (M.val l) = l.take j := by
  intro k
  induction k with
  | zero =>
   intro h0 h1
   exact ⟨0, h0, (M.take_done hs h0 h1 (fun _ h => absurd h (by omega))).symm⟩
  | succ k ih =>
   intro h0 h1
   have hlt : k < l.length := by omega
   by_cases hz : l[k] = 0
   ·exact ih (by omega) (by rw [M.take_nought hlt hz]; exact h1)
   ·exact ⟨k + 1, h0, (M.take_done hs h0 h1 (fun _ _ => by simpa using hz)).symm⟩
 exact h l.length (Nat.le_refl _) (by rw [List.take_length])
theorem trimmed_num {w : World} {C : Nat} {A : Option Addr} {n c : Nat} {l : List Nat} (hv : Num w C (.slice A n c) l) (hs : M.small l = true) : Num w C (.slice A (M.limbs (M.val l)).length c) (M.limbs (M.val l)) := by
 obtain ⟨A2, n2, c2, he, hn, hc, hm, hsm, hr⟩ := hv
 injection he with he1 he2 he3
 subst he1 he2 he3
 obtain ⟨k, hk, e⟩ := limbs_take hs
 rw [e]
 exact ⟨_, _, _, rfl, rfl, by rw [List.length_take]; omega, hm, fun x hx => hsm x (List.mem_of_mem_take hx), hr.take k⟩
theorem byRow_any (w : World) (u v : Value) (l m : List Nat) (hu : Num w w.heap.size u l) (hv : Num w w.heap.size v m) (hl : Hid (M.isNat l = true)) (hm : Hid (M.isNat m = true)) (hlen : Hid (l.length ≤ 1000000)) (h2 : Hid (2 ≤ m.length)) (hle : Hid (M.val m ≤ M.val l)) :
 Calls Tryz.prog 183 #[u, v] w (Gives2 w (M.limbs (M.val l / M.val m)) (M.limbs (M.val l % M.val m))) := by
 have HU := hid hu
 have HV := hid hv
 have hml := M.length_le_of_val (M.isNat_iff.1 hl.out).1 (M.isNat_iff.1 hm.out).2 hle.out
 obtain ⟨A, n, c, rfl, hn, _⟩ := hu
 obtain ⟨A', n', c', rfl, hn', _⟩ := hv
 obtain ⟨k, rfl⟩ : ∃ k, n' = k + 2 := ⟨n' - 2, by have := h2.out; omega⟩
 obtain ⟨qn, hqn⟩ : ∃ qn, n + 1 = qn + (k + 2) := ⟨n + 1 - (k + 2), by omega⟩
 have hn9 : n ≤ 1000000 := by rw [hn]; exact hlen.out
 have HN := hid hn
 have HN' := hid hn'
 clear hn hn' hml
 have hmk : ∀ W : World, (Instr.makeSlice 22 (.int .i64 ((n : Int) + 1)) (.int .i64 ((n : Int) + 1))).run Tryz.prog W = .ok (.slice (some ⟨W.heap.size, 0, none⟩) (n + 1) (n + 1)) (W.alloc (.cells (zeros (n + 1)) 97)) :=
  make_u32 _ _ _ _ (n + 1) (n + 1) (by omega) (by omega) (Nat.le_refl _) (by omega)
 have hmk2 : ∀ W : World, (Instr.makeSlice 22 (.int .i64 (qn : Int)) (.int .i64 (qn : Int))).run Tryz.prog W = .ok (.slice (some ⟨W.heap.size, 0, none⟩) qn qn) (W.alloc (.cells (zeros qn) 97)) :=
  make_u32 _ _ _ _ qn qn rfl rfl (Nat.le_refl _) (by omega)
 have hq1 : (n : Int) + 1 - ((k : Int) + 2) = (qn : Int) := by omega
 have HQN := hid hqn
 have hqn9 : qn ≤ 1000001 := by omega
 clear hqn
 go_enter Tryz.func183, Tryz.ntmps183
 go_upto_region 2 with (fail)
 iterate 7 go_step
 refine wpList_into rfl (.tmp 11) (.tmp 12) rfl w.heap.size (n + 1) _ l rfl rfl (HU.out.keep (Ext.alloc w (.cells (zeros (n + 1)) 97)) (Nat.le_refl _)) (by have := HN.out; omega) (Blk.made _ _) w.heap.size w ((Below.refl _ _).alloc (Nat.le_refl _) _) (Nat.le_refl _) ?_
 intro z w1 hb1 hbel
 have HB1 := hid hb1.out
 have HE1 := hid hbel
 clear hb1 hbel hmk
 go_wp2
 have hm9 := hid (M.val_lt (M.isNat_iff.1 hm.out).1)
 have hmpos := hid (M.val_pos (l := m) (by intro e; have h := HN'.out; rw [e] at h; simp at h) (M.isNat_iff.1 hm.out).2)
 have hgh := hid (show w.heap.size < w1.heap.size from HB1.out.lt)
 go_loopw [6] (fun si wr => ∃ (t : Nat) (z : Int) (L o : List Nat), t ≤ qn ∧ z = (t : Int) - 1 ∧ si = .int .i64 z ∧ L.length = n + 1 ∧ M.small L = true ∧ o.length = qn ∧ M.small o = true ∧ Blk wr w.heap.size L ∧ Blk wr w1.heap.size o ∧ Below w.heap.size w wr ∧
  M.val (o.drop t) * (M.val m * 1000000000 ^ t) + M.val L = M.val l ∧ M.val (L.drop t) < M.val m) (fun si _ => (intOf si + 1).toNat)
 case atStart =>
  have h1 := HN.out
  have h2 := HN'.out
  have h3 := HQN.out
  refine ⟨qn, _, l ++ List.replicate (n + 1 - l.length) 0, List.replicate qn 0, Nat.le_refl _, rfl, rfl, by simp; omega, by rw [M.small_append]; exact ⟨(M.isNat_iff.1 hl.out).1, M.small_replicate _⟩, by simp, M.small_replicate _, HB1.out.grow (Ext.alloc _ _), Blk.made _ _, HE1.out.alloc HE1.out.size _, ?_, ?_⟩
  ·rw [List.drop_eq_nil_of_le (by simp), M.val_pad]; simp [M.val]
  ·rw [List.drop_append_of_le_length (by omega), M.val_pad]
   have h4 := M.val_lt (M.small_drop (M.isNat_iff.1 hl.out).1 qn)
   rw [List.length_drop] at h4
   have h5 := M.pow_le_val (k := k + 1) (M.isNat_iff.1 hm.out).1 (M.isNat_iff.1 hm.out).2 (by omega)
   have h6 : 1000000000 ^ (l.length - qn) ≤ 1000000000 ^ (k + 1) := Nat.pow_le_pow_right (by omega) (by omega)
   omega
 case round =>
  obtain ⟨t, zz, L, o, ht, hzz, rfl, hLl, hLs, hol, hos, hbg, hbh, hbel, hval, hlow⟩ := hrel
  have HLL := hid hLl
  have HLS := hid hLs
  have HOL := hid hol
  have HOS := hid hos
  have HBG := hid hbg
  have HBH := hid hbh
  have HB := hid hbel
  have HVAL := hid hval
  have HLOW := hid hlow
  clear hLl hLs hol hos hbg hbh hbel hval hlow
  rcases t with _ | i
  ·obtain rfl : zz = -1 := by omega
   clear hzz
   have h1 := HVAL.out
   have h2 := HLOW.out
   simp only [List.drop_zero, Nat.pow_zero, Nat.mul_one] at h1 h2
   have hdm := M.div_mod_of h1 h2
   have htz := M.tail_zero (l := L) (m := k + 2) (by rw [HLL.out]; have := HQN.out; omega) h2 (by have := hm9.out; rw [← HN'.out] at this; exact Nat.le_of_lt this)
   have hnq := HBH.out.num (fun x hx => by have := M.small_iff.1 HOS.out x hx; omega) (by rw [HOL.out]; unfold maxLen; omega) HOL.out.symm
   have hnl := HBG.out.num_take (fun x hx => by have := M.small_iff.1 HLS.out x hx; omega) (by rw [HLL.out]; unfold maxLen; omega) HLL.out.symm (j := k + 2) (by have := HQN.out; omega)
   have hkn : k + 2 ≤ n + 1 := by have := HQN.out; omega
   have hkI : (k : Int) + 2 ≤ (n : Int) + 1 := by omega
   have hk0 : (0 : Int) ≤ (k : Int) + 2 := by omega
   have hkt : ((k : Int) + 2).toNat = k + 2 := by omega
   have HTQ := hid (fun d => trimmed_eq (wr.drewN d) _ _ _ o (hnq.keep (below_drewN (Below.refl _ wr) d) (Nat.le_refl _)) HOS.out)
   have HTL := hid (fun d => trimmed_eq (wr.drewN d) _ _ _ (L.take (k + 2)) (hnl.keep (below_drewN (Below.refl _ wr) d) (Nat.le_refl _)) (M.small_take HLS.out _))
   have HDM := hid hdm
   have HTZ := hid htz.2
   have HNQ := hid (trimmed_num hnq HOS.out)
   have HNL := hid (trimmed_num hnl (M.small_take HLS.out _))
   clear h1 h2 hdm htz hnq hnl
   go_wp2
   refine wp_region_quiet_lit (by kernel_rfl) (by kernel_rfl) ?_
   repeat (quiet_step ((go_at_call_of 188 (Value.slice (some ⟨w1.heap.size, 0, none⟩) qn qn); exact Calls.quiet_of_same ((HTQ.out _).mono fun _ _ h => ⟨h.1.1, h.2.symm⟩))))
   refine wpQuiet_step (fun K hK => ?_)
   go_simp
   apply Exists.intro
   refine ⟨fun _ => ?_, hK _ ?_⟩
   ·exact Calls.quiet_of_same ((HTL.out _).mono fun _ _ h => ⟨h.1.1, h.2.symm⟩)
   clear hK K
   repeat (quiet_step (fail))
   refine wpQuiet_nil ?_
   intro _ hw'
   obtain ⟨nq, hw''⟩ := hw'
   subst hw''
   go_wp2
   go_ret2
   refine ⟨_, _, rfl, ?_, ?_, below_drewN HB.out _⟩
   ·rw [← HDM.out.1]
    exact HNQ.out.keep (below_drewN (Below.refl _ wr) _) (Nat.le_refl _)
   ·rw [← HDM.out.2, ← HTZ.out]
    exact HNL.out.keep (below_drewN (Below.refl _ wr) _) (Nat.le_refl _)
  ·obtain rfl : zz = (i : Int) := by omega
   clear hzz
   have hb9 : Hid (M.val m ≤ 1000000000 ^ (k + 2)) := by have := hm9.out; rw [← HN'.out] at this; exact Nat.le_of_lt this
   obtain ⟨pre, s, post, rfl, hpre, hsl, hss, hslt, hpz, hps, hpos, hLv⟩ := M.row_cut HLL.out (i := i) (m := k + 2) (by have := HQN.out; omega) HLS.out HLOW.out hb9.out
   have hik : i + (k + 2) ≤ n := by have := HQN.out; omega
   have hiq : i < qn := by omega
   have HPRE := hid hpre
   have HSL := hid hsl
   have HSS := hid hss
   have HSLT := hid hslt
   have HPZ := hid hpz
   have HSM := hid (And.intro hps hpos)
   have HLV := hid hLv
   clear hpre hsl hss hslt hpz hps hpos hLv
   obtain ⟨q, hq⟩ : ∃ q, q = M.val s / M.val m := ⟨_, rfl⟩
   have HQ := hid hq
   have hq9 : q < 1000000000 := by rw [hq]; exact (Nat.div_lt_iff_lt_mul hmpos.out).2 (by rw [Nat.mul_comm]; exact HSLT.out)
   have HQ9 := hid hq9
   clear hq hq9
   go_wp2_with fail
   rw [show i + (k + 2) + 1 - i = k + 3 by omega]
   refine (digit_any wr w.heap.size i k (n + 1 - i) _ m pre s post (HV.out.keep HB.out (Nat.le_refl _)) (Nat.le_refl _) hm.out HN'.out (by omega) (by omega) (by omega) (by omega) HBG.out HPRE.out HSL.out HSS.out HSLT.out).mono ?_
   unfold Digit
   rw [← HQ.out]
   rintro e w3 ⟨s', rfl, hb3, hl3, hs3, hv3, ho3⟩
   have HB3 := hid hb3
   have HL3 := hid hl3
   have HS3 := hid hs3
   have HV3 := hid hv3
   have HBH3 := hid (ho3.blk HBH.out (by have := hgh.out; omega))
   have HE3 := hid (HB.out.trans (ho3.below (Nat.le_refl _) HBG.out.lt))
   clear hb3 hl3 hs3 hv3 ho3
   have hio : i < o.length := by rw [HOL.out]; omega
   obtain ⟨y, hy⟩ : ∃ y, o[i]? = some y := ⟨_, List.getElem?_eq_getElem hio⟩
   have hoc := HBH3.out.cell hy
   have hof := HBH3.out.frozen i
   have HIO := hid hio
   clear hy hio
   go_wp2
   go_roundw
   case rel =>
    have hj := M.val_joined (s := s') HPRE.out HPZ.out
    refine ⟨i, (i : Int) - 1, pre ++ s' ++ post, o.set i q, by omega, rfl, rfl, ?_, ?_, by rw [List.length_set]; exact HOL.out, M.small_set' HOS.out HQ9.out, HB3.out.far (by have := hgh.out; show w.heap.size ≠ w1.heap.size; omega) _, HBH3.out.put _ rfl, HE3.out.setCell (by have := hgh.out; show w.heap.size ≤ w1.heap.size; omega) _, ?_, ?_⟩
    ·have h1 := HLL.out
     have h2 := HL3.out
     simp only [List.length_append] at h1 ⊢
     omega
    ·rw [M.small_append, M.small_append]; exact ⟨⟨HSM.out.1, HS3.out⟩, HSM.out.2⟩
    ·rw [M.drop_set HIO.out]
     have h1 := HVAL.out
     rw [Nat.pow_succ] at h1
     exact M.row_step h1 HLV.out (by rw [hj.1, HV3.out]) HQ.out
    ·rw [hj.2, HV3.out]; exact Nat.mod_lt _ hmpos.out
   case measure => simp [intOf]; all_goals omega
theorem div_any (w : World) (u v : Value) (l m : List Nat) (hu : Num w w.heap.size u l) (hv : Num w w.heap.size v m) (hlen : Hid (l.length ≤ 1000000)) :
 Calls Tryz.prog 171 #[u, v] w (Gives2 w (M.limbs (M.nv l / M.nv m)) (M.limbs (M.nv l % M.nv m))) :=
 div_of w u v l m hu hv (by have := hlen.out; unfold Hid; omega) (fun h2 hle W u v hu hv => by
  have h := byRow_any W u v (M.nat l) (M.nat m) hu hv (M.isNat_nat l) (M.isNat_nat m) (by have := M.nat_length l; have := hlen.out; unfold Hid; omega) h2 (by unfold Hid; rw [M.val_nat, M.val_nat]; exact hle)
  rw [M.val_nat, M.val_nat] at h
  exact h)
end Go.Proofs.YtkhmgdfhggejaaaGreatDoor
