/-
  Contract of the reference: one.
-/
import Derived.Test.YtceplnfjlncekaaQRefB
import Derived.IntWalk
namespace Go.Proofs.Ytceplnfjlncekaa
set_option linter.unusedSimpArgs false
set_option linter.unusedVariables false
open Go.RowKit

def GivesOne (w : World) (l : List UInt8) (a : Nat) (e : Ending) (w' : World) : Prop := ∃ (t : M.Tok) (m : Nat) (ok : Bool), e = .returned (.tuple #[.agg #[.int .i64 t.1, str t.2], .int .i64 (m : Int), .bool ok]) ∧ M.OneIs l a t m ok ∧ Ext w w'
theorem ext_run (s : List UInt8) (a m : Nat) (u : List UInt8) (h : (s.drop a).take m = u) : (⟨s.toArray⟩ : ByteArray).extract a (a + m) = ⟨u.toArray⟩ := by rw [ext_str, show a + m - a = m by omega, h]
theorem ne_byte {b c : UInt8} (h : b ≠ c) {n : Int} (hn : (c.toNat : Int) = n) : ((b.toNat : Int) == n) = false := by
 rw [beq_eq_false_iff_ne]; intro e; exact h (UInt8.toNat_inj.1 (by omega))
theorem takeWhile_get {p : UInt8 → Bool} : ∀ {l : List UInt8} {j : Nat}, j < (l.takeWhile p).length → ∃ x, l[j]? = some x ∧ p x = true
 | [], _, h => by simp at h
 | b :: r, j, h => by
  rw [List.takeWhile_cons] at h
  by_cases hp : p b = true
  ·rw [if_pos hp] at h
   cases j with
   | zero => exact ⟨b, rfl, hp⟩
   | succ j =>
    obtain ⟨x, h1, h2⟩ := takeWhile_get (p := p) (l := r) (j := j) (by simpa using h)
    exact ⟨x, by simpa using h1, h2⟩
  ·rw [if_neg hp] at h; simp at h
theorem run_take {p : UInt8 → Bool} {l u : List UInt8} (h : l.takeWhile p = u) : l.take u.length = u := by rw [← h]; exact (takeWhile_take p l).symm
set_option maxHeartbeats 2000000 in
theorem one_paren (s : List UInt8) (a : Nat) (b : UInt8) (r : List UInt8) (hd : s.drop a = b :: r) (hs : s.length ≤ 1000000) (w : World) (hp : b = 40 ∨ b = 41) : Calls Try.prog 48 #[str s, .int .i64 (a : Int)] w (GivesOne w (b :: r) a) := by
 have hb0 : s[a]? = some b := by have := congrArg (fun l => l[0]?) hd; simpa using this
 have hlt : a < s.length := (List.getElem?_eq_some_iff.1 hb0).1
 have hidx := idx_str 9 Try.underlying9 s a b rfl hb0
 have hrl : r.length + 1 = s.length - a := by rw [← List.length_cons (a := b), ← hd, List.length_drop]
 rcases hp with rfl | rfl
 ·have HO := hid (M.one_par.1 rfl : M.OneIs (40 :: r) a (1, []) (a + 1) true)
  clear hd hb0 hrl
  go_enter Try.func48, Try.ntmps48
  go_wp2
  refine bodyPost_ret (v := .tuple #[.agg #[.int .i64 1, str []], .int .i64 ((a + 1 : Nat) : Int), .bool true]) (by simp [results, Try.results48, go_sem]) rfl ⟨_, _, _, rfl, HO.out, ?_⟩
  exact Ext.alloc _ _
 ·have HO := hid (M.one_par.2 rfl : M.OneIs (41 :: r) a (2, []) (a + 1) true)
  clear hd hb0 hrl
  go_enter Try.func48, Try.ntmps48
  go_wp2
  refine bodyPost_ret (v := .tuple #[.agg #[.int .i64 2, str []], .int .i64 ((a + 1 : Nat) : Int), .bool true]) (by simp [results, Try.results48, go_sem]) rfl ⟨_, _, _, rfl, HO.out, ?_⟩
  exact Ext.alloc _ _
set_option maxHeartbeats 2000000 in
theorem one_colon (s : List UInt8) (a : Nat) (r : List UInt8) (hd : s.drop a = 58 :: r) (hs : s.length ≤ 1000000) (w : World) : Calls Try.prog 48 #[str s, .int .i64 (a : Int)] w (GivesOne w (58 :: r) a) := by
 have hb0 : s[a]? = some 58 := by have := congrArg (fun l => l[0]?) hd; simpa using this
 have hlt : a < s.length := (List.getElem?_eq_some_iff.1 hb0).1
 have hidx := idx_str 9 Try.underlying9 s a 58 rfl hb0
 have hrl : r.length + 1 = s.length - a := by rw [← List.length_cons (a := (58 : UInt8)), ← hd, List.length_drop]
 have hd1 : s.drop (a + 1) = r := by rw [← List.drop_drop, hd]; rfl
 obtain ⟨u, hu⟩ : ∃ u, r.takeWhile M.sym = u := ⟨_, rfl⟩
 obtain ⟨q, hq⟩ : ∃ q, M.isSym u = q := ⟨_, rfl⟩
 obtain ⟨m, hm⟩ : ∃ m, a + 1 + u.length = m := ⟨_, rfl⟩
 have hul : u.length ≤ r.length := by rw [← hu]; exact M.takeWhile_len _ _
 have hml : m ≤ s.length := by omega
 have ham : a + 1 ≤ m := by omega
 obtain ⟨p, hp⟩ : ∃ p, a + 1 = p := ⟨_, rfl⟩
 have hpm : p ≤ m := by omega
 have HX := hid (show (⟨s.toArray⟩ : ByteArray).extract p m = ⟨u.toArray⟩ by rw [← hm, ← hp]; exact ext_run s (a + 1) u.length u (by rw [hd1]; exact run_take hu))
 have HWR := hid (show IntKind.i64.wrap ((a : Int) + 1) = (p : Int) by rw [IntWalk.i64_in _ (by omega)]; omega)
 have HO := hid (hm ▸ M.one_key hu hq : M.OneIs (58 :: r) a (5, u) m q)
 have HD := hid (show ∀ w, Calls Try.prog 55 #[.int .u8 ((58 : UInt8).toNat : Int)] w fun e w' => e = .returned (.bool false) ∧ w = w' from fun w => rDigit_n 58 w)
 have HR := hid (show ∀ w, Calls Try.prog 57 #[str s, .int .i64 ((a + 1 : Nat) : Int)] w fun e w' => e = .returned (.int .i64 (m : Int)) ∧ w = w' from fun w => rRow_n s (a + 1) w (by omega) (by omega) (by rw [hd1, hu]; exact hm))
 have HS := hid (show ∀ w, Calls Try.prog 58 #[str u] w fun e w' => e = .returned (.bool q) ∧ w = w' from fun w => hq ▸ rSymbol_n u (by omega) w)
 clear hd hb0 hrl hd1 hu hq hm hp
 go_enter Try.func48, Try.ntmps48
 go_wp2_with (first | (go_at_call 55; refine (HD.out _).mono ?_; rintro e w' ⟨rfl, rfl⟩) | (go_at_call 57; refine (HR.out _).mono ?_; rintro e w' ⟨rfl, rfl⟩))
 have hwr := HWR.out
 have hx := HX.out
 go_region_with (go_at_call 58; refine (HS.out _).mono ?_; rintro e w' ⟨rfl, rfl⟩)
 go_wp2
 refine bodyPost_ret (v := .tuple #[.agg #[.int .i64 5, str u], .int .i64 (m : Int), .bool q]) (by simp [results, Try.results48, go_sem, Act.put]) (by simp [Act.put]) ⟨_, _, _, rfl, HO.out, ?_⟩
 exact (Ext.alloc _ _).drew'
set_option maxHeartbeats 2000000 in
theorem one_word (s : List UInt8) (a : Nat) (b : UInt8) (r : List UInt8) (hd : s.drop a = b :: r) (hs : s.length ≤ 1000000) (w : World) (n40 : b ≠ 40) (n41 : b ≠ 41) (n58 : b ≠ 58) (h0 : M.dig b = false) (h1 : M.sym b = true) : Calls Try.prog 48 #[str s, .int .i64 (a : Int)] w (GivesOne w (b :: r) a) := by
 have hb0 : s[a]? = some b := by have := congrArg (fun l => l[0]?) hd; simpa using this
 have hlt : a < s.length := (List.getElem?_eq_some_iff.1 hb0).1
 have hidx := idx_str 9 Try.underlying9 s a b rfl hb0
 have hrl : r.length + 1 = s.length - a := by rw [← List.length_cons (a := b), ← hd, List.length_drop]
 have q40 : ((b.toNat : Int) == 40) = false := ne_byte n40 rfl
 have q41 : ((b.toNat : Int) == 41) = false := ne_byte n41 rfl
 have q58 : ((b.toNat : Int) == 58) = false := ne_byte n58 rfl
 obtain ⟨u, hu⟩ : ∃ u, (b :: r).takeWhile M.sym = u := ⟨_, rfl⟩
 obtain ⟨q, hq⟩ : ∃ q, M.isSym u = q := ⟨_, rfl⟩
 obtain ⟨m, hm⟩ : ∃ m, a + u.length = m := ⟨_, rfl⟩
 have hul : u.length ≤ r.length + 1 := by rw [← hu]; exact M.takeWhile_len _ _
 have hml : m ≤ s.length := by omega
 have ham : a ≤ m := by omega
 have HX := hid (show (⟨s.toArray⟩ : ByteArray).extract a m = ⟨u.toArray⟩ by rw [← hm]; exact ext_run s a u.length u (by rw [hd]; exact run_take hu))
 have HO := hid (hm ▸ M.one_sym h0 h1 hu hq : M.OneIs (b :: r) a (4, u) m q)
 have HD := hid (show ∀ w, Calls Try.prog 55 #[.int .u8 (b.toNat : Int)] w fun e w' => e = .returned (.bool false) ∧ w = w' from fun w => h0 ▸ rDigit_n b w)
 have HG := hid (show ∀ w, Calls Try.prog 56 #[.int .u8 (b.toNat : Int)] w fun e w' => e = .returned (.bool true) ∧ w = w' from fun w => h1 ▸ rSign_n b w)
 have HR := hid (show ∀ w, Calls Try.prog 57 #[str s, .int .i64 (a : Int)] w fun e w' => e = .returned (.int .i64 (m : Int)) ∧ w = w' from fun w => rRow_n s a w (by omega) (by omega) (by rw [hd, hu]; exact hm))
 have HS := hid (show ∀ w, Calls Try.prog 58 #[str u] w fun e w' => e = .returned (.bool q) ∧ w = w' from fun w => hq ▸ rSymbol_n u (by omega) w)
 clear hd hb0 hrl hu hq hm h0 h1 n40 n41 n58
 go_enter Try.func48, Try.ntmps48
 go_wp2_with (first | (go_at_call 55; refine (HD.out _).mono ?_; rintro e w' ⟨rfl, rfl⟩) | (go_at_call 56; refine (HG.out _).mono ?_; rintro e w' ⟨rfl, rfl⟩) | (go_at_call 57; refine (HR.out _).mono ?_; rintro e w' ⟨rfl, rfl⟩))
 have hx := HX.out
 go_region_with (go_at_call 58; refine (HS.out _).mono ?_; rintro e w' ⟨rfl, rfl⟩)
 go_wp2
 refine bodyPost_ret (v := .tuple #[.agg #[.int .i64 4, str u], .int .i64 (m : Int), .bool q]) (by simp [results, Try.results48, go_sem, Act.put]) (by simp [Act.put]) ⟨_, _, _, rfl, HO.out, ?_⟩
 exact (Ext.alloc _ _).drew'
set_option maxHeartbeats 2000000 in
theorem one_none (s : List UInt8) (a : Nat) (b : UInt8) (r : List UInt8) (hd : s.drop a = b :: r) (hs : s.length ≤ 1000000) (w : World) (n40 : b ≠ 40) (n41 : b ≠ 41) (n58 : b ≠ 58) (h0 : M.dig b = false) (h1 : M.sym b = false) : Calls Try.prog 48 #[str s, .int .i64 (a : Int)] w (GivesOne w (b :: r) a) := by
 have hb0 : s[a]? = some b := by have := congrArg (fun l => l[0]?) hd; simpa using this
 have hlt : a < s.length := (List.getElem?_eq_some_iff.1 hb0).1
 have hidx := idx_str 9 Try.underlying9 s a b rfl hb0
 have hrl : r.length + 1 = s.length - a := by rw [← List.length_cons (a := b), ← hd, List.length_drop]
 have q40 : ((b.toNat : Int) == 40) = false := ne_byte n40 rfl
 have q41 : ((b.toNat : Int) == 41) = false := ne_byte n41 rfl
 have q58 : ((b.toNat : Int) == 58) = false := ne_byte n58 rfl
 have HO := hid (M.one_no n40 n41 n58 h1 : M.OneIs (b :: r) a (0, []) a false)
 have HD := hid (show ∀ w, Calls Try.prog 55 #[.int .u8 (b.toNat : Int)] w fun e w' => e = .returned (.bool false) ∧ w = w' from fun w => h0 ▸ rDigit_n b w)
 have HG := hid (show ∀ w, Calls Try.prog 56 #[.int .u8 (b.toNat : Int)] w fun e w' => e = .returned (.bool false) ∧ w = w' from fun w => h1 ▸ rSign_n b w)
 clear hd hb0 hrl h0 h1 n40 n41 n58
 go_enter Try.func48, Try.ntmps48
 go_wp2_with (first | (go_at_call 55; refine (HD.out _).mono ?_; rintro e w' ⟨rfl, rfl⟩) | (go_at_call 56; refine (HG.out _).mono ?_; rintro e w' ⟨rfl, rfl⟩))
 refine bodyPost_ret (v := .tuple #[.agg #[.int .i64 0, str []], .int .i64 (a : Int), .bool false]) (by simp [results, Try.results48, go_sem]) rfl ⟨_, _, _, rfl, HO.out, ?_⟩
 first | exact Ext.alloc _ _ | exact ((Ext.alloc _ _).set' (Nat.le_refl _) _).set' (Nat.le_refl _) _
end Go.Proofs.Ytceplnfjlncekaa
