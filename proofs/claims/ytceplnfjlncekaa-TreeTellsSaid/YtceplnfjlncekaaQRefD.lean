/-
  Contract of the reference: one, at a digit.
-/
import Derived.Test.YtceplnfjlncekaaQRefC
namespace Go.Proofs.Ytceplnfjlncekaa
set_option linter.unusedSimpArgs false
set_option linter.unusedVariables false
open Go.RowKit

set_option maxHeartbeats 2000000 in
theorem one_digAE (s : List UInt8) (a : Nat) (b : UInt8) (r : List UInt8) (hd : s.drop a = b :: r) (hs : s.length ≤ 1000000) (w : World) (h0 : M.dig b = true) (u' : List UInt8) (hu : (b :: r).takeWhile M.dig = b :: u') (n48 : b ≠ 48) (hE : a + (b :: u').length = s.length) : Calls Try.prog 48 #[str s, .int .i64 (a : Int)] w (GivesOne w (b :: r) a) := by
 have hb0 : s[a]? = some b := by have := congrArg (fun l => l[0]?) hd; simpa using this
 have hlt : a < s.length := (List.getElem?_eq_some_iff.1 hb0).1
 have hidx := idx_str 9 Try.underlying9 s a b rfl hb0
 have hrl : r.length + 1 = s.length - a := by rw [← List.length_cons (a := b), ← hd, List.length_drop]
 obtain ⟨n40, n41, n58⟩ := M.dig_not h0
 have q40 : ((b.toNat : Int) == 40) = false := ne_byte n40 rfl
 have q41 : ((b.toNat : Int) == 41) = false := ne_byte n41 rfl
 have q58 : ((b.toNat : Int) == 58) = false := ne_byte n58 rfl
 have hg : ∀ h : 0 < (⟨(b :: u').toArray⟩ : ByteArray).size, (⟨(b :: u').toArray⟩ : ByteArray)[0]'h = b := fun _ => rfl
 have q48 : ((b.toNat : Int) == 48) = false := ne_byte n48 rfl
 have q48b : (b == 48) = false := by simpa using n48
 have q48c : ((b.toNat : Int) != 48) = true := by rw [bne, q48]; rfl
 obtain ⟨m, hm⟩ : ∃ m, a + (b :: u').length = m := ⟨_, rfl⟩
 have hul : (b :: u').length ≤ r.length + 1 := by rw [← hu]; exact M.takeWhile_len _ _
 have hml : m ≤ s.length := by omega
 have ham : a < m := by rw [← hm]; simp
 have hx : (⟨s.toArray⟩ : ByteArray).extract a m = ⟨(b :: u').toArray⟩ := by rw [← hm]; exact ext_run s a _ _ (by rw [hd]; exact run_take hu)
 have HO := hid (hm ▸ M.one_num h0 hu (fun c hc => by have := (List.getElem?_eq_some_iff.1 hc).1; simp at this hE; omega) (by rw [M.isNum, if_neg n48, ← hu, List.all_eq_true]; exact fun x hx => M.takeWhile_mem hx) : M.OneIs (b :: r) a (3, (b :: u')) m true)
 have HDG := hid (show ∀ w, Calls Try.prog 55 #[.int .u8 (b.toNat : Int)] w fun e w' => e = .returned (.bool true) ∧ w = w' from fun w => h0 ▸ rDigit_n _ w)
 have HIN := hid (show ∀ k, a ≤ k → k < m → ∃ x, s[k]? = some x ∧ M.dig x = true from fun k hk1 hk2 => by
  have hlt2 : k - a < ((b :: r).takeWhile M.dig).length := by rw [hu]; omega
  obtain ⟨x, h5, h6⟩ := takeWhile_get hlt2
  rw [← hd, List.getElem?_drop, show a + (k - a) = k by omega] at h5
  exact ⟨x, h5, h6⟩)
 have hmE : m = s.length := by rw [← hm]; exact hE
 obtain ⟨L, hL⟩ : ∃ L, L = s.length := ⟨_, rfl⟩
 have hsz : (s.length : Int) = (L : Int) := by rw [hL]
 obtain rfl : m = L := by omega
 have hm9 : m ≤ 1000000 := by omega
 clear hE hmE hL hs
 clear hd hb0 hrl h0 n40 n41 n58 hu hm n48
 go_enter Try.func48, Try.ntmps48
 go_wp2_with (go_at_call 55; refine (HDG.out _).mono ?_; rintro e w' ⟨rfl, rfl⟩)
 go_loop [8] (fun i => ∃ k : Nat, a ≤ k ∧ k ≤ m ∧ i = .int .i64 (k : Int)) (fun i => m - (intOf i).toNat)
 case atStart => exact ⟨a, Nat.le_refl _, by omega, rfl⟩
 case round =>
  obtain ⟨k, hak, hk, rfl⟩ := hrel
  rcases Nat.lt_or_ge k m with hkm | hkm
  ·obtain ⟨x, hx3, hdx⟩ := HIN.out k hak hkm
   have hidk := idx_str 9 Try.underlying9 s k x rfl hx3
   have HX3 := hid (show ∀ w, Calls Try.prog 55 #[.int .u8 (x.toNat : Int)] w fun e w' => e = .returned (.bool true) ∧ w = w' from fun w => hdx ▸ rDigit_n x w)
   have hks : (k : Int) < (m : Int) := by omega
   clear hx3 hdx
   go_wp2_with (go_at_call 55; refine (HX3.out _).mono ?_; rintro e w' ⟨rfl, rfl⟩)
   go_round
   case rel => exact ⟨k + 1, by omega, by omega, by simp⟩
   case measure => simp [intOf]; omega
  ·obtain rfl : k = m := by omega
   go_wp2
   refine bodyPost_ret (v := .tuple #[.agg #[.int .i64 3, str (b :: u')], .int .i64 (k : Int), .bool true]) (by simp [results, Try.results48, go_sem]) rfl ⟨_, _, _, rfl, HO.out, ?_⟩
   first | exact Ext.alloc _ _ | exact ((Ext.alloc _ _).set' (Nat.le_refl _) _).set' (Nat.le_refl _) _
set_option maxHeartbeats 2000000 in
theorem one_digAS (s : List UInt8) (a : Nat) (b : UInt8) (r : List UInt8) (hd : s.drop a = b :: r) (hs : s.length ≤ 1000000) (w : World) (h0 : M.dig b = true) (u' : List UInt8) (hu : (b :: r).takeWhile M.dig = b :: u') (n48 : b ≠ 48) (c : UInt8) (hc : (b :: r)[(b :: u').length]? = some c) (hsc : M.sym c = true) : Calls Try.prog 48 #[str s, .int .i64 (a : Int)] w (GivesOne w (b :: r) a) := by
 have hb0 : s[a]? = some b := by have := congrArg (fun l => l[0]?) hd; simpa using this
 have hlt : a < s.length := (List.getElem?_eq_some_iff.1 hb0).1
 have hidx := idx_str 9 Try.underlying9 s a b rfl hb0
 have hrl : r.length + 1 = s.length - a := by rw [← List.length_cons (a := b), ← hd, List.length_drop]
 obtain ⟨n40, n41, n58⟩ := M.dig_not h0
 have q40 : ((b.toNat : Int) == 40) = false := ne_byte n40 rfl
 have q41 : ((b.toNat : Int) == 41) = false := ne_byte n41 rfl
 have q58 : ((b.toNat : Int) == 58) = false := ne_byte n58 rfl
 have hg : ∀ h : 0 < (⟨(b :: u').toArray⟩ : ByteArray).size, (⟨(b :: u').toArray⟩ : ByteArray)[0]'h = b := fun _ => rfl
 have q48 : ((b.toNat : Int) == 48) = false := ne_byte n48 rfl
 have q48b : (b == 48) = false := by simpa using n48
 have q48c : ((b.toNat : Int) != 48) = true := by rw [bne, q48]; rfl
 obtain ⟨m, hm⟩ : ∃ m, a + (b :: u').length = m := ⟨_, rfl⟩
 have hul : (b :: u').length ≤ r.length + 1 := by rw [← hu]; exact M.takeWhile_len _ _
 have hml : m ≤ s.length := by omega
 have ham : a < m := by rw [← hm]; simp
 have hx : (⟨s.toArray⟩ : ByteArray).extract a m = ⟨(b :: u').toArray⟩ := by rw [← hm]; exact ext_run s a _ _ (by rw [hd]; exact run_take hu)
 have HO := hid (hm ▸ M.one_mix h0 hu hc hsc : M.OneIs (b :: r) a (3, (b :: u')) m false)
 have HDG := hid (show ∀ w, Calls Try.prog 55 #[.int .u8 (b.toNat : Int)] w fun e w' => e = .returned (.bool true) ∧ w = w' from fun w => h0 ▸ rDigit_n _ w)
 have HIN := hid (show ∀ k, a ≤ k → k < m → ∃ x, s[k]? = some x ∧ M.dig x = true from fun k hk1 hk2 => by
  have hlt2 : k - a < ((b :: r).takeWhile M.dig).length := by rw [hu]; omega
  obtain ⟨x, h5, h6⟩ := takeWhile_get hlt2
  rw [← hd, List.getElem?_drop, show a + (k - a) = k by omega] at h5
  exact ⟨x, h5, h6⟩)
 have hcm : s[m]? = some c := by rw [← hm, ← List.getElem?_drop, hd]; exact hc
 have hmE : m < s.length := (List.getElem?_eq_some_iff.1 hcm).1
 have hidm := idx_str 9 Try.underlying9 s m c rfl hcm
 have HDC := hid (show ∀ w, Calls Try.prog 55 #[.int .u8 (c.toNat : Int)] w fun e w' => e = .returned (.bool false) ∧ w = w' from fun w => (M.next_not (p := M.dig) (l := b :: r) (c := c) (by rw [hu]; exact hc)) ▸ rDigit_n c w)
 have HSC := hid (show ∀ w, Calls Try.prog 56 #[.int .u8 (c.toNat : Int)] w fun e w' => e = .returned (.bool true) ∧ w = w' from fun w => hsc ▸ rSign_n c w)
 obtain ⟨L, hL⟩ : ∃ L, L = s.length := ⟨_, rfl⟩
 have hsz : (s.length : Int) = (L : Int) := by rw [hL]
 have hmL : m < L := by omega
 have hL9 : L ≤ 1000000 := by omega
 clear hc hsc hcm hmE hL hs
 clear hd hb0 hrl h0 n40 n41 n58 hu hm n48
 go_enter Try.func48, Try.ntmps48
 go_wp2_with (go_at_call 55; refine (HDG.out _).mono ?_; rintro e w' ⟨rfl, rfl⟩)
 go_loop [8] (fun i => ∃ k : Nat, a ≤ k ∧ k ≤ m ∧ i = .int .i64 (k : Int)) (fun i => L - (intOf i).toNat)
 case atStart => exact ⟨a, Nat.le_refl _, by omega, rfl⟩
 case round =>
  obtain ⟨k, hak, hk, rfl⟩ := hrel
  rcases Nat.lt_or_ge k m with hkm | hkm
  ·obtain ⟨x, hx3, hdx⟩ := HIN.out k hak hkm
   have hidk := idx_str 9 Try.underlying9 s k x rfl hx3
   have HX3 := hid (show ∀ w, Calls Try.prog 55 #[.int .u8 (x.toNat : Int)] w fun e w' => e = .returned (.bool true) ∧ w = w' from fun w => hdx ▸ rDigit_n x w)
   have hks : (k : Int) < (L : Int) := by omega
   clear hx3 hdx
   go_wp2_with (go_at_call 55; refine (HX3.out _).mono ?_; rintro e w' ⟨rfl, rfl⟩)
   go_round
   case rel => exact ⟨k + 1, by omega, by omega, by simp⟩
   case measure => simp [intOf]; omega
  ·obtain rfl : k = m := by omega
   have hkL : k ≤ L := by omega
   have hkL2 : (k : Int) ≤ (L : Int) := by omega
   have hq1 : (k : Int) < (L : Int) := by omega
   have hq2 : ((k : Int) == (L : Int)) = false := by simp; omega
   go_wp2_with (first | (go_at_call 55; refine (HDC.out _).mono ?_; rintro e w' ⟨rfl, rfl⟩) | (go_at_call 56; refine (HSC.out _).mono ?_; rintro e w' ⟨rfl, rfl⟩))
   refine bodyPost_ret (v := .tuple #[.agg #[.int .i64 3, str (b :: u')], .int .i64 (k : Int), .bool false]) (by simp [results, Try.results48, go_sem]) rfl ⟨_, _, _, rfl, HO.out, ?_⟩
   first | exact Ext.alloc _ _ | exact ((Ext.alloc _ _).set' (Nat.le_refl _) _).set' (Nat.le_refl _) _
set_option maxHeartbeats 2000000 in
theorem one_digAN (s : List UInt8) (a : Nat) (b : UInt8) (r : List UInt8) (hd : s.drop a = b :: r) (hs : s.length ≤ 1000000) (w : World) (h0 : M.dig b = true) (u' : List UInt8) (hu : (b :: r).takeWhile M.dig = b :: u') (n48 : b ≠ 48) (c : UInt8) (hc : (b :: r)[(b :: u').length]? = some c) (hsc : M.sym c = false) : Calls Try.prog 48 #[str s, .int .i64 (a : Int)] w (GivesOne w (b :: r) a) := by
 have hb0 : s[a]? = some b := by have := congrArg (fun l => l[0]?) hd; simpa using this
 have hlt : a < s.length := (List.getElem?_eq_some_iff.1 hb0).1
 have hidx := idx_str 9 Try.underlying9 s a b rfl hb0
 have hrl : r.length + 1 = s.length - a := by rw [← List.length_cons (a := b), ← hd, List.length_drop]
 obtain ⟨n40, n41, n58⟩ := M.dig_not h0
 have q40 : ((b.toNat : Int) == 40) = false := ne_byte n40 rfl
 have q41 : ((b.toNat : Int) == 41) = false := ne_byte n41 rfl
 have q58 : ((b.toNat : Int) == 58) = false := ne_byte n58 rfl
 have hg : ∀ h : 0 < (⟨(b :: u').toArray⟩ : ByteArray).size, (⟨(b :: u').toArray⟩ : ByteArray)[0]'h = b := fun _ => rfl
 have q48 : ((b.toNat : Int) == 48) = false := ne_byte n48 rfl
 have q48b : (b == 48) = false := by simpa using n48
 have q48c : ((b.toNat : Int) != 48) = true := by rw [bne, q48]; rfl
 obtain ⟨m, hm⟩ : ∃ m, a + (b :: u').length = m := ⟨_, rfl⟩
 have hul : (b :: u').length ≤ r.length + 1 := by rw [← hu]; exact M.takeWhile_len _ _
 have hml : m ≤ s.length := by omega
 have ham : a < m := by rw [← hm]; simp
 have hx : (⟨s.toArray⟩ : ByteArray).extract a m = ⟨(b :: u').toArray⟩ := by rw [← hm]; exact ext_run s a _ _ (by rw [hd]; exact run_take hu)
 have HO := hid (hm ▸ M.one_num h0 hu (fun c' hc' => by rw [hc] at hc'; injection hc' with e; rw [← e]; exact hsc) (by rw [M.isNum, if_neg n48, ← hu, List.all_eq_true]; exact fun x hx => M.takeWhile_mem hx) : M.OneIs (b :: r) a (3, (b :: u')) m true)
 have HDG := hid (show ∀ w, Calls Try.prog 55 #[.int .u8 (b.toNat : Int)] w fun e w' => e = .returned (.bool true) ∧ w = w' from fun w => h0 ▸ rDigit_n _ w)
 have HIN := hid (show ∀ k, a ≤ k → k < m → ∃ x, s[k]? = some x ∧ M.dig x = true from fun k hk1 hk2 => by
  have hlt2 : k - a < ((b :: r).takeWhile M.dig).length := by rw [hu]; omega
  obtain ⟨x, h5, h6⟩ := takeWhile_get hlt2
  rw [← hd, List.getElem?_drop, show a + (k - a) = k by omega] at h5
  exact ⟨x, h5, h6⟩)
 have hcm : s[m]? = some c := by rw [← hm, ← List.getElem?_drop, hd]; exact hc
 have hmE : m < s.length := (List.getElem?_eq_some_iff.1 hcm).1
 have hidm := idx_str 9 Try.underlying9 s m c rfl hcm
 have HDC := hid (show ∀ w, Calls Try.prog 55 #[.int .u8 (c.toNat : Int)] w fun e w' => e = .returned (.bool false) ∧ w = w' from fun w => (M.next_not (p := M.dig) (l := b :: r) (c := c) (by rw [hu]; exact hc)) ▸ rDigit_n c w)
 have HSC := hid (show ∀ w, Calls Try.prog 56 #[.int .u8 (c.toNat : Int)] w fun e w' => e = .returned (.bool false) ∧ w = w' from fun w => hsc ▸ rSign_n c w)
 obtain ⟨L, hL⟩ : ∃ L, L = s.length := ⟨_, rfl⟩
 have hsz : (s.length : Int) = (L : Int) := by rw [hL]
 have hmL : m < L := by omega
 have hL9 : L ≤ 1000000 := by omega
 clear hc hsc hcm hmE hL hs
 clear hd hb0 hrl h0 n40 n41 n58 hu hm n48
 go_enter Try.func48, Try.ntmps48
 go_wp2_with (go_at_call 55; refine (HDG.out _).mono ?_; rintro e w' ⟨rfl, rfl⟩)
 go_loop [8] (fun i => ∃ k : Nat, a ≤ k ∧ k ≤ m ∧ i = .int .i64 (k : Int)) (fun i => L - (intOf i).toNat)
 case atStart => exact ⟨a, Nat.le_refl _, by omega, rfl⟩
 case round =>
  obtain ⟨k, hak, hk, rfl⟩ := hrel
  rcases Nat.lt_or_ge k m with hkm | hkm
  ·obtain ⟨x, hx3, hdx⟩ := HIN.out k hak hkm
   have hidk := idx_str 9 Try.underlying9 s k x rfl hx3
   have HX3 := hid (show ∀ w, Calls Try.prog 55 #[.int .u8 (x.toNat : Int)] w fun e w' => e = .returned (.bool true) ∧ w = w' from fun w => hdx ▸ rDigit_n x w)
   have hks : (k : Int) < (L : Int) := by omega
   clear hx3 hdx
   go_wp2_with (go_at_call 55; refine (HX3.out _).mono ?_; rintro e w' ⟨rfl, rfl⟩)
   go_round
   case rel => exact ⟨k + 1, by omega, by omega, by simp⟩
   case measure => simp [intOf]; omega
  ·obtain rfl : k = m := by omega
   have hkL : k ≤ L := by omega
   have hkL2 : (k : Int) ≤ (L : Int) := by omega
   have hq1 : (k : Int) < (L : Int) := by omega
   have hq2 : ((k : Int) == (L : Int)) = false := by simp; omega
   go_wp2_with (first | (go_at_call 55; refine (HDC.out _).mono ?_; rintro e w' ⟨rfl, rfl⟩) | (go_at_call 56; refine (HSC.out _).mono ?_; rintro e w' ⟨rfl, rfl⟩))
   refine bodyPost_ret (v := .tuple #[.agg #[.int .i64 3, str (b :: u')], .int .i64 (k : Int), .bool true]) (by simp [results, Try.results48, go_sem]) rfl ⟨_, _, _, rfl, HO.out, ?_⟩
   first | exact Ext.alloc _ _ | exact ((Ext.alloc _ _).set' (Nat.le_refl _) _).set' (Nat.le_refl _) _
set_option maxHeartbeats 2000000 in
theorem one_digBE (s : List UInt8) (a : Nat) (b : UInt8) (r : List UInt8) (hd : s.drop a = b :: r) (hs : s.length ≤ 1000000) (w : World) (h0 : M.dig b = true) (hb : b = 48) (hu : (b :: r).takeWhile M.dig = [48]) (hE : a + ([48] : List UInt8).length = s.length) : Calls Try.prog 48 #[str s, .int .i64 (a : Int)] w (GivesOne w (b :: r) a) := by
 have hb0 : s[a]? = some b := by have := congrArg (fun l => l[0]?) hd; simpa using this
 have hlt : a < s.length := (List.getElem?_eq_some_iff.1 hb0).1
 have hidx := idx_str 9 Try.underlying9 s a b rfl hb0
 have hrl : r.length + 1 = s.length - a := by rw [← List.length_cons (a := b), ← hd, List.length_drop]
 obtain ⟨n40, n41, n58⟩ := M.dig_not h0
 have q40 : ((b.toNat : Int) == 40) = false := ne_byte n40 rfl
 have q41 : ((b.toNat : Int) == 41) = false := ne_byte n41 rfl
 have q58 : ((b.toNat : Int) == 58) = false := ne_byte n58 rfl
 subst hb
 obtain ⟨m, hm⟩ : ∃ m, a + ([48] : List UInt8).length = m := ⟨_, rfl⟩
 have hul : ([48] : List UInt8).length ≤ r.length + 1 := by rw [← hu]; exact M.takeWhile_len _ _
 have hml : m ≤ s.length := by omega
 have ham : a < m := by rw [← hm]; simp
 have hx : (⟨s.toArray⟩ : ByteArray).extract a m = ⟨([48] : List UInt8).toArray⟩ := by rw [← hm]; exact ext_run s a _ _ (by rw [hd]; exact run_take hu)
 have HO := hid (hm ▸ M.one_num h0 hu (fun c hc => by have := (List.getElem?_eq_some_iff.1 hc).1; simp at this hE; omega) (rfl) : M.OneIs (48 :: r) a (3, ([48] : List UInt8)) m true)
 have HDG := hid (show ∀ w, Calls Try.prog 55 #[.int .u8 ((48 : UInt8).toNat : Int)] w fun e w' => e = .returned (.bool true) ∧ w = w' from fun w => h0 ▸ rDigit_n _ w)
 have HIN := hid (show ∀ k, a ≤ k → k < m → ∃ x, s[k]? = some x ∧ M.dig x = true from fun k hk1 hk2 => by
  have hlt2 : k - a < ((48 :: r).takeWhile M.dig).length := by rw [hu]; omega
  obtain ⟨x, h5, h6⟩ := takeWhile_get hlt2
  rw [← hd, List.getElem?_drop, show a + (k - a) = k by omega] at h5
  exact ⟨x, h5, h6⟩)
 have hmE : m = s.length := by rw [← hm]; exact hE
 obtain ⟨L, hL⟩ : ∃ L, L = s.length := ⟨_, rfl⟩
 have hsz : (s.length : Int) = (L : Int) := by rw [hL]
 obtain rfl : m = L := by omega
 have hm9 : m ≤ 1000000 := by omega
 clear hE hmE hL hs
 clear hd hb0 hrl h0 n40 n41 n58 hu hm
 go_enter Try.func48, Try.ntmps48
 go_wp2_with (go_at_call 55; refine (HDG.out _).mono ?_; rintro e w' ⟨rfl, rfl⟩)
 go_loop [8] (fun i => ∃ k : Nat, a ≤ k ∧ k ≤ m ∧ i = .int .i64 (k : Int)) (fun i => m - (intOf i).toNat)
 case atStart => exact ⟨a, Nat.le_refl _, by omega, rfl⟩
 case round =>
  obtain ⟨k, hak, hk, rfl⟩ := hrel
  rcases Nat.lt_or_ge k m with hkm | hkm
  ·obtain ⟨x, hx3, hdx⟩ := HIN.out k hak hkm
   have hidk := idx_str 9 Try.underlying9 s k x rfl hx3
   have HX3 := hid (show ∀ w, Calls Try.prog 55 #[.int .u8 (x.toNat : Int)] w fun e w' => e = .returned (.bool true) ∧ w = w' from fun w => hdx ▸ rDigit_n x w)
   have hks : (k : Int) < (m : Int) := by omega
   clear hx3 hdx
   go_wp2_with (go_at_call 55; refine (HX3.out _).mono ?_; rintro e w' ⟨rfl, rfl⟩)
   go_round
   case rel => exact ⟨k + 1, by omega, by omega, by simp⟩
   case measure => simp [intOf]; omega
  ·obtain rfl : k = m := by omega
   go_wp2
   refine bodyPost_ret (v := .tuple #[.agg #[.int .i64 3, str ([48] : List UInt8)], .int .i64 (k : Int), .bool true]) (by simp [results, Try.results48, go_sem]) rfl ⟨_, _, _, rfl, HO.out, ?_⟩
   first | exact Ext.alloc _ _ | exact ((Ext.alloc _ _).set' (Nat.le_refl _) _).set' (Nat.le_refl _) _
set_option maxHeartbeats 2000000 in
theorem one_digBS (s : List UInt8) (a : Nat) (b : UInt8) (r : List UInt8) (hd : s.drop a = b :: r) (hs : s.length ≤ 1000000) (w : World) (h0 : M.dig b = true) (hb : b = 48) (hu : (b :: r).takeWhile M.dig = [48]) (c : UInt8) (hc : (b :: r)[([48] : List UInt8).length]? = some c) (hsc : M.sym c = true) : Calls Try.prog 48 #[str s, .int .i64 (a : Int)] w (GivesOne w (b :: r) a) := by
 have hb0 : s[a]? = some b := by have := congrArg (fun l => l[0]?) hd; simpa using this
 have hlt : a < s.length := (List.getElem?_eq_some_iff.1 hb0).1
 have hidx := idx_str 9 Try.underlying9 s a b rfl hb0
 have hrl : r.length + 1 = s.length - a := by rw [← List.length_cons (a := b), ← hd, List.length_drop]
 obtain ⟨n40, n41, n58⟩ := M.dig_not h0
 have q40 : ((b.toNat : Int) == 40) = false := ne_byte n40 rfl
 have q41 : ((b.toNat : Int) == 41) = false := ne_byte n41 rfl
 have q58 : ((b.toNat : Int) == 58) = false := ne_byte n58 rfl
 subst hb
 obtain ⟨m, hm⟩ : ∃ m, a + ([48] : List UInt8).length = m := ⟨_, rfl⟩
 have hul : ([48] : List UInt8).length ≤ r.length + 1 := by rw [← hu]; exact M.takeWhile_len _ _
 have hml : m ≤ s.length := by omega
 have ham : a < m := by rw [← hm]; simp
 have hx : (⟨s.toArray⟩ : ByteArray).extract a m = ⟨([48] : List UInt8).toArray⟩ := by rw [← hm]; exact ext_run s a _ _ (by rw [hd]; exact run_take hu)
 have HO := hid (hm ▸ M.one_mix h0 hu hc hsc : M.OneIs (48 :: r) a (3, ([48] : List UInt8)) m false)
 have HDG := hid (show ∀ w, Calls Try.prog 55 #[.int .u8 ((48 : UInt8).toNat : Int)] w fun e w' => e = .returned (.bool true) ∧ w = w' from fun w => h0 ▸ rDigit_n _ w)
 have HIN := hid (show ∀ k, a ≤ k → k < m → ∃ x, s[k]? = some x ∧ M.dig x = true from fun k hk1 hk2 => by
  have hlt2 : k - a < ((48 :: r).takeWhile M.dig).length := by rw [hu]; omega
  obtain ⟨x, h5, h6⟩ := takeWhile_get hlt2
  rw [← hd, List.getElem?_drop, show a + (k - a) = k by omega] at h5
  exact ⟨x, h5, h6⟩)
 have hcm : s[m]? = some c := by rw [← hm, ← List.getElem?_drop, hd]; exact hc
 have hmE : m < s.length := (List.getElem?_eq_some_iff.1 hcm).1
 have hidm := idx_str 9 Try.underlying9 s m c rfl hcm
 have HDC := hid (show ∀ w, Calls Try.prog 55 #[.int .u8 (c.toNat : Int)] w fun e w' => e = .returned (.bool false) ∧ w = w' from fun w => (M.next_not (p := M.dig) (l := 48 :: r) (c := c) (by rw [hu]; exact hc)) ▸ rDigit_n c w)
 have HSC := hid (show ∀ w, Calls Try.prog 56 #[.int .u8 (c.toNat : Int)] w fun e w' => e = .returned (.bool true) ∧ w = w' from fun w => hsc ▸ rSign_n c w)
 obtain ⟨L, hL⟩ : ∃ L, L = s.length := ⟨_, rfl⟩
 have hsz : (s.length : Int) = (L : Int) := by rw [hL]
 have hmL : m < L := by omega
 have hL9 : L ≤ 1000000 := by omega
 clear hc hsc hcm hmE hL hs
 clear hd hb0 hrl h0 n40 n41 n58 hu hm
 go_enter Try.func48, Try.ntmps48
 go_wp2_with (go_at_call 55; refine (HDG.out _).mono ?_; rintro e w' ⟨rfl, rfl⟩)
 go_loop [8] (fun i => ∃ k : Nat, a ≤ k ∧ k ≤ m ∧ i = .int .i64 (k : Int)) (fun i => L - (intOf i).toNat)
 case atStart => exact ⟨a, Nat.le_refl _, by omega, rfl⟩
 case round =>
  obtain ⟨k, hak, hk, rfl⟩ := hrel
  rcases Nat.lt_or_ge k m with hkm | hkm
  ·obtain ⟨x, hx3, hdx⟩ := HIN.out k hak hkm
   have hidk := idx_str 9 Try.underlying9 s k x rfl hx3
   have HX3 := hid (show ∀ w, Calls Try.prog 55 #[.int .u8 (x.toNat : Int)] w fun e w' => e = .returned (.bool true) ∧ w = w' from fun w => hdx ▸ rDigit_n x w)
   have hks : (k : Int) < (L : Int) := by omega
   clear hx3 hdx
   go_wp2_with (go_at_call 55; refine (HX3.out _).mono ?_; rintro e w' ⟨rfl, rfl⟩)
   go_round
   case rel => exact ⟨k + 1, by omega, by omega, by simp⟩
   case measure => simp [intOf]; omega
  ·obtain rfl : k = m := by omega
   have hkL : k ≤ L := by omega
   have hkL2 : (k : Int) ≤ (L : Int) := by omega
   have hq1 : (k : Int) < (L : Int) := by omega
   have hq2 : ((k : Int) == (L : Int)) = false := by simp; omega
   go_wp2_with (first | (go_at_call 55; refine (HDC.out _).mono ?_; rintro e w' ⟨rfl, rfl⟩) | (go_at_call 56; refine (HSC.out _).mono ?_; rintro e w' ⟨rfl, rfl⟩))
   refine bodyPost_ret (v := .tuple #[.agg #[.int .i64 3, str ([48] : List UInt8)], .int .i64 (k : Int), .bool false]) (by simp [results, Try.results48, go_sem]) rfl ⟨_, _, _, rfl, HO.out, ?_⟩
   first | exact Ext.alloc _ _ | exact ((Ext.alloc _ _).set' (Nat.le_refl _) _).set' (Nat.le_refl _) _
set_option maxHeartbeats 2000000 in
theorem one_digBN (s : List UInt8) (a : Nat) (b : UInt8) (r : List UInt8) (hd : s.drop a = b :: r) (hs : s.length ≤ 1000000) (w : World) (h0 : M.dig b = true) (hb : b = 48) (hu : (b :: r).takeWhile M.dig = [48]) (c : UInt8) (hc : (b :: r)[([48] : List UInt8).length]? = some c) (hsc : M.sym c = false) : Calls Try.prog 48 #[str s, .int .i64 (a : Int)] w (GivesOne w (b :: r) a) := by
 have hb0 : s[a]? = some b := by have := congrArg (fun l => l[0]?) hd; simpa using this
 have hlt : a < s.length := (List.getElem?_eq_some_iff.1 hb0).1
 have hidx := idx_str 9 Try.underlying9 s a b rfl hb0
 have hrl : r.length + 1 = s.length - a := by rw [← List.length_cons (a := b), ← hd, List.length_drop]
 obtain ⟨n40, n41, n58⟩ := M.dig_not h0
 have q40 : ((b.toNat : Int) == 40) = false := ne_byte n40 rfl
 have q41 : ((b.toNat : Int) == 41) = false := ne_byte n41 rfl
 have q58 : ((b.toNat : Int) == 58) = false := ne_byte n58 rfl
 subst hb
 obtain ⟨m, hm⟩ : ∃ m, a + ([48] : List UInt8).length = m := ⟨_, rfl⟩
 have hul : ([48] : List UInt8).length ≤ r.length + 1 := by rw [← hu]; exact M.takeWhile_len _ _
 have hml : m ≤ s.length := by omega
 have ham : a < m := by rw [← hm]; simp
 have hx : (⟨s.toArray⟩ : ByteArray).extract a m = ⟨([48] : List UInt8).toArray⟩ := by rw [← hm]; exact ext_run s a _ _ (by rw [hd]; exact run_take hu)
 have HO := hid (hm ▸ M.one_num h0 hu (fun c' hc' => by rw [hc] at hc'; injection hc' with e; rw [← e]; exact hsc) (rfl) : M.OneIs (48 :: r) a (3, ([48] : List UInt8)) m true)
 have HDG := hid (show ∀ w, Calls Try.prog 55 #[.int .u8 ((48 : UInt8).toNat : Int)] w fun e w' => e = .returned (.bool true) ∧ w = w' from fun w => h0 ▸ rDigit_n _ w)
 have HIN := hid (show ∀ k, a ≤ k → k < m → ∃ x, s[k]? = some x ∧ M.dig x = true from fun k hk1 hk2 => by
  have hlt2 : k - a < ((48 :: r).takeWhile M.dig).length := by rw [hu]; omega
  obtain ⟨x, h5, h6⟩ := takeWhile_get hlt2
  rw [← hd, List.getElem?_drop, show a + (k - a) = k by omega] at h5
  exact ⟨x, h5, h6⟩)
 have hcm : s[m]? = some c := by rw [← hm, ← List.getElem?_drop, hd]; exact hc
 have hmE : m < s.length := (List.getElem?_eq_some_iff.1 hcm).1
 have hidm := idx_str 9 Try.underlying9 s m c rfl hcm
 have HDC := hid (show ∀ w, Calls Try.prog 55 #[.int .u8 (c.toNat : Int)] w fun e w' => e = .returned (.bool false) ∧ w = w' from fun w => (M.next_not (p := M.dig) (l := 48 :: r) (c := c) (by rw [hu]; exact hc)) ▸ rDigit_n c w)
 have HSC := hid (show ∀ w, Calls Try.prog 56 #[.int .u8 (c.toNat : Int)] w fun e w' => e = .returned (.bool false) ∧ w = w' from fun w => hsc ▸ rSign_n c w)
 obtain ⟨L, hL⟩ : ∃ L, L = s.length := ⟨_, rfl⟩
 have hsz : (s.length : Int) = (L : Int) := by rw [hL]
 have hmL : m < L := by omega
 have hL9 : L ≤ 1000000 := by omega
 clear hc hsc hcm hmE hL hs
 clear hd hb0 hrl h0 n40 n41 n58 hu hm
 go_enter Try.func48, Try.ntmps48
 go_wp2_with (go_at_call 55; refine (HDG.out _).mono ?_; rintro e w' ⟨rfl, rfl⟩)
 go_loop [8] (fun i => ∃ k : Nat, a ≤ k ∧ k ≤ m ∧ i = .int .i64 (k : Int)) (fun i => L - (intOf i).toNat)
 case atStart => exact ⟨a, Nat.le_refl _, by omega, rfl⟩
 case round =>
  obtain ⟨k, hak, hk, rfl⟩ := hrel
  rcases Nat.lt_or_ge k m with hkm | hkm
  ·obtain ⟨x, hx3, hdx⟩ := HIN.out k hak hkm
   have hidk := idx_str 9 Try.underlying9 s k x rfl hx3
   have HX3 := hid (show ∀ w, Calls Try.prog 55 #[.int .u8 (x.toNat : Int)] w fun e w' => e = .returned (.bool true) ∧ w = w' from fun w => hdx ▸ rDigit_n x w)
   have hks : (k : Int) < (L : Int) := by omega
   clear hx3 hdx
   go_wp2_with (go_at_call 55; refine (HX3.out _).mono ?_; rintro e w' ⟨rfl, rfl⟩)
   go_round
   case rel => exact ⟨k + 1, by omega, by omega, by simp⟩
   case measure => simp [intOf]; omega
  ·obtain rfl : k = m := by omega
   have hkL : k ≤ L := by omega
   have hkL2 : (k : Int) ≤ (L : Int) := by omega
   have hq1 : (k : Int) < (L : Int) := by omega
   have hq2 : ((k : Int) == (L : Int)) = false := by simp; omega
   go_wp2_with (first | (go_at_call 55; refine (HDC.out _).mono ?_; rintro e w' ⟨rfl, rfl⟩) | (go_at_call 56; refine (HSC.out _).mono ?_; rintro e w' ⟨rfl, rfl⟩))
   refine bodyPost_ret (v := .tuple #[.agg #[.int .i64 3, str ([48] : List UInt8)], .int .i64 (k : Int), .bool true]) (by simp [results, Try.results48, go_sem]) rfl ⟨_, _, _, rfl, HO.out, ?_⟩
   first | exact Ext.alloc _ _ | exact ((Ext.alloc _ _).set' (Nat.le_refl _) _).set' (Nat.le_refl _) _
set_option maxHeartbeats 2000000 in
theorem one_digCE (s : List UInt8) (a : Nat) (b : UInt8) (r : List UInt8) (hd : s.drop a = b :: r) (hs : s.length ≤ 1000000) (w : World) (h0 : M.dig b = true) (c3 : UInt8) (u' : List UInt8) (hb : b = 48) (hu : (b :: r).takeWhile M.dig = 48 :: c3 :: u') (hE : a + (48 :: c3 :: u').length = s.length) : Calls Try.prog 48 #[str s, .int .i64 (a : Int)] w (GivesOne w (b :: r) a) := by
 have hb0 : s[a]? = some b := by have := congrArg (fun l => l[0]?) hd; simpa using this
 have hlt : a < s.length := (List.getElem?_eq_some_iff.1 hb0).1
 have hidx := idx_str 9 Try.underlying9 s a b rfl hb0
 have hrl : r.length + 1 = s.length - a := by rw [← List.length_cons (a := b), ← hd, List.length_drop]
 obtain ⟨n40, n41, n58⟩ := M.dig_not h0
 have q40 : ((b.toNat : Int) == 40) = false := ne_byte n40 rfl
 have q41 : ((b.toNat : Int) == 41) = false := ne_byte n41 rfl
 have q58 : ((b.toNat : Int) == 58) = false := ne_byte n58 rfl
 subst hb
 have hg : ∀ h : 0 < (⟨(48 :: c3 :: u').toArray⟩ : ByteArray).size, (⟨(48 :: c3 :: u').toArray⟩ : ByteArray)[0]'h = 48 := fun _ => rfl
 obtain ⟨m, hm⟩ : ∃ m, a + (48 :: c3 :: u').length = m := ⟨_, rfl⟩
 have hul : (48 :: c3 :: u').length ≤ r.length + 1 := by rw [← hu]; exact M.takeWhile_len _ _
 have hml : m ≤ s.length := by omega
 have ham : a < m := by rw [← hm]; simp
 have hx : (⟨s.toArray⟩ : ByteArray).extract a m = ⟨(48 :: c3 :: u').toArray⟩ := by rw [← hm]; exact ext_run s a _ _ (by rw [hd]; exact run_take hu)
 have HO := hid (hm ▸ M.one_num h0 hu (fun c hc => by have := (List.getElem?_eq_some_iff.1 hc).1; simp at this hE; omega) (by simp [M.isNum]) : M.OneIs (48 :: r) a (3, (48 :: c3 :: u')) m false)
 have HDG := hid (show ∀ w, Calls Try.prog 55 #[.int .u8 ((48 : UInt8).toNat : Int)] w fun e w' => e = .returned (.bool true) ∧ w = w' from fun w => h0 ▸ rDigit_n _ w)
 have HIN := hid (show ∀ k, a ≤ k → k < m → ∃ x, s[k]? = some x ∧ M.dig x = true from fun k hk1 hk2 => by
  have hlt2 : k - a < ((48 :: r).takeWhile M.dig).length := by rw [hu]; omega
  obtain ⟨x, h5, h6⟩ := takeWhile_get hlt2
  rw [← hd, List.getElem?_drop, show a + (k - a) = k by omega] at h5
  exact ⟨x, h5, h6⟩)
 have hmE : m = s.length := by rw [← hm]; exact hE
 obtain ⟨L, hL⟩ : ∃ L, L = s.length := ⟨_, rfl⟩
 have hsz : (s.length : Int) = (L : Int) := by rw [hL]
 obtain rfl : m = L := by omega
 have hm9 : m ≤ 1000000 := by omega
 clear hE hmE hL hs
 clear hd hb0 hrl h0 n40 n41 n58 hu hm
 go_enter Try.func48, Try.ntmps48
 go_wp2_with (go_at_call 55; refine (HDG.out _).mono ?_; rintro e w' ⟨rfl, rfl⟩)
 go_loop [8] (fun i => ∃ k : Nat, a ≤ k ∧ k ≤ m ∧ i = .int .i64 (k : Int)) (fun i => m - (intOf i).toNat)
 case atStart => exact ⟨a, Nat.le_refl _, by omega, rfl⟩
 case round =>
  obtain ⟨k, hak, hk, rfl⟩ := hrel
  rcases Nat.lt_or_ge k m with hkm | hkm
  ·obtain ⟨x, hx3, hdx⟩ := HIN.out k hak hkm
   have hidk := idx_str 9 Try.underlying9 s k x rfl hx3
   have HX3 := hid (show ∀ w, Calls Try.prog 55 #[.int .u8 (x.toNat : Int)] w fun e w' => e = .returned (.bool true) ∧ w = w' from fun w => hdx ▸ rDigit_n x w)
   have hks : (k : Int) < (m : Int) := by omega
   clear hx3 hdx
   go_wp2_with (go_at_call 55; refine (HX3.out _).mono ?_; rintro e w' ⟨rfl, rfl⟩)
   go_round
   case rel => exact ⟨k + 1, by omega, by omega, by simp⟩
   case measure => simp [intOf]; omega
  ·obtain rfl : k = m := by omega
   go_wp2
   refine bodyPost_ret (v := .tuple #[.agg #[.int .i64 3, str (48 :: c3 :: u')], .int .i64 (k : Int), .bool false]) (by simp [results, Try.results48, go_sem]) rfl ⟨_, _, _, rfl, HO.out, ?_⟩
   first | exact Ext.alloc _ _ | exact ((Ext.alloc _ _).set' (Nat.le_refl _) _).set' (Nat.le_refl _) _
set_option maxHeartbeats 2000000 in
theorem one_digCS (s : List UInt8) (a : Nat) (b : UInt8) (r : List UInt8) (hd : s.drop a = b :: r) (hs : s.length ≤ 1000000) (w : World) (h0 : M.dig b = true) (c3 : UInt8) (u' : List UInt8) (hb : b = 48) (hu : (b :: r).takeWhile M.dig = 48 :: c3 :: u') (c : UInt8) (hc : (b :: r)[(48 :: c3 :: u').length]? = some c) (hsc : M.sym c = true) : Calls Try.prog 48 #[str s, .int .i64 (a : Int)] w (GivesOne w (b :: r) a) := by
 have hb0 : s[a]? = some b := by have := congrArg (fun l => l[0]?) hd; simpa using this
 have hlt : a < s.length := (List.getElem?_eq_some_iff.1 hb0).1
 have hidx := idx_str 9 Try.underlying9 s a b rfl hb0
 have hrl : r.length + 1 = s.length - a := by rw [← List.length_cons (a := b), ← hd, List.length_drop]
 obtain ⟨n40, n41, n58⟩ := M.dig_not h0
 have q40 : ((b.toNat : Int) == 40) = false := ne_byte n40 rfl
 have q41 : ((b.toNat : Int) == 41) = false := ne_byte n41 rfl
 have q58 : ((b.toNat : Int) == 58) = false := ne_byte n58 rfl
 subst hb
 have hg : ∀ h : 0 < (⟨(48 :: c3 :: u').toArray⟩ : ByteArray).size, (⟨(48 :: c3 :: u').toArray⟩ : ByteArray)[0]'h = 48 := fun _ => rfl
 obtain ⟨m, hm⟩ : ∃ m, a + (48 :: c3 :: u').length = m := ⟨_, rfl⟩
 have hul : (48 :: c3 :: u').length ≤ r.length + 1 := by rw [← hu]; exact M.takeWhile_len _ _
 have hml : m ≤ s.length := by omega
 have ham : a < m := by rw [← hm]; simp
 have hx : (⟨s.toArray⟩ : ByteArray).extract a m = ⟨(48 :: c3 :: u').toArray⟩ := by rw [← hm]; exact ext_run s a _ _ (by rw [hd]; exact run_take hu)
 have HO := hid (hm ▸ M.one_mix h0 hu hc hsc : M.OneIs (48 :: r) a (3, (48 :: c3 :: u')) m false)
 have HDG := hid (show ∀ w, Calls Try.prog 55 #[.int .u8 ((48 : UInt8).toNat : Int)] w fun e w' => e = .returned (.bool true) ∧ w = w' from fun w => h0 ▸ rDigit_n _ w)
 have HIN := hid (show ∀ k, a ≤ k → k < m → ∃ x, s[k]? = some x ∧ M.dig x = true from fun k hk1 hk2 => by
  have hlt2 : k - a < ((48 :: r).takeWhile M.dig).length := by rw [hu]; omega
  obtain ⟨x, h5, h6⟩ := takeWhile_get hlt2
  rw [← hd, List.getElem?_drop, show a + (k - a) = k by omega] at h5
  exact ⟨x, h5, h6⟩)
 have hcm : s[m]? = some c := by rw [← hm, ← List.getElem?_drop, hd]; exact hc
 have hmE : m < s.length := (List.getElem?_eq_some_iff.1 hcm).1
 have hidm := idx_str 9 Try.underlying9 s m c rfl hcm
 have HDC := hid (show ∀ w, Calls Try.prog 55 #[.int .u8 (c.toNat : Int)] w fun e w' => e = .returned (.bool false) ∧ w = w' from fun w => (M.next_not (p := M.dig) (l := 48 :: r) (c := c) (by rw [hu]; exact hc)) ▸ rDigit_n c w)
 have HSC := hid (show ∀ w, Calls Try.prog 56 #[.int .u8 (c.toNat : Int)] w fun e w' => e = .returned (.bool true) ∧ w = w' from fun w => hsc ▸ rSign_n c w)
 obtain ⟨L, hL⟩ : ∃ L, L = s.length := ⟨_, rfl⟩
 have hsz : (s.length : Int) = (L : Int) := by rw [hL]
 have hmL : m < L := by omega
 have hL9 : L ≤ 1000000 := by omega
 clear hc hsc hcm hmE hL hs
 clear hd hb0 hrl h0 n40 n41 n58 hu hm
 go_enter Try.func48, Try.ntmps48
 go_wp2_with (go_at_call 55; refine (HDG.out _).mono ?_; rintro e w' ⟨rfl, rfl⟩)
 go_loop [8] (fun i => ∃ k : Nat, a ≤ k ∧ k ≤ m ∧ i = .int .i64 (k : Int)) (fun i => L - (intOf i).toNat)
 case atStart => exact ⟨a, Nat.le_refl _, by omega, rfl⟩
 case round =>
  obtain ⟨k, hak, hk, rfl⟩ := hrel
  rcases Nat.lt_or_ge k m with hkm | hkm
  ·obtain ⟨x, hx3, hdx⟩ := HIN.out k hak hkm
   have hidk := idx_str 9 Try.underlying9 s k x rfl hx3
   have HX3 := hid (show ∀ w, Calls Try.prog 55 #[.int .u8 (x.toNat : Int)] w fun e w' => e = .returned (.bool true) ∧ w = w' from fun w => hdx ▸ rDigit_n x w)
   have hks : (k : Int) < (L : Int) := by omega
   clear hx3 hdx
   go_wp2_with (go_at_call 55; refine (HX3.out _).mono ?_; rintro e w' ⟨rfl, rfl⟩)
   go_round
   case rel => exact ⟨k + 1, by omega, by omega, by simp⟩
   case measure => simp [intOf]; omega
  ·obtain rfl : k = m := by omega
   have hkL : k ≤ L := by omega
   have hkL2 : (k : Int) ≤ (L : Int) := by omega
   have hq1 : (k : Int) < (L : Int) := by omega
   have hq2 : ((k : Int) == (L : Int)) = false := by simp; omega
   go_wp2_with (first | (go_at_call 55; refine (HDC.out _).mono ?_; rintro e w' ⟨rfl, rfl⟩) | (go_at_call 56; refine (HSC.out _).mono ?_; rintro e w' ⟨rfl, rfl⟩))
   refine bodyPost_ret (v := .tuple #[.agg #[.int .i64 3, str (48 :: c3 :: u')], .int .i64 (k : Int), .bool false]) (by simp [results, Try.results48, go_sem]) rfl ⟨_, _, _, rfl, HO.out, ?_⟩
   first | exact Ext.alloc _ _ | exact ((Ext.alloc _ _).set' (Nat.le_refl _) _).set' (Nat.le_refl _) _
set_option maxHeartbeats 2000000 in
theorem one_digCN (s : List UInt8) (a : Nat) (b : UInt8) (r : List UInt8) (hd : s.drop a = b :: r) (hs : s.length ≤ 1000000) (w : World) (h0 : M.dig b = true) (c3 : UInt8) (u' : List UInt8) (hb : b = 48) (hu : (b :: r).takeWhile M.dig = 48 :: c3 :: u') (c : UInt8) (hc : (b :: r)[(48 :: c3 :: u').length]? = some c) (hsc : M.sym c = false) : Calls Try.prog 48 #[str s, .int .i64 (a : Int)] w (GivesOne w (b :: r) a) := by
 have hb0 : s[a]? = some b := by have := congrArg (fun l => l[0]?) hd; simpa using this
 have hlt : a < s.length := (List.getElem?_eq_some_iff.1 hb0).1
 have hidx := idx_str 9 Try.underlying9 s a b rfl hb0
 have hrl : r.length + 1 = s.length - a := by rw [← List.length_cons (a := b), ← hd, List.length_drop]
 obtain ⟨n40, n41, n58⟩ := M.dig_not h0
 have q40 : ((b.toNat : Int) == 40) = false := ne_byte n40 rfl
 have q41 : ((b.toNat : Int) == 41) = false := ne_byte n41 rfl
 have q58 : ((b.toNat : Int) == 58) = false := ne_byte n58 rfl
 subst hb
 have hg : ∀ h : 0 < (⟨(48 :: c3 :: u').toArray⟩ : ByteArray).size, (⟨(48 :: c3 :: u').toArray⟩ : ByteArray)[0]'h = 48 := fun _ => rfl
 obtain ⟨m, hm⟩ : ∃ m, a + (48 :: c3 :: u').length = m := ⟨_, rfl⟩
 have hul : (48 :: c3 :: u').length ≤ r.length + 1 := by rw [← hu]; exact M.takeWhile_len _ _
 have hml : m ≤ s.length := by omega
 have ham : a < m := by rw [← hm]; simp
 have hx : (⟨s.toArray⟩ : ByteArray).extract a m = ⟨(48 :: c3 :: u').toArray⟩ := by rw [← hm]; exact ext_run s a _ _ (by rw [hd]; exact run_take hu)
 have HO := hid (hm ▸ M.one_num h0 hu (fun c' hc' => by rw [hc] at hc'; injection hc' with e; rw [← e]; exact hsc) (by simp [M.isNum]) : M.OneIs (48 :: r) a (3, (48 :: c3 :: u')) m false)
 have HDG := hid (show ∀ w, Calls Try.prog 55 #[.int .u8 ((48 : UInt8).toNat : Int)] w fun e w' => e = .returned (.bool true) ∧ w = w' from fun w => h0 ▸ rDigit_n _ w)
 have HIN := hid (show ∀ k, a ≤ k → k < m → ∃ x, s[k]? = some x ∧ M.dig x = true from fun k hk1 hk2 => by
  have hlt2 : k - a < ((48 :: r).takeWhile M.dig).length := by rw [hu]; omega
  obtain ⟨x, h5, h6⟩ := takeWhile_get hlt2
  rw [← hd, List.getElem?_drop, show a + (k - a) = k by omega] at h5
  exact ⟨x, h5, h6⟩)
 have hcm : s[m]? = some c := by rw [← hm, ← List.getElem?_drop, hd]; exact hc
 have hmE : m < s.length := (List.getElem?_eq_some_iff.1 hcm).1
 have hidm := idx_str 9 Try.underlying9 s m c rfl hcm
 have HDC := hid (show ∀ w, Calls Try.prog 55 #[.int .u8 (c.toNat : Int)] w fun e w' => e = .returned (.bool false) ∧ w = w' from fun w => (M.next_not (p := M.dig) (l := 48 :: r) (c := c) (by rw [hu]; exact hc)) ▸ rDigit_n c w)
 have HSC := hid (show ∀ w, Calls Try.prog 56 #[.int .u8 (c.toNat : Int)] w fun e w' => e = .returned (.bool false) ∧ w = w' from fun w => hsc ▸ rSign_n c w)
 obtain ⟨L, hL⟩ : ∃ L, L = s.length := ⟨_, rfl⟩
 have hsz : (s.length : Int) = (L : Int) := by rw [hL]
 have hmL : m < L := by omega
 have hL9 : L ≤ 1000000 := by omega
 clear hc hsc hcm hmE hL hs
 clear hd hb0 hrl h0 n40 n41 n58 hu hm
 go_enter Try.func48, Try.ntmps48
 go_wp2_with (go_at_call 55; refine (HDG.out _).mono ?_; rintro e w' ⟨rfl, rfl⟩)
 go_loop [8] (fun i => ∃ k : Nat, a ≤ k ∧ k ≤ m ∧ i = .int .i64 (k : Int)) (fun i => L - (intOf i).toNat)
 case atStart => exact ⟨a, Nat.le_refl _, by omega, rfl⟩
 case round =>
  obtain ⟨k, hak, hk, rfl⟩ := hrel
  rcases Nat.lt_or_ge k m with hkm | hkm
  ·obtain ⟨x, hx3, hdx⟩ := HIN.out k hak hkm
   have hidk := idx_str 9 Try.underlying9 s k x rfl hx3
   have HX3 := hid (show ∀ w, Calls Try.prog 55 #[.int .u8 (x.toNat : Int)] w fun e w' => e = .returned (.bool true) ∧ w = w' from fun w => hdx ▸ rDigit_n x w)
   have hks : (k : Int) < (L : Int) := by omega
   clear hx3 hdx
   go_wp2_with (go_at_call 55; refine (HX3.out _).mono ?_; rintro e w' ⟨rfl, rfl⟩)
   go_round
   case rel => exact ⟨k + 1, by omega, by omega, by simp⟩
   case measure => simp [intOf]; omega
  ·obtain rfl : k = m := by omega
   have hkL : k ≤ L := by omega
   have hkL2 : (k : Int) ≤ (L : Int) := by omega
   have hq1 : (k : Int) < (L : Int) := by omega
   have hq2 : ((k : Int) == (L : Int)) = false := by simp; omega
   go_wp2_with (first | (go_at_call 55; refine (HDC.out _).mono ?_; rintro e w' ⟨rfl, rfl⟩) | (go_at_call 56; refine (HSC.out _).mono ?_; rintro e w' ⟨rfl, rfl⟩))
   refine bodyPost_ret (v := .tuple #[.agg #[.int .i64 3, str (48 :: c3 :: u')], .int .i64 (k : Int), .bool false]) (by simp [results, Try.results48, go_sem]) rfl ⟨_, _, _, rfl, HO.out, ?_⟩
   first | exact Ext.alloc _ _ | exact ((Ext.alloc _ _).set' (Nat.le_refl _) _).set' (Nat.le_refl _) _
end Go.Proofs.Ytceplnfjlncekaa
