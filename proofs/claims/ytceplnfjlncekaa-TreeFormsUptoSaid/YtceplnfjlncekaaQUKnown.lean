/-
  Contracts: 'few', 'sym' and 'known' of layer 9's laws.
-/
import Derived.Test.YtceplnfjlncekaaQURead
import Derived.Test.YtceplnfjlncekaaQUForm
import Derived.Test.YtceplnfjlncekaaQUWords
import Derived.Test.YtceplnfjlncekaaQUSame
import Derived.Test.YtceplnfjlncekaaQHeld
namespace Go.Proofs.Ytceplnfjlncekaa
set_option linter.unusedSimpArgs false
set_option linter.unusedVariables false
open Go.RowKit

namespace M
def few9 (ts : List Tok) : Bool := ts.all (fun t => decide (t.2.length ≤ 40)) && decide (ts.length ≤ 500)
theorem few9_parts {ts : List Tok} (h : few9 ts = true) : (∀ t ∈ ts, t.2.length ≤ 40) ∧ ts.length ≤ 500 := by
 unfold few9 at h
 simpa using h
/-- The words and the tree of 'known'. -/
def L5 : List Tok := [(1, []), (4, [97]), (1, []), (2, []), (2, [])]
def KT : T := .mk true (0, []) [.mk false (4, [97]) [], .mk true (0, []) []]
theorem kt5 : readM L5 = ([KT], 5, 0) := by rfl
theorem kt4 : readM (L5.take 4) = ([], 4, 13) := by rfl
theorem kt3 : readM (L5.drop 3) = ([], 0, 10) := by rfl
theorem kt_isU : isU KT = true := by decide +kernel
theorem kt_wds : wds KT = L5 := by rfl
theorem kt_cnt : cnt KT = 3 := by rfl
theorem kt_dep : dep KT = 2 := by rfl
theorem kt_txt : txtN KT = true := by rfl
theorem kt_same : sameT KT KT = true := (sameT_iff KT KT).2 rfl
end M
set_option maxHeartbeats 2000000 in
theorem few9_n {w : World} {A : Option Addr} {n c : Nat} {ts : List M.Tok} (h : TList w (.slice A n c) ts) : Calls Try.prog 10 #[.slice A n c] w fun e w' => e = .returned (.bool (M.few9 ts)) ∧ w = w' := by
 have hn : n = ts.length ∧ n ≤ c ∧ c ≤ maxLen := by obtain ⟨A', n', c', e, h, h', h'', _⟩ := h; injection e with e1 e2 e3; subst e2 e3; exact ⟨h, h', h''⟩
 have HT := hid h
 have HN := hid hn.1
 have hc9 : n ≤ c ∧ c ≤ 9223372036854775807 := by unfold maxLen at hn; omega
 obtain ⟨hc8, hc9⟩ := hc9
 clear hn h
 go_enter Try.func10, Try.ntmps10
 go_wp2
 go_loop [3] (fun i => ∃ k : Nat, k ≤ n ∧ i = .int .i64 (k : Int) ∧ Hid ((ts.take k).all (fun t => decide (t.2.length ≤ 40)) = true)) (fun i => n - (intOf i).toNat)
 case atStart => exact ⟨0, Nat.zero_le _, rfl, rfl⟩
 case round =>
  obtain ⟨k, hk, rfl, ht⟩ := hrel
  rcases Nat.lt_or_ge k n with hlt | hge
  ·obtain ⟨ad, t, rfl, hkt, c0, c1⟩ := TList.get HT.out (k := k) (by rw [← HN.out]; exact hlt)
   have hlt' : (k : Int) < (n : Int) := by omega
   have HK := hid hkt
   clear hkt
   obtain ⟨m, hm⟩ : ∃ m, m = t.2.length := ⟨_, rfl⟩
   have hsz : (⟨t.2.toArray⟩ : ByteArray).size = m := by rw [Lib.size_eq, hm]
   have hsz2 : (t.2.length : Int) = (m : Int) := by rw [hm]
   have HM := hid hm
   clear hm
   rcases Nat.lt_or_ge 40 m with h40 | h40
   ·have HR := hid (show M.few9 ts = false by
     unfold M.few9
     rw [List.all_eq_false.2 ⟨t, List.mem_of_getElem? HK.out, by rw [← HM.out]; simp; omega⟩]; rfl)
    have hq : 40 < (m : Int) := by omega
    go_wp2
    go_ret
    rw [HR.out]
    exact ⟨rfl, rfl⟩
   ·have hq : decide (40 < (m : Int)) = false := by simp; omega
    have HS := hid (show (ts.take (k + 1)).all (fun t => decide (t.2.length ≤ 40)) = true by
     rw [List.take_add_one, HK.out, List.all_append, ht.out]; simp; omega)
    go_wp2
    go_round
    case rel => exact ⟨k + 1, by omega, by simp, HS.out⟩
    case measure => simp [intOf]; omega
  ·obtain rfl : k = n := by omega
   have HR := hid (show M.few9 ts = decide ((k : Int) ≤ 500) by
    have h1 := ht.out
    rw [HN.out, List.take_length] at h1
    unfold M.few9
    rw [h1, ← HN.out, Bool.true_and, decide_eq_decide]; omega)
   go_wp2
   go_ret
   rw [HR.out]
   exact ⟨rfl, rfl⟩

theorem TList.take_ {w : World} {A : Option Addr} {n c : Nat} {ts : List M.Tok} (h : TList w (.slice A n c) ts) {k : Nat} (hk : k ≤ n) : TList w (.slice A k c) (ts.take k) := by
 obtain ⟨A', n', c', e, h2, h3, h4, h5⟩ := h
 injection e with e1 e2 e3
 subst e1 e2 e3
 refine ⟨_, _, _, rfl, by rw [List.length_take]; omega, by omega, h4, fun hne => ?_⟩
 obtain ⟨ad, ha, hb, hc⟩ := h5 (by intro e; subst e; simp at hne)
 refine ⟨ad, ha, hb, fun j t hj => hc j t ?_⟩
 rw [List.getElem?_take] at hj
 split at hj
 ·exact hj
 ·cases hj
theorem TList.drop_ {w : World} {ad : Addr} {n c : Nat} {ts : List M.Tok} (h : TList w (.slice (some ad) n c) ts) {k : Nat} (hk : k ≤ n) : TList w (.slice (some (ad.add (k * 2))) (n - k) (c - k)) (ts.drop k) := by
 obtain ⟨A', n', c', e, h2, h3, h4, h5⟩ := h
 injection e with e1 e2 e3
 subst e1 e2 e3
 refine ⟨_, _, _, rfl, by rw [List.length_drop]; omega, by omega, by omega, fun hne => ?_⟩
 obtain ⟨ad', ha, hb, hc⟩ := h5 (by intro e; subst e; simp at hne)
 injection ha with ha
 subst ha
 refine ⟨_, rfl, by rw [addr_block]; exact hb, fun j t hj => ?_⟩
 rw [List.getElem?_drop] at hj
 have := hc (k + j) t hj
 rw [show (ad.add (k * 2)).add (j * 2) = ad.add ((k + j) * 2) by rw [Addr.add_add, Nat.add_mul]]
 exact this
theorem l5_list (w : World) : TList (w.alloc (.cells #[.int .i64 1, .string ⟨#[]⟩, .int .i64 4, .string ⟨#[97]⟩, .int .i64 1, .string ⟨#[]⟩, .int .i64 2, .string ⟨#[]⟩, .int .i64 2, .string ⟨#[]⟩] 33)) (.slice (some ⟨w.heap.size, 0, none⟩) 5 5) M.L5 := by
 have hb := Box.new w #[.int .i64 1, .string ⟨#[]⟩, .int .i64 4, .string ⟨#[97]⟩, .int .i64 1, .string ⟨#[]⟩, .int .i64 2, .string ⟨#[]⟩, .int .i64 2, .string ⟨#[]⟩] 33
 refine ⟨_, 5, 5, rfl, rfl, Nat.le_refl _, by unfold maxLen; omega, fun _ => ⟨_, rfl, hb.lt, fun k t hk => ?_⟩⟩
 rw [Addr.add_add, Addr.add_lit, Addr.add_lit]
 rcases k with _ | _ | _ | _ | _ | k
 ·simp [M.L5] at hk; subst hk; exact ⟨hb.k 0, hb.k 1⟩
 ·simp [M.L5] at hk; subst hk; exact ⟨hb.k 2, hb.k 3⟩
 ·simp [M.L5] at hk; subst hk; exact ⟨hb.k 4, hb.k 5⟩
 ·simp [M.L5] at hk; subst hk; exact ⟨hb.k 6, hb.k 7⟩
 ·simp [M.L5] at hk; subst hk; exact ⟨hb.k 8, hb.k 9⟩
 ·simp [M.L5] at hk
theorem ktBox_T {w : World} {g : Nat} (hb : Box w g #[.bool false, .int .i64 4, .string ⟨#[97]⟩, .slice none 0 0, .bool true, .int .i64 0, .string ⟨#[]⟩, .slice none 0 0] 35) : IsT w M.KT (tv true (0, []) (some ⟨g, 0, none⟩) 2 2) := by
 refine ⟨_, 2, rfl, Kids.mk_ ⟨_, 2, 2, rfl, rfl, Nat.le_refl _, by unfold maxLen; omega, fun _ => ⟨_, rfl, hb.lt, fun k t hk => ?_⟩⟩⟩
 rw [Addr.add_lit]
 rcases k with _ | _ | k
 ·simp [M.KT, M.T.kids] at hk; subst hk
  exact inAt_mk.2 ⟨.slice none 0 0, ⟨hb.k 0, hb.k 1, hb.k 2, hb.k 3⟩, Kids.nil _⟩
 ·simp [M.KT, M.T.kids] at hk; subst hk
  exact inAt_mk.2 ⟨.slice none 0 0, ⟨hb.k 4, hb.k 5, hb.k 6, hb.k 7⟩, Kids.nil _⟩
 ·simp [M.KT, M.T.kids] at hk
set_option maxHeartbeats 2000000 in
theorem sym_n (s : List UInt8) (w : World) : Calls Try.prog 26 #[str s] w (fun e w' => e = .returned (tv false (4, s) none 0 0) ∧ Ext w w') := by
 go_enter Try.func26, Try.ntmps26
 go_wp2_with fail
 have k0 : (w.alloc (.cells #[.bool false, .int .i64 4, str s, .slice none 0 0] 35)).cell? ⟨w.heap.size, 0, none⟩ = some (.bool false) := (Box.new w _ _).k 0
 refine bodyPost_ret (v := tv false (4, s) none 0 0) (by simp [results, Try.results26, go_sem]) rfl ⟨rfl, Ext.alloc w _⟩
set_option maxHeartbeats 16000000 in
set_option maxRecDepth 100000 in
theorem known9_n (w : World) : Calls Try.prog 9 #[] w (GivesB w true) := by
 have hl := l5_list w
 have E0 := hid (Ext.alloc w (.cells #[.int .i64 1, .string ⟨#[]⟩, .int .i64 4, .string ⟨#[97]⟩, .int .i64 1, .string ⟨#[]⟩, .int .i64 2, .string ⟨#[]⟩, .int .i64 2, .string ⟨#[]⟩] 33))
 obtain ⟨wA, hwA⟩ : ∃ wA, w.alloc (.cells #[.int .i64 1, .string ⟨#[]⟩, .int .i64 4, .string ⟨#[97]⟩, .int .i64 1, .string ⟨#[]⟩, .int .i64 2, .string ⟨#[]⟩, .int .i64 2, .string ⟨#[]⟩] 33) = wA := ⟨_, rfl⟩
 obtain ⟨W0, hW0⟩ : ∃ W0, w.heap.size = W0 := ⟨_, rfl⟩
 rw [hwA, hW0] at hl
 rw [hwA] at E0
 have hl4 := hl.take_ (k := 4) (by omega)
 have hl3 := hl.drop_ (k := 3) (by omega)
 rw [show (⟨W0, 0, none⟩ : Addr).add (3 * 2) = ⟨W0, 6, none⟩ by rw [Addr.add_lit]] at hl3
 have HL5 := hid hl
 have HR5 := hid (show ∀ w', Ext wA w' → Calls Try.prog 11 #[.slice (some ⟨W0, 0, none⟩) 5 5] w' (GivesR w' ([M.KT], 5, 0)) from fun w' e => by have := read_t (hl.up e) (by decide); rwa [M.kt5] at this)
 have HR4 := hid (show ∀ w', Ext wA w' → Calls Try.prog 11 #[.slice (some ⟨W0, 0, none⟩) 4 5] w' (GivesR w' ([], 4, 13)) from fun w' e => by have := read_t (hl4.up e) (by decide); rwa [M.kt4] at this)
 have HR3 := hid (show ∀ w', Ext wA w' → Calls Try.prog 11 #[.slice (some ⟨W0, 6, none⟩) 2 2] w' (GivesR w' ([], 0, 10)) from fun w' e => by have := read_t (hl3.up e) (by decide); rwa [M.kt3] at this)
 have HWA := hid hwA
 have HW0 := hid hW0
 clear hl hl4 hl3 hwA hW0
 go_enter Try.func9, Try.ntmps9
 go_wp2_with fail
 rw [HWA.out, HW0.out]
 refine (HR5.out _ (Ext.refl _)).mono ?_
 rintro e w1 ⟨v1, rfl, hv1, hb1⟩
 obtain ⟨A1, cT, rfl⟩ := hv1.shape
 replace hv1 : Kids w1 [M.KT] (.slice A1 1 cT) := hv1
 obtain ⟨ad, u, B, d, rfl, hu, c0, c1, c2, c3, ht⟩ := hv1.get (k := 0) (by omega)
 obtain ⟨hl1, hl2, hl3⟩ := hv1.le
 have hl4 : cT ≤ 9223372036854775807 := by unfold maxLen at hl3; omega
 obtain rfl : u = M.KT := by simpa using hu.symm
 rw [Nat.zero_mul, Addr.add_zero'] at c0 c1 c2 c3
 replace c0 : w1.cell? ad = some (.bool true) := c0
 replace c1 : w1.cell? ⟨ad.block, ad.off + 1, none⟩ = some (.int .i64 0) := c1
 replace c2 : w1.cell? ⟨ad.block, ad.off + 2, none⟩ = some (.string ⟨#[]⟩) := c2
 replace c3 : w1.cell? ⟨ad.block, ad.off + 3, none⟩ = some (.slice B 2 d) := c3
 replace ht : IsT w1 M.KT (tv true (0, []) B 2 d) := ht
 have HTT := hid ht
 have E := hid hb1
 clear hv1 hu ht hb1 hl1 hl3
 go_wp2_with fail
 refine (HR4.out _ E.out).mono ?_
 rintro e w2 ⟨v2, rfl, -, hb2⟩
 replace E := hid (E.out.trans hb2)
 replace c0 := hb2.cell c0
 replace c1 := hb2.cell c1
 replace c2 := hb2.cell c2
 replace c3 := hb2.cell c3
 replace HTT := hid (HTT.out.up hb2)
 clear hb2
 go_wp2_with fail
 refine (HR3.out _ E.out).mono ?_
 rintro e w3 ⟨v3, rfl, -, hb3⟩
 replace E := hid (E.out.trans hb3)
 replace c0 := hb3.cell c0
 replace c1 := hb3.cell c1
 replace c2 := hb3.cell c2
 replace c3 := hb3.cell c3
 replace HTT := hid (HTT.out.up hb3)
 clear hb3
 replace HL5 := hid (HL5.out.up E.out)
 have HC1 := hid (show ∀ w', Ext w3 w' → Calls Try.prog 17 #[tv true (0, []) B 2 d] w' (GivesI w' 3) from fun w' e => count_t M.KT (HTT.out.up e))
 have HC2 := hid (show ∀ w', Ext w3 w' → Calls Try.prog 19 #[tv true (0, []) B 2 d] w' (GivesI w' 2) from fun w' e => deep_t M.KT (HTT.out.up e))
 have HC3 := hid (show ∀ w', Ext w3 w' → Calls Try.prog 15 #[tv true (0, []) B 2 d] w' (GivesB w' true) from fun w' e => by have := is_t M.KT (HTT.out.up e) M.kt_txt; rwa [M.kt_isU] at this)
 have HC4 := hid (show ∀ w', Ext w3 w' → Calls Try.prog 22 #[tv true (0, []) B 2 d] w' (GivesTs w' M.L5) from fun w' e => words_t M.KT (HTT.out.up e) (by rw [M.kt_wds]; decide))
 have HC5 := hid (show ∀ (w' : World) (v : Value), Ext w3 w' → IsT w' M.KT v → Calls Try.prog 24 #[tv true (0, []) B 2 d, v] w' (GivesB w' true) from fun w' v e hv => by have := same_t M.KT (HTT.out.up e) hv; rwa [M.kt_same] at this)
 have HSM := hid (show ∀ (w' : World) (B6 : Option Addr) (d6 : Nat), TList w' (.slice B6 5 d6) M.L5 → TList w' (.slice (some ⟨W0, 0, none⟩) 5 5) M.L5 → Calls Try.prog 21 #[.slice B6 5 d6, .slice (some ⟨W0, 0, none⟩) 5 5] w' (GivesB w' true) from fun w' B6 d6 h1 h2 => by have := rSame_n h1 h2; rwa [decide_eq_true rfl] at this)
 have HSY := hid (show ∀ w' : World, Calls Try.prog 26 #[.string ⟨#[97]⟩] w' (fun e w'' => e = .returned (tv false (4, [97]) none 0 0) ∧ Ext w' w'') from fun w' => sym_n [97] w')
 clear HTT HR5 HR4 HR3
 go_wp2_with fail
 refine wp_region_D [(0, 0), (1, 0), (2, 0), (3, 0), (4, 0), (5, 0), (6, 0), (7, 0), (8, 0), (9, 0), (10, 1), (11, 0), (12, 0), (13, 0), (14, 0), (15, 0), (16, 0), (17, 1), (18, 0), (19, 0), (20, 0), (21, 0), (22, 0), (23, 0), (24, 0), (25, 0), (26, 0), (27, 0), (28, 0), (29, 0), (30, 0), (31, 0), (32, 0), (33, 0), (34, 0), (35, 0), (36, 0), (37, 0), (38, 0), (39, 0), (40, 1), (41, 0), (42, 0), (43, 0), (44, 0), (45, 0), (47, 0), (46, 1), (48, 1), (49, 0), (50, 0), (51, 0), (52, 0), (53, 0), (55, 0), (54, 1), (56, 1), (57, 0), (58, 1), (59, 0), (60, 0)] fun wd hb => ?_
 have E6 := hid hb
 clear hb
 refine WE.p 40 (.int .i64 0) ?_
 simp only [Act.put, pA, pB, pC]
 refine WE.p 41 (.bool true) ?_
 simp only [Act.put, pA, pB, pC]
 refine WE.p 42 (.bool true) ?_
 simp only [Act.put, pA, pB, pC]
 refine WE.p 43 (.int .i64 5) ?_
 simp only [Act.put, pA, pB, pC]
 refine WE.p 44 (.bool true) ?_
 simp only [Act.put, pA, pB, pC]
 refine WE.p 45 (.bool true) ?_
 simp only [Act.put, pA, pB, pC]
 refine WE.p 46 (.bool true) ?_
 simp only [Act.put, pA, pB, pC]
 refine WE.p 47 (.slice (some ad) 1 cT) ?_
 simp only [Act.put, pA, pB, pC]
 refine WE.p 48 (.pointer (some ad)) ?_
 simp only [Act.put, pA, pB, pC]
 refine WE.q 49 (tv true (0, []) B 2 d) rfl (fun w' hk => by have x0 := hk.cell (E6.out.cell c0); have x1 := hk.cell (E6.out.cell c1); have x2 := hk.cell (E6.out.cell c2); have x3 := hk.cell (E6.out.cell c3); go_simp) ?_
 simp only [Act.put, pA, pB, pC]
 refine WE.c 50 ((HC1.out _ E6.out).mono ?_)
 rintro e w6 ⟨rfl, hb6⟩
 refine ⟨_, rfl, hb6, ?_⟩
 replace E6 := hid (E6.out.trans hb6)
 clear hb6
 simp only [Act.put, pA, pB, pC]
 refine WE.p 51 (.bool true) ?_
 simp only [Act.put, pA, pB, pC]
 refine WE.p 52 (.bool true) ?_
 simp only [Act.put, pA, pB, pC]
 refine WE.p 53 (.bool true) ?_
 simp only [Act.put, pA, pB, pC]
 refine WE.p 54 (.slice (some ad) 1 cT) ?_
 simp only [Act.put, pA, pB, pC]
 refine WE.p 55 (.pointer (some ad)) ?_
 simp only [Act.put, pA, pB, pC]
 refine WE.q 56 (tv true (0, []) B 2 d) rfl (fun w' hk => by have x0 := hk.cell (E6.out.cell c0); have x1 := hk.cell (E6.out.cell c1); have x2 := hk.cell (E6.out.cell c2); have x3 := hk.cell (E6.out.cell c3); go_simp) ?_
 simp only [Act.put, pA, pB, pC]
 refine WE.c 57 ((HC2.out _ E6.out).mono ?_)
 rintro e w6 ⟨rfl, hb6⟩
 refine ⟨_, rfl, hb6, ?_⟩
 replace E6 := hid (E6.out.trans hb6)
 clear hb6
 simp only [Act.put, pA, pB, pC]
 refine WE.p 58 (.bool true) ?_
 simp only [Act.put, pA, pB, pC]
 refine WE.p 59 (.bool true) ?_
 simp only [Act.put, pA, pB, pC]
 refine WE.p 60 (.bool true) ?_
 simp only [Act.put, pA, pB, pC]
 refine WE.p 61 (.int .i64 13) ?_
 simp only [Act.put, pA, pB, pC]
 refine WE.p 62 (.bool true) ?_
 simp only [Act.put, pA, pB, pC]
 refine WE.p 63 (.bool true) ?_
 simp only [Act.put, pA, pB, pC]
 refine WE.p 64 (.bool true) ?_
 simp only [Act.put, pA, pB, pC]
 refine WE.p 65 (.int .i64 4) ?_
 simp only [Act.put, pA, pB, pC]
 refine WE.p 66 (.bool true) ?_
 simp only [Act.put, pA, pB, pC]
 refine WE.p 67 (.bool true) ?_
 simp only [Act.put, pA, pB, pC]
 refine WE.p 68 (.bool true) ?_
 simp only [Act.put, pA, pB, pC]
 refine WE.p 69 (.int .i64 10) ?_
 simp only [Act.put, pA, pB, pC]
 refine WE.p 70 (.bool true) ?_
 simp only [Act.put, pA, pB, pC]
 refine WE.p 71 (.bool true) ?_
 simp only [Act.put, pA, pB, pC]
 refine WE.p 72 (.bool true) ?_
 simp only [Act.put, pA, pB, pC]
 refine WE.p 73 (.int .i64 0) ?_
 simp only [Act.put, pA, pB, pC]
 refine WE.p 74 (.bool true) ?_
 simp only [Act.put, pA, pB, pC]
 refine WE.p 75 (.bool true) ?_
 simp only [Act.put, pA, pB, pC]
 refine WE.p 76 (.bool true) ?_
 simp only [Act.put, pA, pB, pC]
 refine WE.p 77 (.slice (some ad) 1 cT) ?_
 simp only [Act.put, pA, pB, pC]
 refine WE.p 78 (.pointer (some ad)) ?_
 simp only [Act.put, pA, pB, pC]
 refine WE.q 79 (tv true (0, []) B 2 d) rfl (fun w' hk => by have x0 := hk.cell (E6.out.cell c0); have x1 := hk.cell (E6.out.cell c1); have x2 := hk.cell (E6.out.cell c2); have x3 := hk.cell (E6.out.cell c3); go_simp) ?_
 simp only [Act.put, pA, pB, pC]
 refine WE.c 80 ((HC3.out _ E6.out).mono ?_)
 rintro e w6 ⟨rfl, hb6⟩
 refine ⟨_, rfl, hb6, ?_⟩
 replace E6 := hid (E6.out.trans hb6)
 clear hb6
 simp only [Act.put, pA, pB, pC]
 refine WE.p 81 (.bool true) ?_
 simp only [Act.put, pA, pB, pC]
 refine WE.p 82 (.bool true) ?_
 simp only [Act.put, pA, pB, pC]
 refine WE.p 83 (.slice (some ad) 1 cT) ?_
 simp only [Act.put, pA, pB, pC]
 refine WE.p 84 (.pointer (some ad)) ?_
 simp only [Act.put, pA, pB, pC]
 refine WE.q 85 (tv true (0, []) B 2 d) rfl (fun w' hk => by have x0 := hk.cell (E6.out.cell c0); have x1 := hk.cell (E6.out.cell c1); have x2 := hk.cell (E6.out.cell c2); have x3 := hk.cell (E6.out.cell c3); go_simp) ?_
 simp only [Act.put, pA, pB, pC]
 refine WE.p 87 (.slice (some ⟨W0, 0, none⟩) 5 5) ?_
 simp only [Act.put, pA, pB, pC]
 refine WE.c 86 ((HC4.out _ E6.out).mono ?_)
 rintro e w6 ⟨v6, rfl, hv6, hb6⟩
 obtain ⟨B6, d6, e6⟩ := hv6.shape
 replace e6 : v6 = .slice B6 5 d6 := e6
 subst e6
 refine ⟨_, rfl, hb6, ?_⟩
 replace E6 := hid (E6.out.trans hb6)
 have HV6 := hid hv6
 clear hb6 hv6
 simp only [Act.put, pA, pB, pC]
 refine WE.c 88 (((show Calls Try.prog 21 #[.slice B6 5 d6, .slice (some ⟨W0, 0, none⟩) 5 5] _ (GivesB _ true) from HSM.out _ _ _ HV6.out (HL5.out.up E6.out))).mono ?_)
 rintro e w6 ⟨rfl, hb6⟩
 refine ⟨_, rfl, hb6, ?_⟩
 replace E6 := hid (E6.out.trans hb6)
 clear hb6
 simp only [Act.put, pA, pB, pC]
 refine WE.p 89 (.bool true) ?_
 simp only [Act.put, pA, pB, pC]
 refine WE.p 90 (.bool true) ?_
 simp only [Act.put, pA, pB, pC]
 refine WE.p 91 (.slice (some ad) 1 cT) ?_
 simp only [Act.put, pA, pB, pC]
 refine WE.p 92 (.pointer (some ad)) ?_
 simp only [Act.put, pA, pB, pC]
 refine WE.q 93 (tv true (0, []) B 2 d) rfl (fun w' hk => by have x0 := hk.cell (E6.out.cell c0); have x1 := hk.cell (E6.out.cell c1); have x2 := hk.cell (E6.out.cell c2); have x3 := hk.cell (E6.out.cell c3); go_simp) ?_
 simp only [Act.put, pA, pB, pC]
 refine WE.p 95 (tv true (0, []) none 0 0) ?_
 simp only [Act.put, pA, pB, pC]
 refine WE.c 94 ((HSY.out _).mono ?_)
 rintro e w6 ⟨rfl, hb6⟩
 refine ⟨_, rfl, hb6, ?_⟩
 replace E6 := hid (E6.out.trans hb6)
 clear hb6
 simp only [Act.put, pA, pB, pC]
 refine WE.new (d := some 96) (cs := #[.bool false, .int .i64 4, .string ⟨#[97]⟩, .slice none 0 0, .bool true, .int .i64 0, .string ⟨#[]⟩, .slice none 0 0]) (t := 35) (v := fun g => (.slice (some ⟨g, 0, none⟩) 2 2)) rfl rfl (by rfl) (fun w => by go_simp) fun gB wv hx0 hbox hge => ?_
 replace E6 := hid (E6.out.trans hx0)
 have HBX := hid hbox
 clear hx0 hbox hge
 simp only [Act.put, pA, pB, pC]
 refine WE.p 97 (tv true (0, []) (some ⟨gB, 0, none⟩) 2 2) ?_
 simp only [Act.put, pA, pB, pC]
 refine WE.c 98 ((HC5.out _ _ E6.out (ktBox_T (HBX.out))).mono ?_)
 rintro e w6 ⟨rfl, hb6⟩
 refine ⟨_, rfl, hb6, ?_⟩
 replace E6 := hid (E6.out.trans hb6)
 clear hb6
 simp only [Act.put, pA, pB, pC]
 refine WE.p 99 (.bool true) ?_
 simp only [Act.put, pA, pB, pC]
 refine WE.p 0 (.bool true) ?_
 simp only [Act.put, pA, pB, pC]
 refine WE.done ?_
 go_wp2_with fail
 go_ret
 exact ⟨rfl, (E0.out.trans E.out).trans E6.out⟩
end Go.Proofs.Ytceplnfjlncekaa
