/-
  Layer 10, the laws: TermNames.
-/
import Derived.Test.YtaoboilkpgphaaaDoorKTFace
import Derived.Test.YtaoboilkpgphaaaDoorKLNamesM
import Derived.Test.YtaoboilkpgphaaaDoorKLGreat
import Derived.Laws.IdiomStrings
import Derived.Laws.Cover1
namespace Go.Proofs.YtaoboilkpgphaaaDoor.Q
set_option linter.unusedSimpArgs false
set_option linter.unusedVariables false
open Go.RowKit

theorem byte_str (x : Nat) (hx : x < 256) (g : Nat) (w : World) (T : TypeId) (hb : Box w g #[.int .u8 (x : Int)] T) :
 (convert 49 9 (.slice (some ⟨g, 0, none⟩) 1 1)).run Tryd.prog w = .ok (str [UInt8.ofNat x]) w := by
 have h := run_convert_bytes_back (P := Tryd.prog) w 49 9 5 ⟨g, 0, none⟩ 1 [UInt8.ofNat x] Tryd.underlying49 Tryd.underlying5 Tryd.underlying9 (fun j hj => by
  obtain rfl : j = 0 := by simpa using hj
  have := hb.cell (o := 0) (v := .int .u8 (x : Int)) rfl
  have e : (UInt8.ofNat x).toNat = x := by simp [Nat.mod_eq_of_lt hx]
  simpa [Addr.add, e] using this)
 exact h
theorem lnum_any {w w' : World} {v : Value} (h : LNum w v []) : LNum w' v [] := by
 obtain ⟨A, n, c, h1, h2, h3, h4, h5, h6⟩ := h
 exact ⟨A, n, c, h1, h2, h3, h4, h5, fun hne => absurd rfl hne⟩
theorem tms_any {w w' : World} {v : Value} (h : Tms w [] v) : Tms w' [] v := by
 obtain ⟨A, n, c, h1, h2, h3, h4, h5⟩ := h
 exact ⟨A, n, c, h1, h2, h3, h4, fun hne => absurd rfl hne⟩
theorem ints_one {w : World} {g : Nat} {x : Int} {T : TypeId} (h : Box w g #[.int .i64 x] T) : Ints w [x] (.slice (some ⟨g, 0, none⟩) 1 1) := by
 refine ⟨_, _, _, rfl, rfl, Nat.le_refl _, by unfold maxLen; omega, fun _ => ⟨_, rfl, h.lt, fun k y hk => ?_⟩⟩
 match k, hk with
 | 0, hk => simp at hk; subst hk; exact h.k 0
theorem M.vL_bare {k : Nat} : ∀ t ∈ M.vL k, M.bare t := by
 induction k with
 | zero => intro t h; simp [M.vL] at h
 | succ k ih =>
  intro t h
  rw [M.vL, List.mem_append] at h
  rcases h with h | h
  ·exact ih t h
  ·obtain rfl : t = M.vT k := by simpa using h
   exact ⟨rfl, rfl⟩
theorem M.vT_of {m x : Nat} {b : UInt8} (hx : x = M.vC m) (hb : b = UInt8.ofNat x) : M.vT m = .mk 4 false [] [118, b] 1 [] := by rw [hb, hx]; rfl
set_option maxHeartbeats 16000000 in
set_option maxRecDepth 100000 in
theorem names_one {nI : Int} {r k : Nat} {w : World} (h0 : 0 ≤ nI) (h1 : nI ≤ 255) (hr : nI % 12 = (r : Int)) (hr12 : (r : Int) < 12) (hrk : (r : Int) + 1 = (k : Int)) (ht : Tab w) : Calls Tryd.prog 7 #[.int .u8 nI, .bool false] w (GivesB w true) := by
 have hk1 : 1 ≤ k := by omega
 have hk12 : k ≤ 12 := by omega
 obtain ⟨hmk, his, hfw, hok, hlen, hfs, hvl⟩ := M.v_parts (tw := false) hk1 hk12
 obtain ⟨L, hL⟩ : ∃ L, M.kSigs (M.vO k false) = L := ⟨_, rfl⟩
 have HASC := hid (show M.kAsc L.1 from hL ▸ M.ksigs_asc _ M.kAsc_nil)
 rw [hL] at hok hlen
 have HP := hid (And.intro hmk (And.intro his (And.intro hfw hfs)))
 have HL := hid hL
 have HLN := hid hlen
 have HOK := hid hok
 have HKN := hid (show ∀ w', Ext w w' → Calls Tryd.prog 8 #[] w' (GivesB w' true) from fun w' e => known_t (ht.up e))
 have HT := hid ht
 have E := hid (Ext.refl w)
 clear ht hmk his hfw hok hlen hfs hvl hL
 go_enter Tryd.func7, Tryd.ntmps7
 go_wp2_with fail
 refine (HKN.out _ E.out).mono ?_
 rintro e wb ⟨rfl, hb⟩
 have EB := hid (E.out.trans hb)
 clear hb E
 go_wp2_with fail
 clear hr
 go_loopw [6, 7] (fun x i wr => ∃ m : Nat, i = .int .i64 (m : Int) ∧ m ≤ k ∧ Hid (Ext wb wr) ∧ Hid (OwnT wb.heap.size wb wr x (M.vL m))) (fun _ i _ => k - (intOf i).toNat)
 case atStart => exact ⟨0, rfl, by omega, hid (Ext.refl _), hid (OwnT.nil _ _ _)⟩
 case round =>
  obtain ⟨m, rfl, hm, ER, HO⟩ := hrel
  obtain ⟨LA, lc, rfl, hc1, hc2⟩ := HO.out.shape
  rw [M.vL_len] at HO hc1 ⊢
  rcases Nat.lt_or_ge m k with hlt | hge
  ·have hlt' : (m : Int) < (k : Int) := by omega
   obtain ⟨f5, hf5⟩ : ∃ f : Nat, f = m * 5 := ⟨_, rfl⟩
   have q0 : (m : Int) * 5 = (f5 : Int) := by omega
   obtain ⟨c5, hc5⟩ : ∃ c : Nat, c = f5 % 12 := ⟨_, rfl⟩
   have q1 : (f5 : Int).tmod 12 = (c5 : Int) := by rw [Int.tmod_eq_emod_of_nonneg (by omega)]; omega
   have q1' : (f5 : Int) % 12 = (c5 : Int) := by omega
   obtain ⟨x5, hx5⟩ : ∃ x : Nat, x = 97 + c5 := ⟨_, rfl⟩
   have q2 : IntKind.u8.wrap (c5 : Int) = (c5 : Int) := by rw [IntKind.wrap_u8]; omega
   have q3 : IntKind.u8.wrap (97 + (c5 : Int)) = (x5 : Int) := by rw [IntKind.wrap_u8]; omega
   have hf60 : (f5 : Int) ≤ 60 := by omega
   have hx256 : x5 < 256 := by omega
   obtain ⟨b5, hb5⟩ : ∃ b, b = UInt8.ofNat x5 := ⟨_, rfl⟩
   have hcv : ∀ w0 : World, (convert 49 9 (.slice (some ⟨w0.heap.size, 0, none⟩) 1 1)).run Tryd.prog (w0.alloc (.cells #[.int .u8 (x5 : Int)] 5)) = .ok (str [b5]) (w0.alloc (.cells #[.int .u8 (x5 : Int)] 5)) := fun w0 => hb5 ▸ byte_str x5 hx256 _ _ _ (Box.new w0 _ _)
   have hcat : (⟨#[118]⟩ : ByteArray) ++ ⟨#[b5]⟩ = ⟨#[118, b5]⟩ := app_str [118] [b5]
   have HV := hid (M.vT_of (m := m) (x := x5) (b := b5) (by unfold M.vC; omega) hb5)
   have HC := hid (show ∀ w', Calls Tryd.prog 23 #[.string ⟨#[118, b5]⟩, .int .i64 1] w' (fun e w'' => ∃ N1 nn1 nc1 A1 c1, e = .returned (.agg #[.int .i64 4, .bool false, .slice N1 nn1 nc1, .string ⟨#[118, b5]⟩, .int .i64 1, .slice A1 0 c1]) ∧ (LNum w'' (.slice N1 nn1 nc1) [] ∧ Tms w'' [] (.slice A1 0 c1)) ∧ Ext w' w'') from fun w' => (con_n [118, b5] 1 w').mono fun e w'' ⟨v, h1, h2, h3⟩ => by
    obtain ⟨N1, nn1, nc1, A1, c1, rfl, h4, h5⟩ := h2
    exact ⟨N1, nn1, nc1, A1, c1, h1, ⟨h4, h5⟩, h3⟩)
   have HLEN := hid (show (M.vL m).length + [M.vT m].length ≤ 1000000 by rw [M.vL_len]; simp; omega)
   clear hf5 hc5 hx5 hb5
   go_wp2_with fail
   refine (HC.out _).mono ?_
   rintro e w2 ⟨N1, nn1, nc1, A1, c1, rfl, ⟨hN, hK⟩, hb⟩
   have E2 := hid ((ER.out.alloc' _).trans hb)
   have HN1 := hid hN
   have HK1 := hid hK
   have HO2 := hid (HO.out.up ((Ext.alloc _ _).trans hb))
   clear hN hK hb hcv hcat
   go_wp2_with (at_builtin; refine wpList_appTm (B := wb.heap.size) (V := wb) (l := M.vL m) (m := [M.vT m]) rfl (.tmp 26) (.tmp 36) rfl rfl rfl ?own ?src HLEN.out ?base ?_)
   case own => exact HO2.out.up (Ext.alloc _ _)
   case src => rw [HV.out]; exact tmSrc_one (Box.new _ _ _) (lnum_any HN1.out) (tms_any HK1.out)
   case base => have := E2.out.size; simp; omega
   intro v5 w5 hO5 hB5 hk5
   clear hk5
   have HO5 := hid (show OwnT wb.heap.size wb w5 v5 (M.vL (m + 1)) from hO5)
   have E5 := hid (show Ext wb w5 from Below.trans (B := wb.heap.size) (E2.out.alloc' _) hB5)
   clear hO5 hB5 q0 q1 q1' q2 q3 hf60
   go_wp2_with fail
   go_roundw
   case rel => exact ⟨m + 1, by simp, by omega, E5, HO5⟩
   case measure => simp [intOf]; omega
  ·obtain rfl : m = k := by omega
   have HQ := hid (show Tms wr (M.vA m false) (.slice LA m lc) from HO.out.tms ER.out.sub)
   have EQ := hid (EB.out.trans ER.out)
   have HMK := hid (show ∀ w', Ext wr w' → Calls Tryd.prog 20 #[.int .i64 7, .slice LA m lc] w' (fun e w'' => ∃ N6 nn6 nc6 A6 n6 c6, e = .returned (.tuple #[kv 7 false N6 nn6 nc6 [] 1 A6 n6 c6, .int .i64 0]) ∧ IsTm w'' (M.vO m false) (kv 7 false N6 nn6 nc6 [] 1 A6 n6 c6) ∧ LNum w'' (.slice N6 nn6 nc6) [] ∧ Ext w' w'') from fun w' e => (make_t (op := 7) (HQ.out.up e) HP.out.2.2.2 (HT.out.up (EQ.out.trans e))).mono fun e w'' ⟨v, h1, h2, h3⟩ => by
    rw [HP.out.1] at h1 h2
    have h4 := h2
    obtain ⟨N6, nn6, nc6, A6, c6, rfl, h5, -⟩ := h2
    exact ⟨N6, nn6, nc6, A6, _, c6, h1, h4, h5, h3⟩)
   go_wp2_with fail
   refine (HMK.out _ (Ext.refl _)).mono ?_
   rintro e w6 ⟨N6, nn6, nc6, A6, n6, c6, rfl, hT, hN, hb⟩
   have E6 := hid ((EQ.out.trans hb).alloc' (.cells #[.int .i64 7, .bool false, .slice N6 nn6 nc6, str [], .int .i64 1, .slice A6 n6 c6] 27))
   have HT6 := hid (hT.up (Ext.alloc _ (.cells #[.int .i64 7, .bool false, .slice N6 nn6 nc6, str [], .int .i64 1, .slice A6 n6 c6] 27)))
   have HN6 := hid (hN.up (Ext.alloc _ (.cells #[.int .i64 7, .bool false, .slice N6 nn6 nc6, str [], .int .i64 1, .slice A6 n6 c6] 27)))
   have HB6 := hid (Box.new w6 #[.int .i64 7, .bool false, .slice N6 nn6 nc6, str [], .int .i64 1, .slice A6 n6 c6] 27)
   clear hT hN hb
   obtain ⟨W, hW⟩ : ∃ W, W = w6.alloc (.cells #[.int .i64 7, .bool false, .slice N6 nn6 nc6, str [], .int .i64 1, .slice A6 n6 c6] 27) := ⟨_, rfl⟩
   rw [← hW] at E6 HT6 HN6 HB6
   obtain ⟨⟨a0, a1, a2, a3, a4, a5⟩, -, -⟩ := boxF6 HB6.out
   rw [hW] at a0 a1 a2 a3 a4 a5
   have HSG := hid (show ∀ w', Ext W w' → Calls Tryd.prog 12 #[kv 7 false N6 nn6 nc6 [] 1 A6 n6 c6] w' (fun e w'' => ∃ SA sc, e = .returned (.tuple #[.slice SA m sc, .bool true]) ∧ Sgs w'' L.1 (.slice SA m sc) ∧ Ext w' w'') from fun w' e => (sigs_t (HT6.out.up e) HP.out.2.2.1 (HT.out.up (E6.out.trans e))).mono fun e w'' ⟨v, h1, h2, h3⟩ => by
    rw [if_pos HP.out.2.1, HL.out] at h1 h2
    rw [HOK.out] at h1
    obtain ⟨SA, sc, rfl⟩ := h2.shape
    rw [HLN.out] at h1 h2
    exact ⟨SA, sc, h1, h2, h3⟩)
   go_wp2_with fail
   rw [← hW]
   refine (HSG.out _ (Ext.refl _)).mono ?_
   rintro e w7 ⟨SA, sc, rfl, hS, hb⟩
   have HS := hid hS
   have HB7 := hid (HB6.out.up hb)
   have HN7 := hid (HN6.out.up hb)
   have E7 := hid (E6.out.trans hb)
   clear hS hb a0 a1 a2 a3 a4 a5 hW
   go_wp2_with fail
   go_loopw [14] (fun x wr => ∃ i : Nat, x = .int .i64 (i : Int) ∧ 1 ≤ i ∧ i ≤ m ∧ Hid (Ext w7 wr)) (fun x _ => m - (intOf x).toNat)
   case atStart => exact ⟨1, rfl, by omega, by omega, hid (Ext.refl _)⟩
   case round =>
    obtain ⟨i, rfl, hi1, hi2, E8⟩ := hrel
    rcases Nat.lt_or_ge i m with hlt | hge
    ·have hlt' : (i : Int) < (m : Int) := by omega
     obtain ⟨j, hj⟩ : ∃ j, j = i - 1 := ⟨_, rfl⟩
     have hji : (i : Int) - 1 = (j : Int) := by omega
     have hjm : j < m := by omega
     obtain ⟨ad, u, B1, d1, rfl, hu, ⟨c0, c1, c2⟩, hv⟩ := (HS.out.up E8.out).get hjm
     obtain ⟨ad', u', B2, d2, hh, hu', ⟨s0, s1, s2⟩, hv'⟩ := (HS.out.up E8.out).get hlt
     obtain rfl : ad = ad' := Option.some.inj hh
     have hless : Go.Op.bytesLess u.name u'.name = true := HASC.out j i u u' (by omega) hu hu'
     clear hu hu' hv hv' hh c1 c2 s1 s2
     have hjs : (j : Int) < (m : Int) := by omega
     have hwj : IntKind.i64.wrap (j : Int) = (j : Int) := by rw [IntKind.wrap_i64]; omega
     clear hj
     go_wp2_with fail
     refine wp_region_D [(0, 0), (1, 0), (2, 0), (3, 0), (4, 0), (5, 0), (6, 0), (7, 0), (8, 0), (9, 0), (10, 0), (11, 0)] fun wd hb => ?_
     have E9 := hid (E8.out.trans hb)
     replace c0 := hb.cell c0
     replace s0 := hb.cell s0
     clear hb
     refine WE.p 80 (.slice (some ad) m sc) ?_
     simp only [Act.put, pA, pB, pC]
     refine WE.p 81 (.int .i64 (i : Int)) ?_
     simp only [Act.put, pA, pB, pC]
     refine WE.p 82 (.int .i64 (j : Int)) ?_
     simp only [Act.put, pA, pB, pC]
     refine WE.p 83 (.pointer (some (ad.add (j * 3)))) ?_
     simp only [Act.put, pA, pB, pC]
     refine WE.p 84 (.pointer (some (ad.add (j * 3)))) ?_
     simp only [Act.put, pA, pB, pC]
     refine WE.q 85 (str u.name) rfl (fun w' hk => by have ce := hk.cell c0; go_simp) ?_
     simp only [Act.put, pA, pB, pC]
     refine WE.p 86 (.slice (some ad) m sc) ?_
     simp only [Act.put, pA, pB, pC]
     refine WE.p 87 (.int .i64 (i : Int)) ?_
     simp only [Act.put, pA, pB, pC]
     refine WE.p 88 (.pointer (some (ad.add (i * 3)))) ?_
     simp only [Act.put, pA, pB, pC]
     refine WE.p 89 (.pointer (some (ad.add (i * 3)))) ?_
     simp only [Act.put, pA, pB, pC]
     refine WE.q 90 (str u'.name) rfl (fun w' hk => by have ce := hk.cell s0; go_simp) ?_
     simp only [Act.put, pA, pB, pC]
     refine WE.p 91 (.bool false) ?_
     simp only [Act.put, pA, pB, pC]
     refine WE.done ?_
     go_wp2_with fail
     go_roundw
     case rel => exact ⟨i + 1, by simp, by omega, by omega, E9⟩
     case measure => simp [intOf]; omega
    ·obtain rfl : i = m := by omega
     have HSI := hid (show ∀ w', Ext wr w' → Calls Tryd.prog 26 #[.agg #[.bool false, .slice N6 nn6 nc6]] w' (GivesI w' 0) from fun w' e => rSign_w (worth_tm (g := false) (HN7.out.up (E8.out.trans e))) rfl)
     obtain ⟨⟨a0, a1, a2, a3, a4, a5⟩, -, -⟩ := boxF6 (HB7.out.up E8.out)
     go_wp2_with fail
     refine (HSI.out _ (Ext.refl _)).mono ?_
     rintro e w9 ⟨rfl, hb⟩
     have E9 := hid (E8.out.trans hb)
     clear hb a0 a1 a2 a3 a4 a5
     go_wp2_with fail
     go_ret
     exact ⟨rfl, E7.out.trans E9.out⟩
set_option maxHeartbeats 16000000 in
set_option maxRecDepth 100000 in
theorem names_two {nI : Int} {r k : Nat} {w : World} (h0 : 0 ≤ nI) (h1 : nI ≤ 255) (hr : nI % 12 = (r : Int)) (hr12 : (r : Int) < 12) (hrk : (r : Int) + 1 = (k : Int)) (ht : Tab w) : Calls Tryd.prog 7 #[.int .u8 nI, .bool true] w (GivesB w true) := by
 have hk1 : 1 ≤ k := by omega
 have hk12 : k ≤ 12 := by omega
 obtain ⟨hmk, his, hfw, hok, hlen, hfs, hvl⟩ := M.v_parts (tw := true) hk1 hk12
 obtain ⟨L, hL⟩ : ∃ L, M.kSigs (M.vO k true) = L := ⟨_, rfl⟩
 have HASC := hid (show M.kAsc L.1 from hL ▸ M.ksigs_asc _ M.kAsc_nil)
 rw [hL] at hok hlen
 have HP := hid (And.intro hmk (And.intro his (And.intro hfw hfs)))
 have HL := hid hL
 have HLN := hid hlen
 have HOK := hid hok
 have HKN := hid (show ∀ w', Ext w w' → Calls Tryd.prog 8 #[] w' (GivesB w' true) from fun w' e => known_t (ht.up e))
 have HT := hid ht
 have E := hid (Ext.refl w)
 clear ht hmk his hfw hok hlen hfs hvl hL
 go_enter Tryd.func7, Tryd.ntmps7
 go_wp2_with fail
 refine (HKN.out _ E.out).mono ?_
 rintro e wb ⟨rfl, hb⟩
 have EB := hid (E.out.trans hb)
 clear hb E
 go_wp2_with fail
 clear hr
 go_loopw [6, 7] (fun x i wr => ∃ m : Nat, i = .int .i64 (m : Int) ∧ m ≤ k ∧ Hid (Ext wb wr) ∧ Hid (OwnT wb.heap.size wb wr x (M.vL m))) (fun _ i _ => k - (intOf i).toNat)
 case atStart => exact ⟨0, rfl, by omega, hid (Ext.refl _), hid (OwnT.nil _ _ _)⟩
 case round =>
  obtain ⟨m, rfl, hm, ER, HO⟩ := hrel
  obtain ⟨LA, lc, rfl, hc1, hc2⟩ := HO.out.shape
  rw [M.vL_len] at HO hc1 ⊢
  rcases Nat.lt_or_ge m k with hlt | hge
  ·have hlt' : (m : Int) < (k : Int) := by omega
   obtain ⟨f5, hf5⟩ : ∃ f : Nat, f = m * 5 := ⟨_, rfl⟩
   have q0 : (m : Int) * 5 = (f5 : Int) := by omega
   obtain ⟨c5, hc5⟩ : ∃ c : Nat, c = f5 % 12 := ⟨_, rfl⟩
   have q1 : (f5 : Int).tmod 12 = (c5 : Int) := by rw [Int.tmod_eq_emod_of_nonneg (by omega)]; omega
   have q1' : (f5 : Int) % 12 = (c5 : Int) := by omega
   obtain ⟨x5, hx5⟩ : ∃ x : Nat, x = 97 + c5 := ⟨_, rfl⟩
   have q2 : IntKind.u8.wrap (c5 : Int) = (c5 : Int) := by rw [IntKind.wrap_u8]; omega
   have q3 : IntKind.u8.wrap (97 + (c5 : Int)) = (x5 : Int) := by rw [IntKind.wrap_u8]; omega
   have hf60 : (f5 : Int) ≤ 60 := by omega
   have hx256 : x5 < 256 := by omega
   obtain ⟨b5, hb5⟩ : ∃ b, b = UInt8.ofNat x5 := ⟨_, rfl⟩
   have hcv : ∀ w0 : World, (convert 49 9 (.slice (some ⟨w0.heap.size, 0, none⟩) 1 1)).run Tryd.prog (w0.alloc (.cells #[.int .u8 (x5 : Int)] 5)) = .ok (str [b5]) (w0.alloc (.cells #[.int .u8 (x5 : Int)] 5)) := fun w0 => hb5 ▸ byte_str x5 hx256 _ _ _ (Box.new w0 _ _)
   have hcat : (⟨#[118]⟩ : ByteArray) ++ ⟨#[b5]⟩ = ⟨#[118, b5]⟩ := app_str [118] [b5]
   have HV := hid (M.vT_of (m := m) (x := x5) (b := b5) (by unfold M.vC; omega) hb5)
   have HC := hid (show ∀ w', Calls Tryd.prog 23 #[.string ⟨#[118, b5]⟩, .int .i64 1] w' (fun e w'' => ∃ N1 nn1 nc1 A1 c1, e = .returned (.agg #[.int .i64 4, .bool false, .slice N1 nn1 nc1, .string ⟨#[118, b5]⟩, .int .i64 1, .slice A1 0 c1]) ∧ (LNum w'' (.slice N1 nn1 nc1) [] ∧ Tms w'' [] (.slice A1 0 c1)) ∧ Ext w' w'') from fun w' => (con_n [118, b5] 1 w').mono fun e w'' ⟨v, h1, h2, h3⟩ => by
    obtain ⟨N1, nn1, nc1, A1, c1, rfl, h4, h5⟩ := h2
    exact ⟨N1, nn1, nc1, A1, c1, h1, ⟨h4, h5⟩, h3⟩)
   have HLEN := hid (show (M.vL m).length + [M.vT m].length ≤ 1000000 by rw [M.vL_len]; simp; omega)
   clear hf5 hc5 hx5 hb5
   go_wp2_with fail
   refine (HC.out _).mono ?_
   rintro e w2 ⟨N1, nn1, nc1, A1, c1, rfl, ⟨hN, hK⟩, hb⟩
   have E2 := hid ((ER.out.alloc' _).trans hb)
   have HN1 := hid hN
   have HK1 := hid hK
   have HO2 := hid (HO.out.up ((Ext.alloc _ _).trans hb))
   clear hN hK hb hcv hcat
   go_wp2_with (at_builtin; refine wpList_appTm (B := wb.heap.size) (V := wb) (l := M.vL m) (m := [M.vT m]) rfl (.tmp 26) (.tmp 36) rfl rfl rfl ?own ?src HLEN.out ?base ?_)
   case own => exact HO2.out.up (Ext.alloc _ _)
   case src => rw [HV.out]; exact tmSrc_one (Box.new _ _ _) (lnum_any HN1.out) (tms_any HK1.out)
   case base => have := E2.out.size; simp; omega
   intro v5 w5 hO5 hB5 hk5
   clear hk5
   have HO5 := hid (show OwnT wb.heap.size wb w5 v5 (M.vL (m + 1)) from hO5)
   have E5 := hid (show Ext wb w5 from Below.trans (B := wb.heap.size) (E2.out.alloc' _) hB5)
   clear hO5 hB5 q0 q1 q1' q2 q3 hf60
   go_wp2_with fail
   go_roundw
   case rel => exact ⟨m + 1, by simp, by omega, E5, HO5⟩
   case measure => simp [intOf]; omega
  ·obtain rfl : m = k := by omega
   have HNU := hid (show ∀ w', Calls Tryd.prog 22 #[.int .i64 1] w' (fun e w'' => ∃ N1 nn1 nc1 A1 c1, e = .returned (kv 1 false N1 nn1 nc1 [] 2 A1 0 c1) ∧ IsTm w'' M.one1 (kv 1 false N1 nn1 nc1 [] 2 A1 0 c1) ∧ Ext w' w'') from fun w' => (num_n (Z := 1) (by decide) (by decide) w').mono fun e w'' ⟨v, h1, h2, h3⟩ => by
    rw [M.knumT_one] at h2
    have h2' := h2
    obtain ⟨N1, nn1, nc1, A1, c1, rfl, -, -⟩ := h2
    exact ⟨N1, nn1, nc1, A1, c1, h1, h2', h3⟩)
   have HAP := hid (show ∀ w' gi gb N1 nn1 nc1 A1 c1, Ext wr w' → Box w' gi #[.int .i64 2] 3 → IsTm w' M.one1 (kv 1 false N1 nn1 nc1 [] 2 A1 0 c1) → Box w' gb #[.int .i64 1, .bool false, .slice N1 nn1 nc1, str [], .int .i64 2, .slice A1 0 c1] 27 → Calls Tryd.prog 25 #[.agg #[.string ⟨#[118, 97]⟩, .slice (some ⟨gi, 0, none⟩) 1 1, .int .i64 1], .slice (some ⟨gb, 0, none⟩) 1 1] w' (fun e w'' => ∃ N5 nn5 nc5 A5 c5, e = .returned (.tuple #[.agg #[.int .i64 4, .bool false, .slice N5 nn5 nc5, .string ⟨#[118, 97]⟩, .int .i64 1, .slice A5 1 c5], .int .i64 0]) ∧ (LNum (gp (fun b => w'.heap.size ≤ b) w'') (.slice N5 nn5 nc5) [] ∧ Tms (gp (fun b => w'.heap.size ≤ b) w'') [M.one1] (.slice A5 1 c5)) ∧ Ext w' w'') from fun w' gi gb N1 nn1 nc1 A1 c1 ew hI hT hB =>
    (app_tn (s := M.fS) ⟨_, _, rfl, ints_one hI⟩ (by decide) (tms_one hT hB) (by decide) (HT.out.up ((EB.out.trans ER.out).trans ew))).mono fun e w'' ⟨v, h1, h2, h3⟩ => by
     rw [M.f_make] at h1 h2
     obtain ⟨N5, nn5, nc5, A5, c5, rfl, h4, h5⟩ := h2
     exact ⟨N5, nn5, nc5, A5, c5, h1, ⟨h4, h5⟩, h3⟩)
   go_wp2_with fail
   refine (HNU.out _).mono ?_
   rintro e w2 ⟨N1, nn1, nc1, A1, c1, rfl, hT, hb⟩
   have EI := hid ((Ext.alloc wr (.cells #[.int .i64 2] 3)).trans hb)
   have HI := hid ((Box.new wr #[.int .i64 2] 3).up hb)
   have HT2 := hid hT
   clear hT hb
   go_wp2_with fail
   refine (HAP.out _ wr.heap.size _ N1 nn1 nc1 A1 c1 (EI.out.alloc' _) (HI.out.alloc _) (HT2.out.up (Ext.alloc _ _)) (Box.new _ _ _)).mono ?_
   rintro e w3 ⟨N5, nn5, nc5, A5, c5, rfl, ⟨hN, hK⟩, hb⟩
   have E3 := hid (((EI.out.alloc' _).trans hb).alloc' (.cells #[.int .i64 4, .bool false, .slice N5 nn5 nc5, .string ⟨#[118, 97]⟩, .int .i64 1, .slice A5 1 c5] 27))
   obtain ⟨w4, hw4⟩ : ∃ x, x = w3.alloc (.cells #[.int .i64 4, .bool false, .slice N5 nn5 nc5, .string ⟨#[118, 97]⟩, .int .i64 1, .slice A5 1 c5] 27) := ⟨_, rfl⟩
   rw [← hw4] at E3
   have HB4 := hid (show Box w4 w3.heap.size #[.int .i64 4, .bool false, .slice N5 nn5 nc5, .string ⟨#[118, 97]⟩, .int .i64 1, .slice A5 1 c5] 27 from hw4 ▸ Box.new _ _ _)
   have hrs : wr.heap.size ≤ (w2.alloc (.cells #[.int .i64 1, .bool false, .slice N1 nn1 nc1, str [], .int .i64 2, .slice A1 0 c1] 27)).heap.size := (EI.out.alloc' _).size
   obtain ⟨BA, hBA⟩ : ∃ n, n = (w2.alloc (.cells #[.int .i64 1, .bool false, .slice N1 nn1 nc1, str [], .int .i64 2, .slice A1 0 c1] 27)).heap.size := ⟨_, rfl⟩
   rw [← hBA] at hN hK hrs
   obtain ⟨V, hV⟩ : ∃ V, V = gp (fun b => BA ≤ b) w4 := ⟨_, rfl⟩
   have hsv : Sub (gp (fun b => BA ≤ b) w3) V := by
    rw [hV, hw4]
    exact gp_mono (by simp) fun b h1 h2 => ⟨h2, (Ext.alloc w3 _).block b h1⟩
   have HN4 := hid (hN.sub hsv)
   have HK4 := hid (hK.sub hsv)
   have HVV := hid hV
   clear hN hK hb hsv hBA hV
   have HO4 := hid (show OwnT wb.heap.size V w4 (.slice LA m lc) (M.vL m) from (HO.out.up E3.out).any M.vL_bare)
   have hlo : ∀ b, b ∈ (Value.slice LA m lc).ownBlock.toList → b < wr.heap.size := by
    obtain ⟨xs, h1, -⟩ := HO.out
    exact fun b hb => (World.ownsRow.lt h1 b (by simpa using hb)).2
   have HLEN := hid (show (M.vL m).length + [M.fT].length ≤ 1000000 by rw [M.vL_len]; simp; omega)
   obtain ⟨⟨a0, a1, a2, a3, a4, a5⟩, -, -⟩ := boxF6 HB4.out
   subst hw4
   go_wp2_with (at_builtin; refine wpList_appTm (B := wb.heap.size) (V := V) (l := M.vL m) (m := [M.fT]) rfl (.tmp 47) (.tmp 49) rfl rfl rfl ?own ?src HLEN.out ?base ?_)
   case own => exact HO4.out.up (Ext.alloc _ _)
   case src => exact tmSrc_one (Box.at_ _ _ (by simp)) HN4.out HK4.out
   case base => have := (ER.out.trans E3.out).size; simp at this ⊢; omega
   intro v5 w5 hO5 hB5 hk5
   have hE5 : Sub V w5 := by
    rw [HVV.out]
    refine (gp_mono (q := fun b => BA ≤ b) (w' := w5) (Nat.le_trans (Nat.le_of_lt (by simp)) hk5.1.size) fun b h1 h2 => ⟨h2, ?_⟩).trans (gp_sub _ _)
    exact (hk5.2 b (Nat.lt_of_lt_of_le h1 (by simp)) fun hx => by have := hlo b hx; omega).trans ((Ext.alloc _ _).block b h1)
   have HQ := hid (show Tms w5 (M.vA m true) v5 from hO5.tms hE5)
   have EQ := hid (show Ext w w5 from EB.out.trans (Below.trans (B := wb.heap.size) ((ER.out.trans E3.out).alloc' _) hB5))
   clear hO5 hB5 hE5 hk5 hlo a0 a1 a2 a3 a4 a5
   obtain ⟨LA5, lc5, rfl⟩ := HQ.out.shape
   obtain ⟨l5, hl5⟩ : ∃ n, (M.vA m true).length = n := ⟨_, rfl⟩
   rw [hl5] at HQ ⊢
   have HMK := hid (show ∀ w', Ext w5 w' → Calls Tryd.prog 20 #[.int .i64 7, .slice LA5 l5 lc5] w' (fun e w'' => ∃ N6 nn6 nc6 A6 n6 c6, e = .returned (.tuple #[kv 7 false N6 nn6 nc6 [] 1 A6 n6 c6, .int .i64 0]) ∧ IsTm w'' (M.vO m true) (kv 7 false N6 nn6 nc6 [] 1 A6 n6 c6) ∧ LNum w'' (.slice N6 nn6 nc6) [] ∧ Ext w' w'') from fun w' e => (make_t (op := 7) (HQ.out.up e) HP.out.2.2.2 (HT.out.up (EQ.out.trans e))).mono fun e w'' ⟨v, h1, h2, h3⟩ => by
    rw [HP.out.1] at h1 h2
    have h4 := h2
    obtain ⟨N6, nn6, nc6, A6, c6, rfl, h5, -⟩ := h2
    exact ⟨N6, nn6, nc6, A6, _, c6, h1, h4, h5, h3⟩)
   go_wp2_with fail
   refine (HMK.out _ (Ext.refl _)).mono ?_
   rintro e w6 ⟨N6, nn6, nc6, A6, n6, c6, rfl, hT, hN, hb⟩
   have E6 := hid ((EQ.out.trans hb).alloc' (.cells #[.int .i64 7, .bool false, .slice N6 nn6 nc6, str [], .int .i64 1, .slice A6 n6 c6] 27))
   have HT6 := hid (hT.up (Ext.alloc _ (.cells #[.int .i64 7, .bool false, .slice N6 nn6 nc6, str [], .int .i64 1, .slice A6 n6 c6] 27)))
   have HN6 := hid (hN.up (Ext.alloc _ (.cells #[.int .i64 7, .bool false, .slice N6 nn6 nc6, str [], .int .i64 1, .slice A6 n6 c6] 27)))
   have HB6 := hid (Box.new w6 #[.int .i64 7, .bool false, .slice N6 nn6 nc6, str [], .int .i64 1, .slice A6 n6 c6] 27)
   clear hT hN hb
   obtain ⟨W, hW⟩ : ∃ W, W = w6.alloc (.cells #[.int .i64 7, .bool false, .slice N6 nn6 nc6, str [], .int .i64 1, .slice A6 n6 c6] 27) := ⟨_, rfl⟩
   rw [← hW] at E6 HT6 HN6 HB6
   obtain ⟨⟨a0, a1, a2, a3, a4, a5⟩, -, -⟩ := boxF6 HB6.out
   rw [hW] at a0 a1 a2 a3 a4 a5
   have HSG := hid (show ∀ w', Ext W w' → Calls Tryd.prog 12 #[kv 7 false N6 nn6 nc6 [] 1 A6 n6 c6] w' (fun e w'' => ∃ SA sc, e = .returned (.tuple #[.slice SA m sc, .bool false]) ∧ Sgs w'' L.1 (.slice SA m sc) ∧ Ext w' w'') from fun w' e => (sigs_t (HT6.out.up e) HP.out.2.2.1 (HT.out.up (E6.out.trans e))).mono fun e w'' ⟨v, h1, h2, h3⟩ => by
    rw [if_pos HP.out.2.1, HL.out] at h1 h2
    rw [HOK.out] at h1
    obtain ⟨SA, sc, rfl⟩ := h2.shape
    rw [HLN.out] at h1 h2
    exact ⟨SA, sc, h1, h2, h3⟩)
   go_wp2_with fail
   rw [← hW]
   refine (HSG.out _ (Ext.refl _)).mono ?_
   rintro e w7 ⟨SA, sc, rfl, hS, hb⟩
   have HS := hid hS
   have HB7 := hid (HB6.out.up hb)
   have HN7 := hid (HN6.out.up hb)
   have E7 := hid (E6.out.trans hb)
   clear hS hb a0 a1 a2 a3 a4 a5 hW
   go_wp2_with fail
   go_loopw [14] (fun x wr => ∃ i : Nat, x = .int .i64 (i : Int) ∧ 1 ≤ i ∧ i ≤ m ∧ Hid (Ext w7 wr)) (fun x _ => m - (intOf x).toNat)
   case atStart => exact ⟨1, rfl, by omega, by omega, hid (Ext.refl _)⟩
   case round =>
    obtain ⟨i, rfl, hi1, hi2, E8⟩ := hrel
    rcases Nat.lt_or_ge i m with hlt | hge
    ·have hlt' : (i : Int) < (m : Int) := by omega
     obtain ⟨j, hj⟩ : ∃ j, j = i - 1 := ⟨_, rfl⟩
     have hji : (i : Int) - 1 = (j : Int) := by omega
     have hjm : j < m := by omega
     obtain ⟨ad, u, B1, d1, rfl, hu, ⟨c0, c1, c2⟩, hv⟩ := (HS.out.up E8.out).get hjm
     obtain ⟨ad', u', B2, d2, hh, hu', ⟨s0, s1, s2⟩, hv'⟩ := (HS.out.up E8.out).get hlt
     obtain rfl : ad = ad' := Option.some.inj hh
     have hless : Go.Op.bytesLess u.name u'.name = true := HASC.out j i u u' (by omega) hu hu'
     clear hu hu' hv hv' hh c1 c2 s1 s2
     have hjs : (j : Int) < (m : Int) := by omega
     have hwj : IntKind.i64.wrap (j : Int) = (j : Int) := by rw [IntKind.wrap_i64]; omega
     clear hj
     go_wp2_with fail
     refine wp_region_D [(0, 0), (1, 0), (2, 0), (3, 0), (4, 0), (5, 0), (6, 0), (7, 0), (8, 0), (9, 0), (10, 0), (11, 0)] fun wd hb => ?_
     have E9 := hid (E8.out.trans hb)
     replace c0 := hb.cell c0
     replace s0 := hb.cell s0
     clear hb
     refine WE.p 80 (.slice (some ad) m sc) ?_
     simp only [Act.put, pA, pB, pC]
     refine WE.p 81 (.int .i64 (i : Int)) ?_
     simp only [Act.put, pA, pB, pC]
     refine WE.p 82 (.int .i64 (j : Int)) ?_
     simp only [Act.put, pA, pB, pC]
     refine WE.p 83 (.pointer (some (ad.add (j * 3)))) ?_
     simp only [Act.put, pA, pB, pC]
     refine WE.p 84 (.pointer (some (ad.add (j * 3)))) ?_
     simp only [Act.put, pA, pB, pC]
     refine WE.q 85 (str u.name) rfl (fun w' hk => by have ce := hk.cell c0; go_simp) ?_
     simp only [Act.put, pA, pB, pC]
     refine WE.p 86 (.slice (some ad) m sc) ?_
     simp only [Act.put, pA, pB, pC]
     refine WE.p 87 (.int .i64 (i : Int)) ?_
     simp only [Act.put, pA, pB, pC]
     refine WE.p 88 (.pointer (some (ad.add (i * 3)))) ?_
     simp only [Act.put, pA, pB, pC]
     refine WE.p 89 (.pointer (some (ad.add (i * 3)))) ?_
     simp only [Act.put, pA, pB, pC]
     refine WE.q 90 (str u'.name) rfl (fun w' hk => by have ce := hk.cell s0; go_simp) ?_
     simp only [Act.put, pA, pB, pC]
     refine WE.p 91 (.bool false) ?_
     simp only [Act.put, pA, pB, pC]
     refine WE.done ?_
     go_wp2_with fail
     go_roundw
     case rel => exact ⟨i + 1, by simp, by omega, by omega, E9⟩
     case measure => simp [intOf]; omega
    ·obtain rfl : i = m := by omega
     have HSI := hid (show ∀ w', Ext wr w' → Calls Tryd.prog 26 #[.agg #[.bool false, .slice N6 nn6 nc6]] w' (GivesI w' 0) from fun w' e => rSign_w (worth_tm (g := false) (HN7.out.up (E8.out.trans e))) rfl)
     obtain ⟨⟨a0, a1, a2, a3, a4, a5⟩, -, -⟩ := boxF6 (HB7.out.up E8.out)
     go_wp2_with fail
     refine (HSI.out _ (Ext.refl _)).mono ?_
     rintro e w9 ⟨rfl, hb⟩
     have E9 := hid (E8.out.trans hb)
     clear hb a0 a1 a2 a3 a4 a5
     go_wp2_with fail
     go_ret
     exact ⟨rfl, E7.out.trans E9.out⟩
theorem names_t {nI : Int} {tw : Bool} {w : World} (hw : (Lit.int .u8 nI).wf = true) (ht : Tab w) : Calls Tryd.prog 7 #[.int .u8 nI, .bool tw] w (GivesB w true) := by
 have h : 0 ≤ nI ∧ nI ≤ 255 := by simpa [Lit.wf, IntKind.min, IntKind.max, IntKind.signed, IntKind.bits] using hw
 obtain ⟨r, hr⟩ : ∃ r : Nat, nI % 12 = (r : Int) := ⟨(nI % 12).toNat, by omega⟩
 cases tw
 ·exact names_one h.1 h.2 hr (by omega) (k := r + 1) (by omega) ht
 ·exact names_two h.1 h.2 hr (by omega) (k := r + 1) (by omega) ht
end Go.Proofs.YtaoboilkpgphaaaDoor.Q
