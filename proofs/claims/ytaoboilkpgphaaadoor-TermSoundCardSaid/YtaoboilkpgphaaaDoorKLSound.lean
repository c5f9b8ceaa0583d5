/-
  Layer 10, the laws: TermSound.
-/
import Derived.Test.YtaoboilkpgphaaaDoorKTFace
import Derived.Test.YtaoboilkpgphaaaDoorKLSoundM
import Derived.Test.YtaoboilkpgphaaaDoorKOwnT
namespace Go.Proofs.YtaoboilkpgphaaaDoor.Q
set_option linter.unusedSimpArgs false
set_option linter.unusedVariables false
open Go.RowKit

theorem isTm_mk {w : World} {op : Int} {g : Bool} {ls : List Nat} {nm : List UInt8} {so : Int} {ks : List M.Tm} {N A : Option Addr} {nn nc n c : Nat} (hn : LNum w (.slice N nn nc) ls) (hk : Tms w ks (.slice A n c)) : IsTm w (.mk op g ls nm so ks) (kv op g N nn nc nm so A n c) := by
 obtain ⟨e, -, -⟩ := hk.le
 subst e
 exact ⟨N, nn, nc, A, c, rfl, hn, hk⟩
theorem Ext.below0 {B : Nat} {w w' : World} (h : Ext w w') (hB : B ≤ w.heap.size) : Below B w w' := Below.mono h hB
theorem M.limbs_one : M.limbs 1 = [1] := by rw [M.limbs, if_neg (by decide), show 1 / 1000000000 = 0 from rfl, M.limbs, if_pos rfl]
set_option maxHeartbeats 16000000 in
set_option maxRecDepth 100000 in
theorem sound_n {op wh : Int} {r : Nat} {l : List M.Tm} {v : Value} {w : World} (hl : Tms w l v) (hw0 : 0 ≤ wh) (hw1 : wh < 256) (hr : wh % 4 = (r : Int)) (ht : Tab w) : Calls Tryd.prog 4 #[.int .i64 op, v, .int .u8 wh] w (GivesB w true) := by
 obtain ⟨LA, lc, rfl⟩ := hl.shape
 obtain ⟨hl1, hl2, hl3⟩ := hl.le
 obtain ⟨f2, hf2⟩ : ∃ x, M.kfewL l = x := ⟨_, rfl⟩
 obtain ⟨n, hnl⟩ : ∃ x, l.length = x := ⟨_, rfl⟩
 rw [hnl] at hl hl2 ⊢
 obtain ⟨Rm, hRm⟩ : ∃ x, M.kmake op l = x := ⟨_, rfl⟩
 have HF2 := hid (show ∀ w', Ext w w' → Calls Tryd.prog 19 #[.slice LA n lc] w' (GivesB w' f2) from fun w' e => hf2 ▸ fewTerms_n (hl.up e))
 have HKN := hid (show ∀ w', Ext w w' → Calls Tryd.prog 8 #[] w' (GivesB w' true) from fun w' e => known_t (ht.up e))
 have HMA := hid (show f2 = true → ∀ w', Ext w w' → Calls Tryd.prog 20 #[.int .i64 op, .slice LA n lc] w' (GivesTm w' Rm) from fun hh w' e => hRm ▸ make_t (hl.up e) (M.kfewL_few (hf2.trans hh)) (ht.up e))
 have HL := hid hl
 have HT := hid ht
 have E := hid (Ext.refl w)
 cases f2
 ·clear hl ht hf2 hRm hnl hl1
  go_enter Tryd.func4, Tryd.ntmps4
  go_wp2_with fail
  refine (HKN.out _ E.out).mono ?_
  rintro e w1 ⟨rfl, hb⟩
  replace E := hid (E.out.trans hb)
  clear hb
  go_wp2_with fail
  refine (HF2.out _ E.out).mono ?_
  rintro e w1 ⟨rfl, hb⟩
  replace E := hid (E.out.trans hb)
  clear hb
  go_wp2_with fail
  go_ret
  exact ⟨rfl, E.out⟩
 replace HMA := hid (HMA.out rfl)
 rcases Classical.em (Rm.2 = 0) with h0 | h0
 case inr =>
  have hK : Rm.1 = M.K0 := hRm ▸ M.kmake_ne (hRm ▸ h0)
  obtain ⟨e0, he0⟩ : ∃ z, Rm.2 = z := ⟨_, rfl⟩
  have hz : (e0 == 0) = false := by rw [he0] at h0; simpa using h0
  have HMA2 := hid (show ∀ w', Ext w w' → Calls Tryd.prog 20 #[.int .i64 op, .slice LA n lc] w' (fun e w'' => ∃ N nn nc A c, e = .returned (.tuple #[kv 0 false N nn nc [] 0 A 0 c, .int .i64 e0]) ∧ Ext w' w'') from fun w' e => (HMA.out w' e).mono fun e w'' ⟨v, h1, h2, h3⟩ => by
   rw [hK] at h2
   obtain ⟨N, nn, nc, A, c, rfl, -, -⟩ := h2
   rw [he0] at h1
   exact ⟨N, nn, nc, A, c, h1, h3⟩)
  clear hl ht hf2 hRm hnl hl1 HMA h0 hK he0
  go_enter Tryd.func4, Tryd.ntmps4
  go_wp2_with fail
  refine (HKN.out _ E.out).mono ?_
  rintro e w1 ⟨rfl, hb⟩
  replace E := hid (E.out.trans hb)
  clear hb
  go_wp2_with fail
  refine (HF2.out _ E.out).mono ?_
  rintro e w1 ⟨rfl, hb⟩
  replace E := hid (E.out.trans hb)
  clear hb
  go_wp2_with fail
  refine (HMA2.out _ E.out).mono ?_
  rintro e w1 ⟨N, nn, nc, A, c, rfl, hb⟩
  replace E := hid (E.out.trans hb)
  clear hb
  obtain ⟨⟨a0, a1, a2, a3, a4, a5⟩, -, -⟩ := boxF6 (Box.new w1 #[.int .i64 0, .bool false, .slice N nn nc, str [], .int .i64 0, .slice A 0 c] 27)
  go_wp2_with fail
  go_ret
  exact ⟨rfl, E.out.alloc' _⟩
 obtain ⟨hR, ho, ha, hi, hc⟩ := M.kmake_ok (hRm.symm ▸ h0 : (M.kmake op l).2 = 0)
 obtain ⟨so, hso⟩ : ∃ x, M.kres op l = x := ⟨_, rfl⟩
 have h12 := M.kres_or ha hi
 have hIt := M.kIs_made ho ha hi hc
 have hcnt := M.kcheck_cnt hc
 rw [hso] at hR h12 hIt
 rw [hRm] at hR
 subst hR
 have hfs : M.kfews l = true := M.kfewL_few hf2
 have hft : M.kfew (.mk op false [] [] so l) = true := by rw [M.kfew]; simp [hfs]
 have hSS : r % 4 = 0 ∨ True := .inr trivial
 have HMA2 := hid (show ∀ w', Ext w w' → Calls Tryd.prog 20 #[.int .i64 op, .slice LA n lc] w' (fun e w'' => ∃ N nn nc A c, e = .returned (.tuple #[kv op false N nn nc [] so A n c, .int .i64 0]) ∧ IsTm w'' (.mk op false [] [] so l) (kv op false N nn nc [] so A n c) ∧ Tms w'' l (.slice A n c) ∧ LNum w'' (.slice N nn nc) [] ∧ Ext w' w'') from fun w' e => (HMA.out w' e).mono fun e w'' ⟨v, h1, h2, h3⟩ => by
  have h2' := h2
  obtain ⟨N, nn, nc, A, c, rfl, h4, h5⟩ := h2
  replace h5 : Tms w'' l (.slice A l.length c) := h5
  rw [hnl] at h5
  refine ⟨N, nn, nc, A, c, ?_, ?_, h5, h4, h3⟩
  ·rw [h1, ← hnl]; rfl
  ·rw [← hnl]; exact h2')
 have HH := hid (And.intro ho (And.intro hIt (And.intro hcnt (And.intro hft (And.intro hfs (And.intro hso h12))))))
 have HFL := hid (M.kfewL_parts hf2)
 obtain ⟨s3, h3⟩ : ∃ x, 3 - so = x := ⟨_, rfl⟩
 have hs3 : 1 ≤ s3 ∧ s3 ≤ 2 := by omega
 have HNL := hid hnl
 clear hl ht hf2 hRm hnl hl1 HMA h0 ho ha hi hc hIt hcnt hft hfs hSS
 have hq : (so = 1) = True ∧ True ∨ (so != 1) = true ∧ (so != 2) = false := by
  rcases h12 with h | h
  ·exact .inl ⟨by simp [h], trivial⟩
  ·exact .inr ⟨by simp [h], by simp [h]⟩
 clear h12 hso
 rcases hq with ⟨hq1, hq2⟩ | ⟨hq1, hq2⟩
 all_goals
  go_enter Tryd.func4, Tryd.ntmps4
  go_wp2_with fail
  refine (HKN.out _ E.out).mono ?_
  rintro e w1 ⟨rfl, hb⟩
  replace E := hid (E.out.trans hb)
  clear hb
  go_wp2_with fail
  refine (HF2.out _ E.out).mono ?_
  rintro e w1 ⟨rfl, hb⟩
  replace E := hid (E.out.trans hb)
  clear hb
  go_wp2_with fail
  refine (HMA2.out _ E.out).mono ?_
  rintro e w1 ⟨N1, nn1, nc1, A1, c1, rfl, hT, hk, hn, hb⟩
  replace E := hid (E.out.trans hb)
  have EW1 := E
  have HTm := hid hT
  have HKm := hid hk
  have HNm := hid hn
  have HB := hid (Box.new w1 #[.int .i64 op, .bool false, .slice N1 nn1 nc1, str [], .int .i64 so, .slice A1 n c1] 27)
  replace E := hid (Ext.alloc w1 (.cells #[.int .i64 op, .bool false, .slice N1 nn1 nc1, str [], .int .i64 so, .slice A1 n c1] 27))
  obtain ⟨hm1, hm2, hm3⟩ := hk.le
  clear hT hk hn hb hm1
  obtain ⟨⟨a0, a1, a2, a3, a4, a5⟩, -, -⟩ := boxF6 HB.out
  go_wp2_with fail
  refine (is_t (HTm.out.up E.out) HH.out.2.2.2.1 (HT.out.up (EW1.out.trans E.out))).mono ?_
  rw [HH.out.2.1]
  rintro e w2 ⟨rfl, hb⟩
  replace E := hid (E.out.trans hb)
  replace HB := hid (HB.out.up hb)
  clear hb a0 a1 a2 a3 a4 a5
  obtain ⟨⟨a0, a1, a2, a3, a4, a5⟩, -, -⟩ := boxF6 HB.out
  have HB0 := HB
  go_wp2_with fail
  go_loopw [9, 10] (fun x i wr => ∃ (k s : Nat), x = .int .i64 (s : Int) ∧ i = .int .i64 (k : Int) ∧ k ≤ n ∧ s ≤ 400 ∧ Hid (s = 1 + M.kcnts (l.take k) ∧ Ext w1 wr ∧ Box wr w1.heap.size #[.int .i64 op, .bool false, .slice N1 nn1 nc1, str [], .int .i64 so, .slice A1 n c1] 27)) (fun _ i _ => n - (intOf i).toNat)
  case atStart => exact ⟨0, 1, rfl, rfl, Nat.zero_le _, by omega, by simp [M.kcnts], E.out, HB.out⟩
  case round =>
   obtain ⟨k, s, rfl, rfl, hk, hs4, hR⟩ := hrel
   clear a0 a1 a2 a3 a4 a5 E HB HB0
   have E := hid hR.out.2.1
   have HB := hid hR.out.2.2
   have HS := hid hR.out.1
   clear hR
   rcases Nat.lt_or_ge k n with hlt | hge
   ·have hlt' : (k : Int) < (n : Int) := by omega
    obtain ⟨ad, u, N2, nn2, nc2, B2, d2, rfl, hu, ⟨p0, p1, p2, p3, p4, p5⟩, hv⟩ := (HKm.out.up E.out).get hlt
    obtain ⟨ad', u', N3, nn3, nc3, B3, d3, rfl, hu', ⟨s0, s1, s2, s3', s4, s5⟩, hv'⟩ := (HL.out.up (EW1.out.trans E.out)).get hlt
    obtain rfl : u = u' := Option.some.inj (hu.symm.trans hu')
    have b5 := HB.out.k 5
    have HU := hid hu
    have HC := hid (show ∀ w', Ext wr w' → Calls Tryd.prog 16 #[kv u.op u.g N2 nn2 nc2 u.name u.sort B2 u.kids.length d2, kv u.op u.g N3 nn3 nc3 u.name u.sort B3 u.kids.length d3] w' (GivesB w' true) from fun w' e => M.ksame_rfl u ▸ same_t u (hv.up e) (hv'.up e))
    have HV' := hid hv'
    have s3 := s3'
    have HSM := hid (show M.kcnt u ≤ 120 ∧ s + M.kcnt u = 1 + M.kcnts (l.take (k + 1)) ∧ s + M.kcnt u ≤ 400 from by
     have h1 := (HFL.out.1 u (List.mem_of_getElem? HU.out)).1
     have h2 := M.kcnts_take HU.out
     have h3 := M.kcnts_take_le l (k + 1)
     have h4 := HH.out.2.2.1
     have h5 := HS.out
     omega)
    obtain ⟨cu, hcu⟩ : ∃ x, M.kcnt u = x := ⟨_, rfl⟩
    rw [hcu] at HSM
    have HCU := hid (show ∀ w', Ext wr w' → Calls Tryd.prog 14 #[kv u.op u.g N3 nn3 nc3 u.name u.sort B3 u.kids.length d3] w' (GivesI w' (cu : Int)) from fun w' e => by
     have := count_t u (hv'.up e)
     rwa [hcu, Nat.min_eq_left (by have := HSM.out; omega)] at this)
    have hcle : cu ≤ 120 := HSM.out.1
    clear hu hu' hv hv' s3' hcu
    go_wp2_with fail
    refine wp_region_D [(0, 0), (1, 0), (2, 0), (3, 0), (4, 0), (5, 0), (6, 0), (7, 0), (8, 0), (9, 1), (10, 0)] fun wd hb => ?_
    have E6 := hid hb
    replace b5 := hb.cell b5
    replace p0 := hb.cell p0
    replace p1 := hb.cell p1
    replace p2 := hb.cell p2
    replace p3 := hb.cell p3
    replace p4 := hb.cell p4
    replace p5 := hb.cell p5
    replace s0 := hb.cell s0
    replace s1 := hb.cell s1
    replace s2 := hb.cell s2
    replace s3 := hb.cell s3
    replace s4 := hb.cell s4
    replace s5 := hb.cell s5
    clear hb
    refine WE.p 77 (.pointer (some ⟨w1.heap.size, 5, none⟩)) ?_
    simp only [Act.put, pA, pB, pC]
    refine WE.q 78 (.slice (some ad) n c1) rfl (fun w' hk => by have ce := hk.cell b5; go_simp) ?_
    simp only [Act.put, pA, pB, pC]
    refine WE.p 79 (.int .i64 (k : Int)) ?_
    simp only [Act.put, pA, pB, pC]
    refine WE.p 80 (.pointer (some (ad.add (k * 6)))) ?_
    simp only [Act.put, pA, pB, pC]
    refine WE.q 81 (kv u.op u.g N2 nn2 nc2 u.name u.sort B2 u.kids.length d2) rfl (fun w' hk => by have x0 := hk.cell p0; have x1 := hk.cell p1; have x2 := hk.cell p2; have x3 := hk.cell p3; have x4 := hk.cell p4; have x5 := hk.cell p5; go_simp) ?_
    simp only [Act.put, pA, pB, pC]
    refine WE.p 82 (.slice (some ad') n lc) ?_
    simp only [Act.put, pA, pB, pC]
    refine WE.p 83 (.int .i64 (k : Int)) ?_
    simp only [Act.put, pA, pB, pC]
    refine WE.p 84 (.pointer (some (ad'.add (k * 6)))) ?_
    simp only [Act.put, pA, pB, pC]
    refine WE.q 85 (kv u.op u.g N3 nn3 nc3 u.name u.sort B3 u.kids.length d3) rfl (fun w' hk => by have x0 := hk.cell s0; have x1 := hk.cell s1; have x2 := hk.cell s2; have x3 := hk.cell s3; have x4 := hk.cell s4; have x5 := hk.cell s5; go_simp) ?_
    simp only [Act.put, pA, pB, pC]
    refine WE.c 86 ((HC.out _ E6.out).mono ?_)
    rintro e w6 ⟨rfl, hb6⟩
    refine ⟨_, rfl, hb6, ?_⟩
    replace E6 := hid (E6.out.trans hb6)
    have E7 := hid hb6
    clear hb6
    simp only [Act.put, pA, pB, pC]
    refine WE.p 87 (.bool false) ?_
    simp only [Act.put, pA, pB, pC]
    refine WE.done ?_
    replace s0 := E7.out.cell s0
    replace s1 := E7.out.cell s1
    replace s2 := E7.out.cell s2
    replace s3 := E7.out.cell s3
    replace s4 := E7.out.cell s4
    replace s5 := E7.out.cell s5
    clear p0 p1 p2 p3 p4 p5 b5
    go_wp2_with fail
    refine (HCU.out _ E6.out).mono ?_
    rintro e w7 ⟨rfl, hb⟩
    replace E6 := hid (E6.out.trans hb)
    clear hb
    have hsum : s + cu ≤ 400 := HSM.out.2.2
    go_wp2_with fail
    go_roundw
    case rel => exact ⟨k + 1, s + cu, by simp, by simp, by omega, hsum, HSM.out.2.1, E.out.trans E6.out, HB.out.up E6.out⟩
    case measure => simp [intOf]; omega
   ·obtain rfl : n = k := by omega
    have hkt := HB.out.lt
    have HCT := hid (show ∀ w', Ext w1 w' → Calls Tryd.prog 14 #[kv op false N1 nn1 nc1 [] so A1 n c1] w' (GivesI w' (s : Int)) from fun w' e => by
     have h := count_t _ (HTm.out.up e)
     rwa [show M.kcnt (.mk op false [] [] so l) = s by rw [M.kcnt, HS.out, ← HNL.out, List.take_length], Nat.min_eq_left (by omega)] at h)
    obtain ⟨⟨a0, a1, a2, a3, a4, a5⟩, -, -⟩ := boxF6 HB.out
    rcases (show r = 0 ∨ r = 1 ∨ r = 2 ∨ r = 3 by omega) with rfl | rfl | rfl | rfl
    ·go_upto_region 21 with (fail)
     refine wp_region_S [(0, 0), (1, 0), (2, 0), (3, 0), (4, 4)] fun wd hb => ?_
     have HBT := hid ((HB.out.alloc (.cells #[.int .i64 op, .bool false, .slice N1 nn1 nc1, str [], .int .i64 so, .slice A1 n c1] 27)).up hb)
     have HBU := hid ((Box.new wr #[.int .i64 op, .bool false, .slice N1 nn1 nc1, str [], .int .i64 so, .slice A1 n c1] 27).up hb)
     replace E := hid ((E.out.alloc' (.cells #[.int .i64 op, .bool false, .slice N1 nn1 nc1, str [], .int .i64 so, .slice A1 n c1] 27)).trans hb)
     have hku : w1.heap.size < wr.heap.size := hkt
     clear hb a0 a1 a2 a3 a4 a5
     refine WE.p 106 (.pointer (some ⟨w1.heap.size, 4, none⟩)) ?_
     simp only [Act.put, pA, pB, pC]
     have h4 := HBT.out.k 4
     refine WE.q 107 (.int .i64 so) rfl (fun w' hk => by have ce := hk.cell h4; go_simp) ?_
     simp only [Act.put, pA, pB, pC]
     have h3w : IntKind.i64.wrap s3 = s3 := by rcases (show s3 = 1 ∨ s3 = 2 by omega) with h | h <;> rw [h] <;> rfl
     refine WE.p 108 (.int .i64 s3) ?_
     clear h3w
     simp only [Act.put, pA, pB, pC]
     refine WE.p 109 (.pointer (some ⟨wr.heap.size, 4, none⟩)) ?_
     simp only [Act.put, pA, pB, pC]
     have hc := HBU.out.k 4
     have hf := HBU.out.free 4
     have hl := HBU.out.lt
     refine WE.store (w' := wd.setCell ⟨wr.heap.size, 4, none⟩ (.int .i64 s3)) rfl rfl (by rfl) (by go_simp) (by simp) ?_
     refine WE.done ?_
     obtain ⟨W, hW⟩ : ∃ W, W = wd.setCell ⟨wr.heap.size, 4, none⟩ (.int .i64 s3) := ⟨_, rfl⟩
     rw [← hW]
     have E1 := hid (show Ext w1 W from hW ▸ E.out.set' (show w1.heap.size ≤ wr.heap.size by omega) _)
     replace HBT := hid (show Box W w1.heap.size #[.int .i64 op, .bool false, .slice N1 nn1 nc1, str [], .int .i64 so, .slice A1 n c1] 27 from hW ▸ HBT.out.far (show w1.heap.size ≠ wr.heap.size by omega) _)
     replace HBU := hid (show Box W wr.heap.size #[.int .i64 op, .bool false, .slice N1 nn1 nc1, str [], .int .i64 s3, .slice A1 n c1] 27 from hW ▸ HBU.out.setAt 4 _)
     have EW := hid (EW1.out.trans E1.out)
     have HUT := hid (show IsTm W (.mk op false [] [] s3 l) (kv op false N1 nn1 nc1 [] s3 A1 n c1) from isTm_mk (HNm.out.up E1.out) (HKm.out.up E1.out))
     have HIU := hid (show ∀ w', Ext W w' → Calls Tryd.prog 13 #[kv op false N1 nn1 nc1 [] s3 A1 n c1] w' (GivesB w' false) from fun w' e => by
      have h := is_t (HUT.out.up e) (by rw [M.kfew]; simp [HH.out.2.2.2.2.1]) (HT.out.up (EW.out.trans e))
      rwa [show M.kIs (.mk op false [] [] s3 l) = false from h3 ▸ M.spoilt_sort HH.out.1 HH.out.2.2.2.2.2.1.symm HH.out.2.2.2.2.2.2] at h)
     have HSU := hid (show ∀ w', Ext W w' → Calls Tryd.prog 16 #[kv op false N1 nn1 nc1 [] so A1 n c1, kv op false N1 nn1 nc1 [] s3 A1 n c1] w' (GivesB w' false) from fun w' e => by
      have h := same_t _ (HTm.out.up (E1.out.trans e)) (HUT.out.up e)
      rwa [M.ksame_ne (by intro e; injection e; omega)] at h)
     clear hW h4 hc hf hl E
     obtain ⟨⟨a0, a1, a2, a3, a4, a5⟩, -, -⟩ := boxF6 HBT.out
     go_wp2_with fail
     refine (HCT.out _ E1.out).mono ?_
     rintro e w4 ⟨rfl, hb⟩
     clear a0 a1 a2 a3 a4 a5
     have E4 := hid hb
     clear hb
     obtain ⟨⟨b0, b1, b2, b3, b4, b5⟩, -, -⟩ := boxF6 (HBU.out.up E4.out)
     go_wp2_with fail
     refine (HIU.out _ E4.out).mono ?_
     rintro e w5 ⟨rfl, hb⟩
     clear b0 b1 b2 b3 b4 b5
     replace E4 := hid (E4.out.trans hb)
     clear hb
     obtain ⟨⟨a0, a1, a2, a3, a4, a5⟩, -, -⟩ := boxF6 (HBT.out.up E4.out)
     obtain ⟨⟨b0, b1, b2, b3, b4, b5⟩, -, -⟩ := boxF6 (HBU.out.up E4.out)
     go_wp2_with fail
     refine (HSU.out _ E4.out).mono ?_
     rintro e w6 ⟨rfl, hb⟩
     clear a0 a1 a2 a3 a4 a5 b0 b1 b2 b3 b4 b5
     replace E4 := hid (E4.out.trans hb)
     clear hb
     go_wp2_with fail
     go_ret
     exact ⟨rfl, EW.out.trans E4.out⟩
    ·go_upto_region 23 with (fail)
     refine wp_region_S [(0, 0), (1, 4)] fun wd hb => ?_
     have HBT := hid ((HB.out.alloc (.cells #[.int .i64 op, .bool false, .slice N1 nn1 nc1, str [], .int .i64 so, .slice A1 n c1] 27)).up hb)
     have HBU := hid ((Box.new wr #[.int .i64 op, .bool false, .slice N1 nn1 nc1, str [], .int .i64 so, .slice A1 n c1] 27).up hb)
     replace E := hid ((E.out.alloc' (.cells #[.int .i64 op, .bool false, .slice N1 nn1 nc1, str [], .int .i64 so, .slice A1 n c1] 27)).trans hb)
     have hku : w1.heap.size < wr.heap.size := hkt
     clear hb a0 a1 a2 a3 a4 a5
     refine WE.p 112 (.pointer (some ⟨wr.heap.size, 3, none⟩)) ?_
     simp only [Act.put, pA, pB, pC]
     have hc := HBU.out.k 3
     have hf := HBU.out.free 3
     have hl := HBU.out.lt
     refine WE.store (w' := wd.setCell ⟨wr.heap.size, 3, none⟩ (.string ⟨#[120]⟩)) rfl rfl (by rfl) (by go_simp) (by simp) ?_
     refine WE.done ?_
     obtain ⟨W, hW⟩ : ∃ W, W = wd.setCell ⟨wr.heap.size, 3, none⟩ (.string ⟨#[120]⟩) := ⟨_, rfl⟩
     rw [← hW]
     have E1 := hid (show Ext w1 W from hW ▸ E.out.set' (show w1.heap.size ≤ wr.heap.size by omega) _)
     replace HBT := hid (show Box W w1.heap.size #[.int .i64 op, .bool false, .slice N1 nn1 nc1, str [], .int .i64 so, .slice A1 n c1] 27 from hW ▸ HBT.out.far (show w1.heap.size ≠ wr.heap.size by omega) _)
     replace HBU := hid (show Box W wr.heap.size #[.int .i64 op, .bool false, .slice N1 nn1 nc1, str [120], .int .i64 so, .slice A1 n c1] 27 from hW ▸ HBU.out.setAt 3 _)
     have EW := hid (EW1.out.trans E1.out)
     have HUT := hid (show IsTm W (.mk op false [] [120] so l) (kv op false N1 nn1 nc1 [120] so A1 n c1) from isTm_mk (HNm.out.up E1.out) (HKm.out.up E1.out))
     have HIU := hid (show ∀ w', Ext W w' → Calls Tryd.prog 13 #[kv op false N1 nn1 nc1 [120] so A1 n c1] w' (GivesB w' false) from fun w' e => by
      have h := is_t (HUT.out.up e) (by rw [M.kfew]; simp [HH.out.2.2.2.2.1]) (HT.out.up (EW.out.trans e))
      rwa [show M.kIs (.mk op false [] [120] so l) = false from M.spoilt_name HH.out.1] at h)
     have HSU := hid (show ∀ w', Ext W w' → Calls Tryd.prog 16 #[kv op false N1 nn1 nc1 [] so A1 n c1, kv op false N1 nn1 nc1 [120] so A1 n c1] w' (GivesB w' false) from fun w' e => by
      have h := same_t _ (HTm.out.up (E1.out.trans e)) (HUT.out.up e)
      rwa [M.ksame_ne (by intro e; injection e with _ _ _ h _ _; cases h)] at h)
     clear hW hc hf hl E
     obtain ⟨⟨a0, a1, a2, a3, a4, a5⟩, -, -⟩ := boxF6 HBT.out
     go_wp2_with fail
     refine (HCT.out _ E1.out).mono ?_
     rintro e w4 ⟨rfl, hb⟩
     clear a0 a1 a2 a3 a4 a5
     have E4 := hid hb
     clear hb
     obtain ⟨⟨b0, b1, b2, b3, b4, b5⟩, -, -⟩ := boxF6 (HBU.out.up E4.out)
     go_wp2_with fail
     refine (HIU.out _ E4.out).mono ?_
     rintro e w5 ⟨rfl, hb⟩
     clear b0 b1 b2 b3 b4 b5
     replace E4 := hid (E4.out.trans hb)
     clear hb
     obtain ⟨⟨a0, a1, a2, a3, a4, a5⟩, -, -⟩ := boxF6 (HBT.out.up E4.out)
     obtain ⟨⟨b0, b1, b2, b3, b4, b5⟩, -, -⟩ := boxF6 (HBU.out.up E4.out)
     go_wp2_with fail
     refine (HSU.out _ E4.out).mono ?_
     rintro e w6 ⟨rfl, hb⟩
     clear a0 a1 a2 a3 a4 a5 b0 b1 b2 b3 b4 b5
     replace E4 := hid (E4.out.trans hb)
     clear hb
     go_wp2_with fail
     go_ret
     exact ⟨rfl, EW.out.trans E4.out⟩
    ·go_upto_region 25 with (fail)
     refine wp_region_S [(0, 1), (1, 0), (2, 4)] fun wd hb => ?_
     have HBT := hid ((HB.out.alloc (.cells #[.int .i64 op, .bool false, .slice N1 nn1 nc1, str [], .int .i64 so, .slice A1 n c1] 27)).up hb)
     have HBU := hid ((Box.new wr #[.int .i64 op, .bool false, .slice N1 nn1 nc1, str [], .int .i64 so, .slice A1 n c1] 27).up hb)
     replace E := hid ((E.out.alloc' (.cells #[.int .i64 op, .bool false, .slice N1 nn1 nc1, str [], .int .i64 so, .slice A1 n c1] 27)).trans hb)
     have hku : w1.heap.size < wr.heap.size := hkt
     clear hb a0 a1 a2 a3 a4 a5
     refine WE.c 115 ((rOf_z (n := 1) (by decide) (by decide) _).mono ?_)
     rintro e w5 ⟨v5, rfl, hz, hb5⟩
     obtain ⟨A5, n5, c5, rfl, hm5, -⟩ := hz
     refine ⟨_, rfl, hb5, ?_⟩
     rw [show decide ((1 : Int) < 0) = false from rfl]
     simp only [Act.put, pA, pB, pC]
     replace E := hid (E.out.trans hb5)
     replace HBT := hid (HBT.out.up hb5)
     replace HBU := hid (HBU.out.up hb5)
     clear hb5
     refine WE.p 116 (.pointer (some ⟨wr.heap.size, 1, none⟩)) ?_
     simp only [Act.put, pA, pB, pC]
     have hc1 := HBU.out.k 1
     have hc2 := HBU.out.k 2
     have hf1 := HBU.out.free 1
     have hf2 := HBU.out.free 2
     have hl := HBU.out.lt
     have HM5 := hid (show LNum ((w5.setCell ⟨wr.heap.size, 1, none⟩ (.bool false)).setCell ⟨wr.heap.size, 2, none⟩ (.slice A5 n5 c5)) (.slice A5 n5 c5) (M.limbs 1) from Num.kz hm5 (keeps_store HBU.out rfl ((kept_setAt _).trans (kept_setAt _))))
     clear hm5
     refine WE.store (w' := (w5.setCell ⟨wr.heap.size, 1, none⟩ (.bool false)).setCell ⟨wr.heap.size, 2, none⟩ (.slice A5 n5 c5)) rfl rfl (by rfl) (by go_simp) (by simp) ?_
     refine WE.done ?_
     obtain ⟨W, hW⟩ : ∃ W, W = (w5.setCell ⟨wr.heap.size, 1, none⟩ (.bool false)).setCell ⟨wr.heap.size, 2, none⟩ (.slice A5 n5 c5) := ⟨_, rfl⟩
     rw [← hW]
     have E1 := hid (show Ext w1 W from hW ▸ (E.out.set' (show w1.heap.size ≤ wr.heap.size by omega) _).set' (show w1.heap.size ≤ wr.heap.size by omega) _)
     replace HBT := hid (show Box W w1.heap.size #[.int .i64 op, .bool false, .slice N1 nn1 nc1, str [], .int .i64 so, .slice A1 n c1] 27 from hW ▸ (HBT.out.far (show w1.heap.size ≠ wr.heap.size by omega) _).far (show w1.heap.size ≠ wr.heap.size by omega) _)
     replace HBU := hid (show Box W wr.heap.size #[.int .i64 op, .bool false, .slice A5 n5 c5, str [], .int .i64 so, .slice A1 n c1] 27 from hW ▸ (HBU.out.setAt 1 _).setAt 2 _)
     have EW := hid (EW1.out.trans E1.out)
     have HUT := hid (show IsTm W (.mk op false (M.limbs 1) [] so l) (kv op false A5 n5 c5 [] so A1 n c1) from isTm_mk (hW ▸ HM5.out) (HKm.out.up E1.out))
     have HIU := hid (show ∀ w', Ext W w' → Calls Tryd.prog 13 #[kv op false A5 n5 c5 [] so A1 n c1] w' (GivesB w' false) from fun w' e => by
      have h := is_t (HUT.out.up e) (by rw [M.kfew]; simp [HH.out.2.2.2.2.1, M.limbs_one]) (HT.out.up (EW.out.trans e))
      rwa [show M.kIs (.mk op false (M.limbs 1) [] so l) = false from M.spoilt_N HH.out.1 (by rw [M.limbs_one]; decide)] at h)
     have HSU := hid (show ∀ w', Ext W w' → Calls Tryd.prog 16 #[kv op false N1 nn1 nc1 [] so A1 n c1, kv op false A5 n5 c5 [] so A1 n c1] w' (GivesB w' false) from fun w' e => by
      have h := same_t _ (HTm.out.up (E1.out.trans e)) (HUT.out.up e)
      rwa [M.ksame_ne (by rw [M.limbs_one]; intro e; injection e with _ _ h _ _ _; cases h)] at h)
     clear hW hc1 hc2 hf1 hf2 hl E HM5
     obtain ⟨⟨a0, a1, a2, a3, a4, a5⟩, -, -⟩ := boxF6 HBT.out
     go_wp2_with fail
     refine (HCT.out _ E1.out).mono ?_
     rintro e w4 ⟨rfl, hb⟩
     clear a0 a1 a2 a3 a4 a5
     have E4 := hid hb
     clear hb
     obtain ⟨⟨b0, b1, b2, b3, b4, b5⟩, -, -⟩ := boxF6 (HBU.out.up E4.out)
     go_wp2_with fail
     refine (HIU.out _ E4.out).mono ?_
     rintro e w5 ⟨rfl, hb⟩
     clear b0 b1 b2 b3 b4 b5
     replace E4 := hid (E4.out.trans hb)
     clear hb
     obtain ⟨⟨a0, a1, a2, a3, a4, a5⟩, -, -⟩ := boxF6 (HBT.out.up E4.out)
     obtain ⟨⟨b0, b1, b2, b3, b4, b5⟩, -, -⟩ := boxF6 (HBU.out.up E4.out)
     go_wp2_with fail
     refine (HSU.out _ E4.out).mono ?_
     rintro e w6 ⟨rfl, hb⟩
     clear a0 a1 a2 a3 a4 a5 b0 b1 b2 b3 b4 b5
     replace E4 := hid (E4.out.trans hb)
     clear hb
     go_wp2_with fail
     go_ret
     exact ⟨rfl, EW.out.trans E4.out⟩
    ·go_upto_region 19 with (fail)
     refine wp_region_S [(0, 0), (1, 1), (2, 0), (3, 1), (4, 4), (5, 0), (6, 4)] fun wd hb => ?_
     have HBT := hid ((HB.out.alloc (.cells #[.int .i64 op, .bool false, .slice N1 nn1 nc1, str [], .int .i64 so, .slice A1 n c1] 27)).up hb)
     have HBU := hid ((Box.new wr #[.int .i64 op, .bool false, .slice N1 nn1 nc1, str [], .int .i64 so, .slice A1 n c1] 27).up hb)
     replace E := hid ((E.out.alloc' (.cells #[.int .i64 op, .bool false, .slice N1 nn1 nc1, str [], .int .i64 so, .slice A1 n c1] 27)).trans hb)
     have hku : w1.heap.size < wr.heap.size := hkt
     clear hb a0 a1 a2 a3 a4 a5
     refine WE.p 98 (.slice LA n lc) ?_
     simp only [Act.put, pA, pB, pC]
     obtain ⟨v6, wa, hrun1, hO1, hB1, -⟩ := appTm_run (B := wd.heap.size) (V := w) (w := wd) (OwnT.nil wd.heap.size w wd) (HL.out.src (EW1.out.trans E.out).sub) (by have := HFL.out.2; simp; omega) (Nat.le_refl _) 25
     obtain ⟨A6, c6, rfl, hc6, hc6'⟩ := hO1.shape
     rw [List.nil_append] at hO1
     refine WE.act (d := some 99) rfl rfl (by rfl) (kexec_app (.const (.slice none 0 0)) (.tmp 98) rfl rfl rfl hrun1) hB1 ?_
     simp only [Act.put, pA, pB, pC]
     refine WE.p 100 (kv 0 false none 0 0 [] 0 none 0 0) ?_
     simp only [Act.put, pA, pB, pC]
     refine WE.new (d := some 101) (cs := zero6) (t := 27) (v := fun g => .slice (some ⟨g, 0, none⟩) 1 1) rfl rfl (by rfl) (fun w => by go_simp) fun g6 wb hEb hBg hgb => ?_
     simp only [Act.put, pA, pB, pC]
     have hO1b := hO1.up hEb
     obtain ⟨v7, wc, hrun2, hO2, hB2, -⟩ := appTm_run (m := [M.K0]) hO1b (tmSrc_one hBg (LNum.nil w) (Tms.nil w)) (by have := HFL.out.2; simp; omega) (Nat.le_trans hB1.size hEb.size) 25
     obtain ⟨A7, c7, rfl, hc7, hc7'⟩ := hO2.shape
     obtain ⟨m7, hm7⟩ : ∃ m, (l ++ [M.K0]).length = m := ⟨_, rfl⟩
     rw [hm7] at hrun2 hO2
     have hBB : Ext wd wc := (Below.trans hB1 (hEb.below0 hB1.size)).trans hB2
     refine WE.lateV (d := some 102) rfl rfl (by rfl) (kexec_app (.tmp 99) (.tmp 101) rfl rfl rfl hrun2) hB2.size ?_
     simp only [Act.put, pA, pB, pC]
     replace E := hid (E.out.trans hBB)
     replace HBT := hid (HBT.out.up hBB)
     have hkd := HBU.out.lt
     replace HBU := hid (HBU.out.up hBB)
     refine WE.p 103 (.pointer (some ⟨wr.heap.size, 5, none⟩)) ?_
     simp only [Act.put, pA, pB, pC]
     have hc := HBU.out.k 5
     have hf := HBU.out.free 5
     have hl := HBU.out.lt
     have HO2 := hid (hO2.frame (w' := wc.setCell ⟨wr.heap.size, 5, none⟩ (.slice A7 m7 c7)) fun b h1 h2 => Below.heap_setCell _ _ _ _ (show b ≠ wr.heap.size by omega))
     refine WE.store (w' := wc.setCell ⟨wr.heap.size, 5, none⟩ (.slice A7 m7 c7)) rfl rfl (by rfl) (by go_simp) (by simp) ?_
     refine WE.done ?_
     obtain ⟨W, hW⟩ : ∃ W, W = wc.setCell ⟨wr.heap.size, 5, none⟩ (.slice A7 m7 c7) := ⟨_, rfl⟩
     rw [← hW]
     have E1 := hid (show Ext w1 W from hW ▸ E.out.set' (show w1.heap.size ≤ wr.heap.size by omega) _)
     replace HBT := hid (show Box W w1.heap.size #[.int .i64 op, .bool false, .slice N1 nn1 nc1, str [], .int .i64 so, .slice A1 n c1] 27 from hW ▸ HBT.out.far (show w1.heap.size ≠ wr.heap.size by omega) _)
     replace HBU := hid (show Box W wr.heap.size #[.int .i64 op, .bool false, .slice N1 nn1 nc1, str [], .int .i64 so, .slice A7 m7 c7] 27 from hW ▸ HBU.out.setAt 5 _)
     have EW := hid (EW1.out.trans E1.out)
     have HUT := hid (show IsTm W (.mk op false [] [] so (l ++ [M.K0])) (kv op false N1 nn1 nc1 [] so A7 m7 c7) from isTm_mk (HNm.out.up E1.out) ((hW ▸ HO2.out : OwnT wd.heap.size w W _ _).tms EW.out.sub))
     have HIU := hid (show ∀ w', Ext W w' → Calls Tryd.prog 13 #[kv op false N1 nn1 nc1 [] so A7 m7 c7] w' (GivesB w' false) from fun w' e => by
      have h := is_t (HUT.out.up e) (by rw [M.kfew, M.kfews_app]; simp [HH.out.2.2.2.2.1, M.kfews, M.K0, M.kfew]) (HT.out.up (EW.out.trans e))
      rwa [show M.kIs (.mk op false [] [] so (l ++ [M.K0])) = false from M.spoilt_kids] at h)
     have HSU := hid (show ∀ w', Ext W w' → Calls Tryd.prog 16 #[kv op false N1 nn1 nc1 [] so A1 n c1, kv op false N1 nn1 nc1 [] so A7 m7 c7] w' (GivesB w' false) from fun w' e => by
      have h := same_t _ (HTm.out.up (E1.out.trans e)) (HUT.out.up e)
      rwa [M.ksame_ne (by intro e; injection e with _ _ _ _ _ h; have := congrArg List.length h; simp at this)] at h)
     clear hW hc hf hl E HO2 hO2 hm7 hO1b hO1 hrun1 hrun2 hB1 hB2 hEb hBg hgb hBB hkd hc6 hc6' hc7 hc7'
     obtain ⟨⟨a0, a1, a2, a3, a4, a5⟩, -, -⟩ := boxF6 HBT.out
     go_wp2_with fail
     refine (HCT.out _ E1.out).mono ?_
     rintro e w4 ⟨rfl, hb⟩
     clear a0 a1 a2 a3 a4 a5
     have E4 := hid hb
     clear hb
     obtain ⟨⟨b0, b1, b2, b3, b4, b5⟩, -, -⟩ := boxF6 (HBU.out.up E4.out)
     go_wp2_with fail
     refine (HIU.out _ E4.out).mono ?_
     rintro e w5 ⟨rfl, hb⟩
     clear b0 b1 b2 b3 b4 b5
     replace E4 := hid (E4.out.trans hb)
     clear hb
     obtain ⟨⟨a0, a1, a2, a3, a4, a5⟩, -, -⟩ := boxF6 (HBT.out.up E4.out)
     obtain ⟨⟨b0, b1, b2, b3, b4, b5⟩, -, -⟩ := boxF6 (HBU.out.up E4.out)
     go_wp2_with fail
     refine (HSU.out _ E4.out).mono ?_
     rintro e w6 ⟨rfl, hb⟩
     clear a0 a1 a2 a3 a4 a5 b0 b1 b2 b3 b4 b5
     replace E4 := hid (E4.out.trans hb)
     clear hb
     go_wp2_with fail
     go_ret
     exact ⟨rfl, EW.out.trans E4.out⟩
theorem sound_t {op wh : Int} {l : List M.Tm} {v : Value} {w : World} (hl : Tms w l v) (hw : (Lit.int .u8 wh).wf = true) (ht : Tab w) : Calls Tryd.prog 4 #[.int .i64 op, v, .int .u8 wh] w (GivesB w true) := by
 have h : 0 ≤ wh ∧ wh ≤ 255 := by simpa [Lit.wf, IntKind.min, IntKind.max, IntKind.signed, IntKind.bits] using hw
 exact sound_n (r := (wh % 4).toNat) hl h.1 (by omega) (by omega) ht
end Go.Proofs.YtaoboilkpgphaaaDoor.Q
