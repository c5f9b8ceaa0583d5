/-
  Layer 9, the law: the same trees.
-/
import Derived.Test.YtceplnfjlncekaaQTSame
namespace Go.Proofs.Ytceplnfjlncekaa
set_option linter.unusedSimpArgs false
set_option linter.unusedVariables false
open Go.RowKit

set_option maxHeartbeats 8000000 in
theorem sameAll_n {ks ks' : List M.T} {v v' : Value} {w : World} (hk : Kids w ks v) (hk' : Kids w ks' v') : Calls Try.prog 13 #[v, v'] w (GivesB w (decide (ks.length = ks'.length) && M.sameTs ks ks')) := by
  obtain ⟨A, c, rfl⟩ := hk.shape
  obtain ⟨A', c', rfl⟩ := hk'.shape
  obtain ⟨hl1, hl2, hl3⟩ := hk.le
  obtain ⟨hm1, hm2, hm3⟩ := hk'.le
  have hl4 : c ≤ 9223372036854775807 := by unfold maxLen at hl3; omega
  have hm4 : c' ≤ 9223372036854775807 := by unfold maxLen at hm3; omega
  obtain ⟨n, hn⟩ : ∃ n, ks.length = n := ⟨_, rfl⟩
  obtain ⟨n', hn'⟩ : ∃ n', ks'.length = n' := ⟨_, rfl⟩
  obtain ⟨z, hz⟩ : ∃ z, (decide (ks.length = ks'.length) && M.sameTs ks ks') = z := ⟨_, rfl⟩
  have hz' : z = (decide (n = n') && M.sameTs ks ks') := by rw [← hz, ← hn, ← hn']
  rw [hz]
  rw [hn] at hk hl2 ⊢
  rw [hn'] at hk' hm2 ⊢
  have HN := hid hn
  clear hl1 hl3 hz hn hm1 hm3 hn'
  by_cases hnn : n = n'
  case neg =>
    have HZ := hid (show false = z by rw [hz', decide_eq_false hnn, Bool.false_and])
    have hq : ((n : Int) == (n' : Int)) = false := by simp; omega
    clear hk hz' hk' hnn
    go_enter Try.func13, Try.ntmps13
    go_wp2
    go_ret
    obtain rfl := HZ.out
    exact ⟨rfl, Ext.refl _⟩
  case pos =>
  subst hnn
  have HZ := hid (show z = M.sameTs ks ks' by rw [hz', decide_eq_true rfl, Bool.true_and])
  have HK := hid hk
  have HK' := hid hk'
  clear hk hz' hk'
  go_enter Try.func13, Try.ntmps13
  go_wp2_with fail
  go_loopw [5] (fun i wr => ∃ (k : Nat), i = .int .i64 (k : Int) ∧ k ≤ n ∧ Hid (M.sameTs (ks.take k) ks' = true ∧ Ext w wr)) (fun i _ => n - (intOf i).toNat)
  case atStart => exact ⟨0, rfl, Nat.zero_le _, by simp [M.sameTs], Ext.refl _⟩
  case round =>
    obtain ⟨k, rfl, hk, hR⟩ := hrel
    have E := hid hR.out.2
    have HS := hid hR.out.1
    clear hR
    rcases Nat.lt_or_ge k n with hlt | hge
    · have hlt' : (k : Int) < (n : Int) := by omega
      obtain ⟨ad, u, B, d, rfl, hu, c0, c1, c2, c3, hv⟩ := (HK.out.up E.out).get hlt
      obtain ⟨ad', u', B', d', rfl, hu', e0, e1, e2, e3, hv'⟩ := (HK'.out.up E.out).get hlt
      have HU := hid hu
      have HU' := hid hu'
      have HV := hid hv
      have HV' := hid hv'
      have HC := hid (fun (w' : World) (e : Ext wr w') => rSameT_n u (HV.out.up e) (HV'.out.up e))
      obtain ⟨q, hq⟩ : ∃ q, M.sameT u u' = q := ⟨_, rfl⟩
      have HQ := hid hq
      rw [hq] at HC
      clear hu hv hu' hv' hq
      go_wp2_with fail
      cases q
      · refine wp_region_D [(0, 0), (1, 0), (2, 0), (3, 0), (4, 0), (5, 0), (6, 0), (7, 0), (8, 1), (9, 0)] fun wd hb => ?_
        have E6 := hid hb
        replace c0 := hb.cell c0
        replace c1 := hb.cell c1
        replace c2 := hb.cell c2
        replace c3 := hb.cell c3
        replace e0 := hb.cell e0
        replace e1 := hb.cell e1
        replace e2 := hb.cell e2
        replace e3 := hb.cell e3
        clear hb
        refine WE.p 17 (.slice (some ad) n c) ?_
        simp only [Act.put, pA, pB, pC]
        refine WE.p 18 (.int .i64 (k : Int)) ?_
        simp only [Act.put, pA, pB, pC]
        refine WE.p 19 (.pointer (some (ad.add (k * 4)))) ?_
        simp only [Act.put, pA, pB, pC]
        refine WE.q 20 (tv u.list u.tok B u.kids.length d) rfl (fun w' hk => by have x0 := hk.cell c0; have x1 := hk.cell c1; have x2 := hk.cell c2; have x3 := hk.cell c3; go_simp) ?_
        simp only [Act.put, pA, pB, pC]
        refine WE.p 21 (.slice (some ad') n c') ?_
        simp only [Act.put, pA, pB, pC]
        refine WE.p 22 (.int .i64 (k : Int)) ?_
        simp only [Act.put, pA, pB, pC]
        refine WE.p 23 (.pointer (some (ad'.add (k * 4)))) ?_
        simp only [Act.put, pA, pB, pC]
        refine WE.q 24 (tv u'.list u'.tok B' u'.kids.length d') rfl (fun w' hk => by have x0 := hk.cell e0; have x1 := hk.cell e1; have x2 := hk.cell e2; have x3 := hk.cell e3; go_simp) ?_
        simp only [Act.put, pA, pB, pC]
        refine WE.c 25 ((HC.out _ E6.out).mono ?_)
        rintro e w6 ⟨rfl, hb6⟩
        refine ⟨_, rfl, hb6, ?_⟩
        replace E6 := hid (E6.out.trans hb6)
        clear hb6
        simp only [Act.put, pA, pB, pC]
        refine WE.p 26 (.bool true) ?_
        simp only [Act.put, pA, pB, pC]
        refine WE.done ?_
        go_wp2_with fail
        go_ret
        obtain rfl : false = z := by rw [HZ.out, M.not_sameTs HU.out HU'.out HQ.out]
        exact ⟨rfl, (E.out.trans E6.out)⟩
      · refine wp_region_D [(0, 0), (1, 0), (2, 0), (3, 0), (4, 0), (5, 0), (6, 0), (7, 0), (8, 1), (9, 0)] fun wd hb => ?_
        have E6 := hid hb
        replace c0 := hb.cell c0
        replace c1 := hb.cell c1
        replace c2 := hb.cell c2
        replace c3 := hb.cell c3
        replace e0 := hb.cell e0
        replace e1 := hb.cell e1
        replace e2 := hb.cell e2
        replace e3 := hb.cell e3
        clear hb
        refine WE.p 17 (.slice (some ad) n c) ?_
        simp only [Act.put, pA, pB, pC]
        refine WE.p 18 (.int .i64 (k : Int)) ?_
        simp only [Act.put, pA, pB, pC]
        refine WE.p 19 (.pointer (some (ad.add (k * 4)))) ?_
        simp only [Act.put, pA, pB, pC]
        refine WE.q 20 (tv u.list u.tok B u.kids.length d) rfl (fun w' hk => by have x0 := hk.cell c0; have x1 := hk.cell c1; have x2 := hk.cell c2; have x3 := hk.cell c3; go_simp) ?_
        simp only [Act.put, pA, pB, pC]
        refine WE.p 21 (.slice (some ad') n c') ?_
        simp only [Act.put, pA, pB, pC]
        refine WE.p 22 (.int .i64 (k : Int)) ?_
        simp only [Act.put, pA, pB, pC]
        refine WE.p 23 (.pointer (some (ad'.add (k * 4)))) ?_
        simp only [Act.put, pA, pB, pC]
        refine WE.q 24 (tv u'.list u'.tok B' u'.kids.length d') rfl (fun w' hk => by have x0 := hk.cell e0; have x1 := hk.cell e1; have x2 := hk.cell e2; have x3 := hk.cell e3; go_simp) ?_
        simp only [Act.put, pA, pB, pC]
        refine WE.c 25 ((HC.out _ E6.out).mono ?_)
        rintro e w6 ⟨rfl, hb6⟩
        refine ⟨_, rfl, hb6, ?_⟩
        replace E6 := hid (E6.out.trans hb6)
        clear hb6
        simp only [Act.put, pA, pB, pC]
        refine WE.p 26 (.bool false) ?_
        simp only [Act.put, pA, pB, pC]
        refine WE.done ?_
        go_wp2_with fail
        go_roundw
        case rel => exact ⟨k + 1, by simp, by omega, by rw [M.sameTs_take HU.out HU'.out, HS.out, HQ.out]; rfl, E.out.trans E6.out⟩
        case measure => simp [intOf]; omega
    · obtain rfl : k = n := by omega
      go_wp2
      go_ret
      obtain rfl : true = z := by rw [HZ.out, ← HS.out, ← HN.out, List.take_length]
      exact ⟨rfl, E.out⟩
end Go.Proofs.Ytceplnfjlncekaa
