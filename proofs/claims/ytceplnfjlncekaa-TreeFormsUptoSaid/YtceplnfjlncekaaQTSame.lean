/-
  Layer 9, the reference: the same tree.
-/
import Derived.Test.YtceplnfjlncekaaQTCount
import Derived.Test.YtceplnfjlncekaaQHeld
namespace Go.Proofs.Ytceplnfjlncekaa
set_option linter.unusedSimpArgs false
set_option linter.unusedVariables false
open Go.RowKit

/-- Two boxes of trees. -/
abbrev boxed2 (w : World) (l : Bool) (tk : M.Tok) (A : Option Addr) (n c : Nat) (l' : Bool) (tk' : M.Tok) (A' : Option Addr) (n' c' : Nat) : World := (boxed w l tk A n c).alloc (.cells #[.bool l', .int .i64 tk'.1, str tk'.2, .slice A' n' c'] 35)
theorem box44 {w wN : World} {x y z u x' y' z' u' : Value} {T T' : TypeId} (h : Ext ((w.alloc (.cells #[x, y, z, u] T)).alloc (.cells #[x', y', z', u'] T')) wN) :
 (wN.cell? ⟨w.heap.size, 0, none⟩ = some x ∧ wN.cell? ⟨w.heap.size, 1, none⟩ = some y ∧ wN.cell? ⟨w.heap.size, 2, none⟩ = some z ∧ wN.cell? ⟨w.heap.size, 3, none⟩ = some u) ∧
 wN.cell? ⟨w.heap.size + 1, 0, none⟩ = some x' ∧ wN.cell? ⟨w.heap.size + 1, 1, none⟩ = some y' ∧ wN.cell? ⟨w.heap.size + 1, 2, none⟩ = some z' ∧ wN.cell? ⟨w.heap.size + 1, 3, none⟩ = some u' := by
 have h1 := (Box.new w #[x, y, z, u] T).alloc (.cells #[x', y', z', u'] T')
 have h2 := Box.at_ (w := w.alloc (.cells #[x, y, z, u] T)) (g := w.heap.size + 1) #[x', y', z', u'] T' (by simp)
 replace h1 := h1.up h
 replace h2 := h2.up h
 exact ⟨⟨h1.k 0, h1.k 1, h1.k 2, h1.k 3⟩, h2.k 0, h2.k 1, h2.k 2, h2.k 3⟩
set_option maxHeartbeats 8000000 in
theorem rSameT_n (t : M.T) : ∀ {t' : M.T} {v v' : Value} {w : World}, IsT w t v → IsT w t' v' → Calls Try.prog 25 #[v, v'] w (GivesB w (M.sameT t t')) := by
 refine M.T.indA (P := fun t => ∀ {t' : M.T} {v v' : Value} {w : World}, IsT w t v → IsT w t' v' → Calls Try.prog 25 #[v, v'] w (GivesB w (M.sameT t t'))) (fun l tk ks ih t' v v' w h h' => ?_) t
 obtain ⟨l', tk', ks'⟩ := t'
 obtain ⟨A, c, rfl, hk⟩ := h
 obtain ⟨A', c', rfl, hk'⟩ := h'
 replace hk : Kids w ks (.slice A ks.length c) := hk
 replace hk' : Kids w ks' (.slice A' ks'.length c') := hk'
 show Calls Try.prog 25 #[tv l tk A ks.length c, tv l' tk' A' ks'.length c'] w _
 obtain ⟨hl1, hl2, hl3⟩ := hk.le
 obtain ⟨hm1, hm2, hm3⟩ := hk'.le
 have hl4 : c ≤ 9223372036854775807 := by unfold maxLen at hl3; omega
 have hm4 : c' ≤ 9223372036854775807 := by unfold maxLen at hm3; omega
 obtain ⟨n, hn⟩ : ∃ n, ks.length = n := ⟨_, rfl⟩
 obtain ⟨n', hn'⟩ : ∃ n', ks'.length = n' := ⟨_, rfl⟩
 obtain ⟨z, hz⟩ : ∃ z, M.sameT (.mk l tk ks) (.mk l' tk' ks') = z := ⟨_, rfl⟩
 have hz' : z = (decide (l = l') && (decide (tk = tk') && (decide (n = n') && M.sameTs ks ks'))) := by rw [← hz, M.sameT, ← hn, ← hn']; rfl
 rw [hz]
 rw [hn] at hk hl2 ⊢
 rw [hn'] at hk' hm2 ⊢
 have HN := hid hn
 clear hl1 hl3 hz hn hm1 hm3 hn'
 by_cases hll : l = l'
 case neg =>
  have HZ := hid (show false = z by rw [hz', decide_eq_false hll]; rfl)
  have hlb : (l == l') = false := by cases l <;> cases l' <;> simp at hll ⊢
  clear hk ih hz' hk' hll
  go_enter Try.func25, Try.ntmps25
  cases l <;> cases l' <;> simp at hlb <;> clear hlb <;> (
   go_wp2
   go_ret
   obtain rfl := HZ.out
   exact ⟨rfl, (Ext.alloc w _).alloc' _⟩)
 case pos =>
 subst hll
 by_cases htt : tk = tk'
 case neg =>
  have HZ := hid (show false = z by rw [hz', decide_eq_false htt, Bool.false_and, Bool.and_false])
  clear hk ih hz' hk'
  obtain ⟨a, x⟩ := tk
  obtain ⟨b, y⟩ := tk'
  by_cases hab : a = b
  ·subst hab
   have hxy : ¬ x = y := fun e => htt (by rw [e])
   clear htt
   cases l <;> (
    go_enter Try.func25, Try.ntmps25
    go_wp2
    go_ret
    obtain rfl := HZ.out
    exact ⟨rfl, (Ext.alloc w _).alloc' _⟩)
  ·clear htt
   cases l <;> (
    go_enter Try.func25, Try.ntmps25
    go_wp2
    go_ret
    obtain rfl := HZ.out
    exact ⟨rfl, (Ext.alloc w _).alloc' _⟩)
 case pos =>
 subst htt
 by_cases hnn : n = n'
 case neg =>
  have HZ := hid (show false = z by rw [hz', decide_eq_false hnn, Bool.false_and, Bool.and_false, Bool.and_false])
  have hq : ((n : Int) == (n' : Int)) = false := by simp; omega
  clear hk ih hz' hk' hnn
  cases l <;> (
   go_enter Try.func25, Try.ntmps25
   go_wp2
   go_ret
   obtain rfl := HZ.out
   exact ⟨rfl, (Ext.alloc w _).alloc' _⟩)
 case pos =>
 subst hnn
 have HZ := hid (show z = M.sameTs ks ks' by rw [hz', decide_eq_true rfl, decide_eq_true rfl, decide_eq_true rfl, Bool.true_and, Bool.true_and, Bool.true_and])
 have HK := hid hk
 have HK' := hid hk'
 have IH := hid ih
 clear hk ih hz' hk'
 go_enter Try.func25, Try.ntmps25
 go_wp2_with fail
 go_loopw [5] (fun i wr => ∃ (k : Nat), i = .int .i64 (k : Int) ∧ k ≤ n ∧ Hid (M.sameTs (ks.take k) ks' = true ∧ Ext (boxed2 w l tk A n c l tk A' n c') wr)) (fun i _ => n - (intOf i).toNat)
 case atStart => exact ⟨0, rfl, Nat.zero_le _, by simp [M.sameTs], Ext.refl _⟩
 case round =>
  obtain ⟨k, rfl, hk, hR⟩ := hrel
  have E := hid hR.out.2
  obtain ⟨⟨b0, b1, b2, b3⟩, d0, d1, d2, d3⟩ := box44 E.out
  have HS := hid hR.out.1
  clear hR
  rcases Nat.lt_or_ge k n with hlt | hge
  ·have hlt' : (k : Int) < (n : Int) := by omega
   obtain ⟨ad, u, B, d, rfl, hu, c0, c1, c2, c3, hv⟩ := (HK.out.up (((Ext.alloc w _).alloc' _).trans E.out)).get hlt
   obtain ⟨ad', u', B', d', rfl, hu', e0, e1, e2, e3, hv'⟩ := (HK'.out.up (((Ext.alloc w _).alloc' _).trans E.out)).get hlt
   have HU := hid hu
   have HU' := hid hu'
   have HV := hid hv
   have HV' := hid hv'
   have HC := hid (fun (w' : World) (e : Ext wr w') => IH.out k u HU.out (HV.out.up e) (HV'.out.up e))
   obtain ⟨q, hq⟩ : ∃ q, M.sameT u u' = q := ⟨_, rfl⟩
   have HQ := hid hq
   rw [hq] at HC
   clear hu hv hu' hv' hq
   go_wp2_with fail
   cases q
   ·refine wp_region_D [(0, 0), (1, 0), (2, 0), (3, 0), (4, 0), (5, 0), (6, 0), (7, 0), (8, 0), (9, 0), (10, 1), (11, 0)] fun wd hb => ?_
    have E6 := hid hb
    have b3 := hb.cell b3
    have d3 := hb.cell d3
    replace c0 := hb.cell c0
    replace c1 := hb.cell c1
    replace c2 := hb.cell c2
    replace c3 := hb.cell c3
    replace e0 := hb.cell e0
    replace e1 := hb.cell e1
    replace e2 := hb.cell e2
    replace e3 := hb.cell e3
    clear hb
    refine WE.p 34 (.pointer (some ⟨w.heap.size, 3, none⟩)) ?_
    simp only [Act.put, pA, pB, pC]
    refine WE.q 35 (.slice (some ad) n c) rfl (fun w' hk => by have ce := hk.cell b3; go_simp) ?_
    simp only [Act.put, pA, pB, pC]
    refine WE.p 36 (.int .i64 (k : Int)) ?_
    simp only [Act.put, pA, pB, pC]
    refine WE.p 37 (.pointer (some (ad.add (k * 4)))) ?_
    simp only [Act.put, pA, pB, pC]
    refine WE.q 38 (tv u.list u.tok B u.kids.length d) rfl (fun w' hk => by have x0 := hk.cell c0; have x1 := hk.cell c1; have x2 := hk.cell c2; have x3 := hk.cell c3; go_simp) ?_
    simp only [Act.put, pA, pB, pC]
    refine WE.p 39 (.pointer (some ⟨w.heap.size + 1, 3, none⟩)) ?_
    simp only [Act.put, pA, pB, pC]
    refine WE.q 40 (.slice (some ad') n c') rfl (fun w' hk => by have ce := hk.cell d3; go_simp) ?_
    simp only [Act.put, pA, pB, pC]
    refine WE.p 41 (.int .i64 (k : Int)) ?_
    simp only [Act.put, pA, pB, pC]
    refine WE.p 42 (.pointer (some (ad'.add (k * 4)))) ?_
    simp only [Act.put, pA, pB, pC]
    refine WE.q 43 (tv u'.list u'.tok B' u'.kids.length d') rfl (fun w' hk => by have x0 := hk.cell e0; have x1 := hk.cell e1; have x2 := hk.cell e2; have x3 := hk.cell e3; go_simp) ?_
    simp only [Act.put, pA, pB, pC]
    refine WE.c 44 ((HC.out _ E6.out).mono ?_)
    rintro e w6 ⟨rfl, hb6⟩
    refine ⟨_, rfl, hb6, ?_⟩
    replace E6 := hid (E6.out.trans hb6)
    clear hb6
    simp only [Act.put, pA, pB, pC]
    refine WE.p 45 (.bool true) ?_
    simp only [Act.put, pA, pB, pC]
    refine WE.done ?_
    go_wp2_with fail
    go_ret
    obtain rfl : false = z := by rw [HZ.out, M.not_sameTs HU.out HU'.out HQ.out]
    exact ⟨rfl, ((Ext.alloc w _).alloc' _).trans (E.out.trans E6.out)⟩
   ·refine wp_region_D [(0, 0), (1, 0), (2, 0), (3, 0), (4, 0), (5, 0), (6, 0), (7, 0), (8, 0), (9, 0), (10, 1), (11, 0)] fun wd hb => ?_
    have E6 := hid hb
    have b3 := hb.cell b3
    have d3 := hb.cell d3
    replace c0 := hb.cell c0
    replace c1 := hb.cell c1
    replace c2 := hb.cell c2
    replace c3 := hb.cell c3
    replace e0 := hb.cell e0
    replace e1 := hb.cell e1
    replace e2 := hb.cell e2
    replace e3 := hb.cell e3
    clear hb
    refine WE.p 34 (.pointer (some ⟨w.heap.size, 3, none⟩)) ?_
    simp only [Act.put, pA, pB, pC]
    refine WE.q 35 (.slice (some ad) n c) rfl (fun w' hk => by have ce := hk.cell b3; go_simp) ?_
    simp only [Act.put, pA, pB, pC]
    refine WE.p 36 (.int .i64 (k : Int)) ?_
    simp only [Act.put, pA, pB, pC]
    refine WE.p 37 (.pointer (some (ad.add (k * 4)))) ?_
    simp only [Act.put, pA, pB, pC]
    refine WE.q 38 (tv u.list u.tok B u.kids.length d) rfl (fun w' hk => by have x0 := hk.cell c0; have x1 := hk.cell c1; have x2 := hk.cell c2; have x3 := hk.cell c3; go_simp) ?_
    simp only [Act.put, pA, pB, pC]
    refine WE.p 39 (.pointer (some ⟨w.heap.size + 1, 3, none⟩)) ?_
    simp only [Act.put, pA, pB, pC]
    refine WE.q 40 (.slice (some ad') n c') rfl (fun w' hk => by have ce := hk.cell d3; go_simp) ?_
    simp only [Act.put, pA, pB, pC]
    refine WE.p 41 (.int .i64 (k : Int)) ?_
    simp only [Act.put, pA, pB, pC]
    refine WE.p 42 (.pointer (some (ad'.add (k * 4)))) ?_
    simp only [Act.put, pA, pB, pC]
    refine WE.q 43 (tv u'.list u'.tok B' u'.kids.length d') rfl (fun w' hk => by have x0 := hk.cell e0; have x1 := hk.cell e1; have x2 := hk.cell e2; have x3 := hk.cell e3; go_simp) ?_
    simp only [Act.put, pA, pB, pC]
    refine WE.c 44 ((HC.out _ E6.out).mono ?_)
    rintro e w6 ⟨rfl, hb6⟩
    refine ⟨_, rfl, hb6, ?_⟩
    replace E6 := hid (E6.out.trans hb6)
    clear hb6
    simp only [Act.put, pA, pB, pC]
    refine WE.p 45 (.bool false) ?_
    simp only [Act.put, pA, pB, pC]
    refine WE.done ?_
    go_wp2_with fail
    go_roundw
    case rel => exact ⟨k + 1, by simp, by omega, by rw [M.sameTs_take HU.out HU'.out, HS.out, HQ.out]; rfl, E.out.trans E6.out⟩
    case measure => simp [intOf]; omega
  ·obtain rfl : k = n := by omega
   go_wp2
   go_ret
   obtain rfl : true = z := by rw [HZ.out, ← HS.out, ← HN.out, List.take_length]
   exact ⟨rfl, ((Ext.alloc w _).alloc' _).trans E.out⟩
end Go.Proofs.Ytceplnfjlncekaa
