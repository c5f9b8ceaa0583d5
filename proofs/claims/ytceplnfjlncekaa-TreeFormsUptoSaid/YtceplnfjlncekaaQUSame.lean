/-
  Contracts of package tree: whether two are the same.
-/
import Derived.Test.YtceplnfjlncekaaQTSame
import Derived.Test.YtceplnfjlncekaaQUCount
namespace Go.Proofs.Ytceplnfjlncekaa
set_option linter.unusedSimpArgs false
set_option linter.unusedVariables false
open Go.RowKit

/-- The function's own value. -/
abbrev sameFun : Value := .func (.func 24) #[] #[]
theorem alloc_Ext2 (w : World) (o o' : Obj) : Ext w ((w.alloc o).alloc o') := (Ext.alloc w _).alloc' _
set_option maxHeartbeats 8000000 in
theorem equalF_t {ks ks' : List M.T} (ih : ∀ (k : Nat) (t : M.T), ks[k]? = some t → ∀ {t' : M.T} {v v' : Value} {w : World}, IsT w t v → IsT w t' v' → Calls Try.prog 24 #[v, v'] w (GivesB w (M.sameT t t')))
 {v v' : Value} {w : World} (hk : Kids w ks v) (hk' : Kids w ks' v') : Calls Try.prog 38 #[v, v', sameFun] w (GivesB w (decide (ks.length = ks'.length) && M.sameTs ks ks')) := by
 obtain ⟨A, c, rfl⟩ := hk.shape
 obtain ⟨A', c', rfl⟩ := hk'.shape
 obtain ⟨hl1, hl2, hl3⟩ := hk.le
 obtain ⟨hm1, hm2, hm3⟩ := hk'.le
 have hl4 : c ≤ 9223372036854775807 := by unfold maxLen at hl3; omega
 have hm4 : c' ≤ 9223372036854775807 := by unfold maxLen at hm3; omega
 obtain ⟨n, hn⟩ : ∃ n, ks.length = n := ⟨_, rfl⟩
 obtain ⟨n', hn'⟩ : ∃ n', ks'.length = n' := ⟨_, rfl⟩
 obtain ⟨z, hz⟩ : ∃ z, (decide (ks.length = ks'.length) && M.sameTs ks ks') = z := ⟨_, rfl⟩
 have hz' : z = (decide (n = n') && M.sameTs ks ks') := by rw [← hz, ← hn, ← hn']
 rw [hz]
 rw [hn] at hk hl2 ⊢
 rw [hn'] at hk' hm2 ⊢
 have HN := hid hn
 clear hl1 hl3 hz hn hm1 hm3 hn'
 by_cases hnn : n = n'
 case neg =>
  have HZ := hid (show false = z by rw [hz', decide_eq_false hnn, Bool.false_and])
  have hq : ((n : Int) == (n' : Int)) = false := by simp; omega
  clear hk hz' hk' hnn ih
  go_enter Try.func38, Try.ntmps38
  go_wp2
  go_ret
  obtain rfl := HZ.out
  exact ⟨rfl, Ext.refl _⟩
 case pos =>
 subst hnn
 have HZ := hid (show z = M.sameTs ks ks' by rw [hz', decide_eq_true rfl, Bool.true_and])
 have HK := hid hk
 have HK' := hid hk'
 have IH := @hid _ @ih
 clear hk hz' hk' ih
 go_enter Try.func38, Try.ntmps38
 go_wp2_with fail
 go_loopw [17] (fun i wr => ∃ (k : Nat), i = .int .i64 (k : Int) ∧ k ≤ n ∧ Hid (M.sameTs (ks.take k) ks' = true ∧ Ext w wr)) (fun i _ => n - (intOf i).toNat)
 case atStart => exact ⟨0, rfl, Nat.zero_le _, by simp [M.sameTs], Ext.refl _⟩
 case round =>
  obtain ⟨k, rfl, hk, hR⟩ := hrel
  have E := hid hR.out.2
  have HS := hid hR.out.1
  clear hR
  rcases Nat.lt_or_ge k n with hlt | hge
  ·have hlt' : (k : Int) < (n : Int) := by omega
   obtain ⟨ad, u, B, d, rfl, hu, c0, c1, c2, c3, hv⟩ := (HK.out.up E.out).get hlt
   obtain ⟨ad', u', B', d', rfl, hu', e0, e1, e2, e3, hv'⟩ := (HK'.out.up E.out).get hlt
   have f0 := fun o => (Ext.alloc wr o).cell e0
   have f1 := fun o => (Ext.alloc wr o).cell e1
   have f2 := fun o => (Ext.alloc wr o).cell e2
   have f3 := fun o => (Ext.alloc wr o).cell e3
   have HU := hid hu
   have HU' := hid hu'
   have HV := hid hv
   have HV' := hid hv'
   have HC := hid (fun (w' : World) (e : Ext wr w') => IH.out k u HU.out (HV.out.up e) (HV'.out.up e))
   obtain ⟨q, hq⟩ : ∃ q, M.sameT u u' = q := ⟨_, rfl⟩
   have HQ := hid hq
   rw [hq] at HC
   clear hu hv hu' hv' hq
   cases q
   ·go_wp2_with (go_at_call 24; refine (HC.out _ (alloc_Ext2 _ _ _)).mono ?_; rintro e w' ⟨rfl, hb⟩; replace E := hid ((E.out.trans (alloc_Ext2 _ _ _)).trans hb); clear hb)
    go_ret
    obtain rfl : false = z := by rw [HZ.out, M.not_sameTs HU.out HU'.out HQ.out]
    exact ⟨rfl, E.out⟩
   ·go_wp2_with (go_at_call 24; refine (HC.out _ (alloc_Ext2 _ _ _)).mono ?_; rintro e w' ⟨rfl, hb⟩; replace E := hid ((E.out.trans (alloc_Ext2 _ _ _)).trans hb); clear hb)
    go_roundw
    case rel => exact ⟨k + 1, by simp, by omega, by rw [M.sameTs_take HU.out HU'.out, HS.out, HQ.out]; rfl, E.out⟩
    case measure => simp [intOf]; omega
  ·obtain rfl : k = n := by omega
   go_wp2
   go_ret
   obtain rfl : true = z := by rw [HZ.out, ← HS.out, ← HN.out, List.take_length]
   exact ⟨rfl, E.out⟩
set_option maxHeartbeats 8000000 in
theorem same_t (t : M.T) : ∀ {t' : M.T} {v v' : Value} {w : World}, IsT w t v → IsT w t' v' → Calls Try.prog 24 #[v, v'] w (GivesB w (M.sameT t t')) := by
 refine M.T.indA (P := fun t => ∀ {t' : M.T} {v v' : Value} {w : World}, IsT w t v → IsT w t' v' → Calls Try.prog 24 #[v, v'] w (GivesB w (M.sameT t t'))) (fun l tk ks ih t' v v' w h h' => ?_) t
 obtain ⟨l', tk', ks'⟩ := t'
 obtain ⟨A, c, rfl, hk⟩ := h
 obtain ⟨A', c', rfl, hk'⟩ := h'
 replace hk : Kids w ks (.slice A ks.length c) := hk
 replace hk' : Kids w ks' (.slice A' ks'.length c') := hk'
 show Calls Try.prog 24 #[tv l tk A ks.length c, tv l' tk' A' ks'.length c'] w _
 have HC := hid (show ∀ w', Ext w w' → Calls Try.prog 38 #[.slice A ks.length c, .slice A' ks'.length c', sameFun] w' (GivesB w' (decide (ks.length = ks'.length) && M.sameTs ks ks')) from fun w' e => equalF_t ih (hk.up e) (hk'.up e))
 obtain ⟨q, hq⟩ : ∃ q, (decide (ks.length = ks'.length) && M.sameTs ks ks') = q := ⟨_, rfl⟩
 obtain ⟨z, hz⟩ : ∃ z, M.sameT (.mk l tk ks) (.mk l' tk' ks') = z := ⟨_, rfl⟩
 have hz' : z = (decide (l = l') && (decide (tk = tk') && q)) := by rw [← hz, M.sameT, ← hq]; rfl
 rw [hq] at HC
 obtain ⟨n, hn⟩ : ∃ n, ks.length = n := ⟨_, rfl⟩
 obtain ⟨n', hn'⟩ : ∃ n', ks'.length = n' := ⟨_, rfl⟩
 rw [hn, hn'] at HC
 rw [hz, hn, hn']
 clear hk hk' ih hz hq hn hn'
 by_cases hll : l = l'
 case neg =>
  have HZ := hid (show false = z by rw [hz', decide_eq_false hll]; rfl)
  have hlb : (l == l') = false := by cases l <;> cases l' <;> simp at hll ⊢
  clear hz' hll HC
  go_enter Try.func24, Try.ntmps24
  cases l <;> cases l' <;> simp at hlb <;> clear hlb <;> (
   go_wp2
   go_ret
   obtain rfl := HZ.out
   exact ⟨rfl, (Ext.alloc w _).alloc' _⟩)
 case pos =>
 subst hll
 by_cases htt : tk = tk'
 case neg =>
  have HZ := hid (show false = z by rw [hz', decide_eq_false htt, Bool.false_and, Bool.and_false])
  clear hz' HC
  obtain ⟨a, x⟩ := tk
  obtain ⟨b, y⟩ := tk'
  by_cases hab : a = b
  ·subst hab
   have hxy : ¬ x = y := fun e => htt (by rw [e])
   clear htt
   cases l <;> (
    go_enter Try.func24, Try.ntmps24
    go_wp2
    go_ret
    obtain rfl := HZ.out
    exact ⟨rfl, (Ext.alloc w _).alloc' _⟩)
  ·clear htt
   cases l <;> (
    go_enter Try.func24, Try.ntmps24
    go_wp2
    go_ret
    obtain rfl := HZ.out
    exact ⟨rfl, (Ext.alloc w _).alloc' _⟩)
 case pos =>
 subst htt
 have HZ := hid (show q = z by rw [hz', decide_eq_true rfl, decide_eq_true rfl, Bool.true_and, Bool.true_and])
 clear hz'
 cases l <;> (
  go_enter Try.func24, Try.ntmps24
  go_wp2_with (go_at_call 38; refine (HC.out _ (alloc_Ext2 w _ _)).mono ?_; rintro e w' ⟨rfl, hb⟩; have E := hid ((alloc_Ext2 w _ _).trans hb); clear hb)
  go_ret
  obtain rfl := HZ.out
  exact ⟨rfl, E.out⟩)
end Go.Proofs.Ytceplnfjlncekaa
