/-
  Layer 11's laws: small enough to be looked at; words within a tree.
-/
import Derived.Test.YtgkofipifjfjhaaGreatDoorJQC
import Derived.Test.YtgkofipifjfjhaaGreatDoorJKL
import Derived.Test.YtgkofipifjfjhaaGreatDoorJSA
import Derived.Test.YtgkofipifjfjhaaGreatDoorSLetsM
namespace Go.Proofs.YtgkofipifjfjhaaGreatDoor.Q
set_option linter.unusedSimpArgs false
set_option linter.unusedVariables false
open Go.RowKit

namespace M
mutual
/-- Is a tree small enough? -/
def fewK : T → Nat → Bool
 | .mk l tk ks, m => decide (m ≠ 0) && (decide (ks.length ≤ 12) && (decide (tk.2.length ≤ 40) && fewKs ks (m - 1)))
def fewKs : List T → Nat → Bool
 | [], _ => true
 | t :: r, m => fewK t m && fewKs r m
end
theorem fewKs_app (a b : List T) (m : Nat) : fewKs (a ++ b) m = (fewKs a m && fewKs b m) := by
 induction a with
 | nil => simp [fewKs]
 | cons x r ih => simp [fewKs, ih, Bool.and_assoc]
theorem fewKs_take {ks : List T} {k : Nat} {t : T} (h : ks[k]? = some t) (m : Nat) : fewKs (ks.take (k + 1)) m = (fewKs (ks.take k) m && fewK t m) := by
 rw [List.take_add_one, h, fewKs_app]; simp [fewKs]
theorem fewKs_at : ∀ {ks : List T} {m k : Nat} {t : T}, fewKs ks m = true → ks[k]? = some t → fewK t m = true
 | [], _, _, _, _, h => by simp at h
 | x :: r, m, 0, t, h, e => by simp at e; subst e; simp [fewKs] at h; exact h.1
 | x :: r, m, k + 1, t, h, e => by simp [fewKs] at h; exact fewKs_at h.2 (k := k) (by simpa using e)
theorem not_fewKs {ks : List T} {m k : Nat} {t : T} (e : ks[k]? = some t) (h : fewK t m = false) : fewKs ks m = false := by
 rcases hq : fewKs ks m with _ | _
 ·rfl
 ·rw [fewKs_at hq e] at h; cases h
mutual
theorem txtN_fewK : ∀ (t : T) (m : Nat), fewK t m = true → txtN t = true
 | .mk l tk ks, m, h => by
  rw [fewK, Bool.and_eq_true, Bool.and_eq_true, Bool.and_eq_true] at h
  rw [txtN, Bool.and_eq_true]
  exact ⟨h.2.2.1, txtNs_fewK ks (m - 1) h.2.2.2⟩
theorem txtNs_fewK : ∀ (ks : List T) (m : Nat), fewKs ks m = true → txtNs ks = true
 | [], _, _ => by rw [txtNs]
 | t :: r, m, h => by
  rw [fewKs, Bool.and_eq_true] at h
  rw [txtNs, Bool.and_eq_true]
  exact ⟨txtN_fewK t m h.1, txtNs_fewK r m h.2⟩
end
mutual
theorem dep_fewK : ∀ (t : T) (m : Nat), fewK t m = true → dep t ≤ m
 | .mk l tk ks, m, h => by
  rw [fewK, Bool.and_eq_true, Bool.and_eq_true, Bool.and_eq_true] at h
  have hm : m ≠ 0 := of_decide_eq_true h.1
  have := deps_fewK ks (m - 1) h.2.2.2
  rw [dep]
  split <;> omega
theorem deps_fewK : ∀ (ks : List T) (m : Nat), fewKs ks m = true → deps ks ≤ m
 | [], m, _ => by rw [deps]; omega
 | t :: r, m, h => by
  rw [fewKs, Bool.and_eq_true] at h
  have h1 := dep_fewK t m h.1
  have h2 := deps_fewK r m h.2
  rw [deps]; omega
end
theorem hasWs_take {s : List UInt8} {ks : List T} {k : Nat} {t : T} (h : ks[k]? = some t) (h0 : hasWs s (ks.take k) = false) : hasWs s (ks.take (k + 1)) = hasW s t := by
 have happ : ∀ a b, hasWs s (a ++ b) = (hasWs s a || hasWs s b) := by
  intro a b
  induction a with
  | nil => simp [hasWs]
  | cons x r ih => simp [hasWs, ih, Bool.or_assoc]
 rw [List.take_add_one, h, happ, h0]; simp [hasWs]
theorem hasWs_at : ∀ {s : List UInt8} {ks : List T} {k : Nat} {t : T}, ks[k]? = some t → hasW s t = true → hasWs s ks = true
 | _, [], _, _, h, _ => by simp at h
 | s, x :: r, 0, t, h, e => by simp at h; subst h; simp [hasWs, e]
 | s, x :: r, k + 1, t, h, e => by simp [hasWs, hasWs_at (k := k) (by simpa using h) e]
theorem headsTs_take {s : List UInt8} {ks : List T} {k : Nat} {t : T} (h : ks[k]? = some t) (h0 : headsTs s (ks.take k) = false) : headsTs s (ks.take (k + 1)) = headsT s t := by
 have happ : ∀ a b, headsTs s (a ++ b) = (headsTs s a || headsTs s b) := by
  intro a b
  induction a with
  | nil => simp [headsTs]
  | cons x r ih => simp [headsTs, ih, Bool.or_assoc]
 rw [List.take_add_one, h, happ, h0]; simp [headsTs]
theorem headsTs_at : ∀ {s : List UInt8} {ks : List T} {k : Nat} {t : T}, ks[k]? = some t → headsT s t = true → headsTs s ks = true
 | _, [], _, _, h, _ => by simp at h
 | s, x :: r, 0, t, h, e => by simp at h; subst h; simp [headsTs, e]
 | s, x :: r, k + 1, t, h, e => by simp [headsTs, headsTs_at (k := k) (by simpa using h) e]
end M
set_option maxHeartbeats 4000000 in
theorem fewTree_s (t : M.T) : ∀ {v : Value} {m : Nat} {w : World}, IsT w t v → m ≤ 70 → Calls Tryz.prog 13 #[v, .int .i64 (m : Int)] w (GivesB w (M.fewK t m)) := by
 refine M.T.indA (P := fun t => ∀ {v : Value} {m : Nat} {w : World}, IsT w t v → m ≤ 70 → Calls Tryz.prog 13 #[v, .int .i64 (m : Int)] w (GivesB w (M.fewK t m))) (fun l tk ks ih v m w h hm => ?_) t
 obtain ⟨A, c, rfl, hk⟩ := h
 replace hk : Kids w ks (.slice A ks.length c) := hk
 show Calls Tryz.prog 13 #[tv l tk A ks.length c, .int .i64 (m : Int)] w _
 obtain ⟨hl1, hl2, hl3⟩ := hk.le
 have hl4 : c ≤ 9223372036854775807 := by unfold maxLen at hl3; omega
 obtain ⟨n, hn⟩ : ∃ n, ks.length = n := ⟨_, rfl⟩
 obtain ⟨z, hz⟩ : ∃ z, M.fewK (.mk l tk ks) m = z := ⟨_, rfl⟩
 obtain ⟨x, hx⟩ : ∃ x, x = tk.2.length := ⟨_, rfl⟩
 have hsz : (⟨tk.2.toArray⟩ : ByteArray).size = x := by rw [Lib.size_eq, hx]
 have hsz2 : (tk.2.length : Int) = (x : Int) := by rw [hx]
 have hz' : z = (decide (m ≠ 0) && (decide (n ≤ 12) && (decide (x ≤ 40) && M.fewKs ks (m - 1)))) := by rw [← hz, M.fewK, hn, hx]
 rw [hz]
 rw [hn] at hk hl2 ⊢
 have HN := hid hn
 clear hx hl1 hl3 hz hn
 rcases Nat.eq_zero_or_pos m with rfl | hmp
 ·have HZ := hid (show false = z by rw [hz']; rfl)
  clear hk ih hz'
  go_enter Tryz.func13, Tryz.ntmps13
  go_wp2
  go_ret
  obtain rfl := HZ.out
  exact ⟨rfl, Ext.alloc w _⟩
 have hmq : ((m : Int) == 0) = false := by simp; omega
 rcases Nat.lt_or_ge 12 n with h30 | h30
 ·have HZ := hid (show false = z by rw [hz', show decide (n ≤ 12) = false by simp; omega]; simp)
  have hq : 12 < (n : Int) := by omega
  clear hk ih hz'
  go_enter Tryz.func13, Tryz.ntmps13
  go_wp2
  go_ret
  obtain rfl := HZ.out
  exact ⟨rfl, Ext.alloc w _⟩
 have hq : decide (12 < (n : Int)) = false := by simp; omega
 rcases Nat.lt_or_ge 40 x with h40 | h40
 ·have HZ := hid (show false = z by rw [hz', show decide (x ≤ 40) = false by simp; omega]; simp)
  have hq2 : 40 < (x : Int) := by omega
  clear hk ih hz'
  go_enter Tryz.func13, Tryz.ntmps13
  go_wp2
  go_ret
  obtain rfl := HZ.out
  exact ⟨rfl, Ext.alloc w _⟩
 have hq2 : decide (40 < (x : Int)) = false := by simp; omega
 obtain ⟨y, hy⟩ : ∃ y, m - 1 = y := ⟨_, rfl⟩
 have hms : ((m : Int) - 1) = (y : Int) := by omega
 have HZ := hid (show z = M.fewKs ks y by
  rw [hz', hy, show decide (m ≠ 0) = true by simp; omega, show decide (n ≤ 12) = true by simp; omega, show decide (x ≤ 40) = true by simp; omega]; rfl)
 have hy9 : y ≤ 70 := by omega
 have HK := hid hk
 have IH := hid ih
 clear hk ih hz' hy
 go_enter Tryz.func13, Tryz.ntmps13
 go_wp2_with fail
 go_loopw [5] (fun i wr => ∃ (k : Nat), i = .int .i64 (k : Int) ∧ k ≤ n ∧ Hid (M.fewKs (ks.take k) y = true ∧ Ext (boxed w l tk A n c) wr)) (fun i _ => n - (intOf i).toNat)
 case atStart => exact ⟨0, rfl, Nat.zero_le _, by simp [M.fewKs], Ext.refl _⟩
 case round =>
  obtain ⟨k, rfl, hk, hR⟩ := hrel
  have E := hid hR.out.2
  obtain ⟨b0, b1, b2, b3, hz⟩ := box4 E.out
  have HS := hid hR.out.1
  clear hR
  rcases Nat.lt_or_ge k n with hlt | hge
  ·have hlt' : (k : Int) < (n : Int) := by omega
   obtain ⟨ad, u, B, d, rfl, hu, c0, c1, c2, c3, hv⟩ := (HK.out.up ((Ext.alloc w _).trans E.out)).get hlt
   have HU := hid hu
   have HC := hid (IH.out k u HU.out hv (show y ≤ 70 by omega))
   obtain ⟨q, hq'⟩ : ∃ q, M.fewK u y = q := ⟨_, rfl⟩
   have HQ := hid hq'
   have HV := hid hv
   rw [hq'] at HC
   clear hu hv hq'
   cases q
   ·go_wp2_with (go_at_call 13; refine HC.out.mono ?_; rintro e w' ⟨rfl, hb⟩; replace E := hid (E.out.trans hb); clear hb)
    go_ret
    obtain rfl : false = z := by rw [HZ.out, M.not_fewKs HU.out HQ.out]
    exact ⟨rfl, (Ext.alloc w _).trans E.out⟩
   ·go_wp2_with (go_at_call 13; refine HC.out.mono ?_; rintro e w' ⟨rfl, hb⟩; replace E := hid (E.out.trans hb); clear hb)
    go_roundw
    case rel => exact ⟨k + 1, by simp, by omega, by rw [M.fewKs_take HU.out, HS.out, HQ.out]; rfl, E.out⟩
    case measure => simp [intOf]; omega
  ·obtain rfl : k = n := by omega
   go_wp2
   go_ret
   obtain rfl : true = z := by rw [HZ.out, ← HS.out, ← HN.out, List.take_length]
   exact ⟨rfl, (Ext.alloc w _).trans E.out⟩
set_option maxHeartbeats 4000000 in
theorem has_s (s : List UInt8) (t : M.T) : ∀ {v : Value} {w : World}, IsT w t v → Calls Tryz.prog 27 #[v, str s] w (GivesB w (M.hasW s t)) := by
 refine M.T.indA (P := fun t => ∀ {v : Value} {w : World}, IsT w t v → Calls Tryz.prog 27 #[v, str s] w (GivesB w (M.hasW s t))) (fun l tk ks ih v w h => ?_) t
 obtain ⟨A, c, rfl, hk⟩ := h
 replace hk : Kids w ks (.slice A ks.length c) := hk
 show Calls Tryz.prog 27 #[tv l tk A ks.length c, str s] w _
 obtain ⟨hl1, hl2, hl3⟩ := hk.le
 have hl4 : c ≤ 9223372036854775807 := by unfold maxLen at hl3; omega
 obtain ⟨n, hn⟩ : ∃ n, ks.length = n := ⟨_, rfl⟩
 obtain ⟨z, hz⟩ : ∃ z, M.hasW s (.mk l tk ks) = z := ⟨_, rfl⟩
 rw [hz]
 rw [hn] at hk hl2 ⊢
 have HN := hid hn
 clear hl1 hl3 hn
 cases l with
 | false =>
  obtain ⟨kd, tx⟩ := tk
  have hz' : z = (decide (kd = 4) && decide (tx = s)) := by rw [← hz, M.hasW, if_neg (by decide)]
  clear hk ih hz
  by_cases h4 : kd = 4
  ·subst h4
   obtain ⟨q, hq⟩ : ∃ q, (tx == s) = q := ⟨_, rfl⟩
   have HZ := hid (show q = z by rw [hz', ← hq]; by_cases e : tx = s <;> simp [e])
   clear hz'
   go_enter Tryz.func27, Tryz.ntmps27
   go_wp2
   go_ret
   obtain rfl := HZ.out
   exact ⟨rfl, Ext.alloc w _⟩
  ·have HZ := hid (show false = z by rw [hz']; simp [h4])
   have hq : (kd == 4) = false := by simpa using h4
   clear hz' h4
   go_enter Tryz.func27, Tryz.ntmps27
   go_wp2
   go_ret
   obtain rfl := HZ.out
   exact ⟨rfl, Ext.alloc w _⟩
 | true =>
 have HZ := hid (show z = M.hasWs s ks by rw [← hz, M.hasW, if_pos rfl])
 have HK := hid hk
 have IH := hid ih
 clear hk ih hz
 go_enter Tryz.func27, Tryz.ntmps27
 go_wp2_with fail
 go_loopw [5] (fun i wr => ∃ (k : Nat), i = .int .i64 (k : Int) ∧ k ≤ n ∧ Hid (M.hasWs s (ks.take k) = false ∧ Ext (boxed w true tk A n c) wr)) (fun i _ => n - (intOf i).toNat)
 case atStart => exact ⟨0, rfl, Nat.zero_le _, by simp [M.hasWs], Ext.refl _⟩
 case round =>
  obtain ⟨k, rfl, hk, hR⟩ := hrel
  have E := hid hR.out.2
  obtain ⟨b0, b1, b2, b3, hz⟩ := box4 E.out
  have HS := hid hR.out.1
  clear hR
  rcases Nat.lt_or_ge k n with hlt | hge
  ·have hlt' : (k : Int) < (n : Int) := by omega
   obtain ⟨ad, u, B, d, rfl, hu, c0, c1, c2, c3, hv⟩ := (HK.out.up ((Ext.alloc w _).trans E.out)).get hlt
   have HU := hid hu
   have HC := hid (IH.out k u HU.out hv)
   obtain ⟨q, hq'⟩ : ∃ q, M.hasW s u = q := ⟨_, rfl⟩
   have HQ := hid hq'
   rw [hq'] at HC
   clear hu hv hq'
   cases q
   ·go_wp2_with (go_at_call 27; refine HC.out.mono ?_; rintro e w' ⟨rfl, hb⟩; replace E := hid (E.out.trans hb); clear hb)
    go_roundw
    case rel => exact ⟨k + 1, by simp, by omega, by rw [M.hasWs_take HU.out HS.out, HQ.out], E.out⟩
    case measure => simp [intOf]; omega
   ·go_wp2_with (go_at_call 27; refine HC.out.mono ?_; rintro e w' ⟨rfl, hb⟩; replace E := hid (E.out.trans hb); clear hb)
    go_ret
    obtain rfl : true = z := by rw [HZ.out, M.hasWs_at HU.out HQ.out]
    exact ⟨rfl, (Ext.alloc w _).trans E.out⟩
  ·obtain rfl : k = n := by omega
   go_wp2
   go_ret
   obtain rfl : false = z := by rw [HZ.out, ← HS.out, ← HN.out, List.take_length]
   exact ⟨rfl, (Ext.alloc w _).trans E.out⟩
set_option maxHeartbeats 8000000 in
theorem heads_s (s : List UInt8) (t : M.T) : ∀ {v : Value} {w : World}, IsT w t v → Calls Tryz.prog 31 #[v, str s] w (GivesB w (M.headsT s t)) := by
 refine M.T.indA (P := fun t => ∀ {v : Value} {w : World}, IsT w t v → Calls Tryz.prog 31 #[v, str s] w (GivesB w (M.headsT s t))) (fun l tk ks ih v w h => ?_) t
 obtain ⟨A, c, rfl, hk⟩ := h
 replace hk : Kids w ks (.slice A ks.length c) := hk
 show Calls Tryz.prog 31 #[tv l tk A ks.length c, str s] w _
 obtain ⟨hl1, hl2, hl3⟩ := hk.le
 have hl4 : c ≤ 9223372036854775807 := by unfold maxLen at hl3; omega
 obtain ⟨n, hn⟩ : ∃ n, ks.length = n := ⟨_, rfl⟩
 obtain ⟨z, hz⟩ : ∃ z, M.headsT s (.mk l tk ks) = z := ⟨_, rfl⟩
 have HZ := hid (show z = (M.headK s ks || M.headsTs s ks) by rw [← hz, M.headsT])
 rw [hz]
 rw [hn] at hk hl2 ⊢
 have HN := hid hn
 have HK := hid hk
 have IH := hid ih
 clear hl1 hl3 hn hk ih hz
 go_enter Tryz.func31, Tryz.ntmps31
 go_wp2_with fail
 go_loopw [5] (fun i wr => ∃ (k : Nat), i = .int .i64 (k : Int) ∧ k ≤ n ∧ Hid ((0 < k → M.headK s ks = false) ∧ M.headsTs s (ks.take k) = false ∧ Ext (boxed w l tk A n c) wr)) (fun i _ => n - (intOf i).toNat)
 case atStart => exact ⟨0, rfl, Nat.zero_le _, fun h => absurd h (by decide), by simp [M.headsTs], Ext.refl _⟩
 case round =>
  obtain ⟨k, rfl, hk, hR⟩ := hrel
  have E := hid hR.out.2.2
  obtain ⟨b0, b1, b2, b3, hz⟩ := box4 E.out
  have HS := hid hR.out.2.1
  have HH := hid hR.out.1
  clear hR
  rcases Nat.lt_or_ge k n with hlt | hge
  ·have hlt' : (k : Int) < (n : Int) := by omega
   have HK1 := hid (HK.out.up ((Ext.alloc w _).trans E.out))
   rcases Nat.eq_zero_or_pos k with rfl | hpos
   ·obtain ⟨ad, u, B, d, rfl, hu, ⟨c0, c1, c2, c3⟩, hv⟩ := HK1.out.at0 hlt
    have HU := hid hu
    have HC := hid (IH.out 0 u HU.out hv)
    obtain ⟨q, hq'⟩ : ∃ q, M.headsT s u = q := ⟨_, rfl⟩
    have HQ := hid hq'
    rw [hq'] at HC
    have HK2 := hid (show M.headK s ks = (!u.list && decide (u.tok.2 = s)) by
     cases ks with
     | nil => simp at hu
     | cons y r => simp at hu; subst hu; rfl)
    have hnn : (0 : Int) < (n : Int) := by omega
    obtain ⟨um, hum⟩ : ∃ m, u.kids.length = m := ⟨_, rfl⟩
    rw [hum] at c3 HC
    obtain ⟨ul, hul⟩ : ∃ m, u.list = m := ⟨_, rfl⟩
    obtain ⟨uk, huk⟩ : ∃ m, u.tok.1 = m := ⟨_, rfl⟩
    obtain ⟨ux, hux⟩ : ∃ m, u.tok.2 = m := ⟨_, rfl⟩
    rw [hul] at c0 HK2
    rw [huk] at c1
    rw [hux] at c2 HK2
    have HC' := hid (show Calls Tryz.prog 31 #[tv ul (uk, ux) B um d, str s] wr (GivesB wr q) by
     have h := HC.out
     rw [hul, show u.tok = (uk, ux) from Prod.ext huk hux] at h
     exact h)
    clear hu hv hq' hum hul huk hux HC
    by_cases hbb : ul = false ∧ ux = s
    ·obtain ⟨rfl, rfl⟩ := hbb
     have hqq : (ux == ux) = true := by simp
     go_wp2
     go_ret
     obtain rfl : true = z := by rw [HZ.out, HK2.out]; simp
     exact ⟨rfl, (Ext.alloc w _).trans E.out⟩
    ·have HF := hid (show M.headK s ks = false by
      rw [HK2.out]
      cases ul
      ·have : ux ≠ s := fun e => hbb ⟨rfl, e⟩
       simp [this]
      ·rfl)
     have hbc : ul = true ∨ (ux == s) = false := by
      cases ul
      ·exact .inr (by simpa using fun e => hbb ⟨rfl, e⟩)
      ·exact .inl rfl
     clear hbb
     cases ul
     ·replace hbc : (ux == s) = false := hbc.resolve_left (by decide)
      cases q
      ·go_wp2_with (go_at_call 31; refine HC'.out.mono ?_; rintro e w' ⟨rfl, hb⟩; replace E := hid (E.out.trans hb); clear hb)
       go_roundw
       case rel => exact ⟨1, by simp, by omega, fun _ => HF.out, by rw [M.headsTs_take HU.out HS.out, HQ.out], E.out⟩
       case measure => simp [intOf]; omega
      ·go_wp2_with (go_at_call 31; refine HC'.out.mono ?_; rintro e w' ⟨rfl, hb⟩; replace E := hid (E.out.trans hb); clear hb)
       go_ret
       obtain rfl : true = z := by rw [HZ.out, M.headsTs_at HU.out HQ.out, Bool.or_true]
       exact ⟨rfl, (Ext.alloc w _).trans E.out⟩
     ·clear hbc
      cases q
      ·go_wp2_with (go_at_call 31; refine HC'.out.mono ?_; rintro e w' ⟨rfl, hb⟩; replace E := hid (E.out.trans hb); clear hb)
       go_roundw
       case rel => exact ⟨1, by simp, by omega, fun _ => HF.out, by rw [M.headsTs_take HU.out HS.out, HQ.out], E.out⟩
       case measure => simp [intOf]; omega
      ·go_wp2_with (go_at_call 31; refine HC'.out.mono ?_; rintro e w' ⟨rfl, hb⟩; replace E := hid (E.out.trans hb); clear hb)
       go_ret
       obtain rfl : true = z := by rw [HZ.out, M.headsTs_at HU.out HQ.out, Bool.or_true]
       exact ⟨rfl, (Ext.alloc w _).trans E.out⟩
   ·have hk0 : ((k : Int) == 0) = false := by simp; omega
    have hf := HH.out hpos
    have HF := hid hf
    obtain ⟨ad, u, B, d, rfl, hu, c0, c1, c2, c3, hv⟩ := HK1.out.get hlt
    have HU := hid hu
    have HC := hid (IH.out k u HU.out hv)
    obtain ⟨q, hq'⟩ : ∃ q, M.headsT s u = q := ⟨_, rfl⟩
    have HQ := hid hq'
    rw [hq'] at HC
    clear hu hv hq' hf
    cases q
    ·go_wp2_with (go_at_call 31; refine HC.out.mono ?_; rintro e w' ⟨rfl, hb⟩; replace E := hid (E.out.trans hb); clear hb)
     go_roundw
     case rel => exact ⟨k + 1, by simp, by omega, fun _ => HF.out, by rw [M.headsTs_take HU.out HS.out, HQ.out], E.out⟩
     case measure => simp [intOf]; omega
    ·go_wp2_with (go_at_call 31; refine HC.out.mono ?_; rintro e w' ⟨rfl, hb⟩; replace E := hid (E.out.trans hb); clear hb)
     go_ret
     obtain rfl : true = z := by rw [HZ.out, M.headsTs_at HU.out HQ.out, Bool.or_true]
     exact ⟨rfl, (Ext.alloc w _).trans E.out⟩
  ·obtain rfl : k = n := by omega
   have HZ2 := hid (show z = false by
    have h2 := HS.out
    rw [← HN.out, List.take_length] at h2
    rw [HZ.out, h2, Bool.or_false]
    rcases Nat.eq_zero_or_pos k with rfl | hpos
    ·have : ks = [] := List.eq_nil_of_length_eq_zero HN.out
     rw [this]; rfl
    ·exact HH.out hpos)
   go_wp2
   go_ret
   obtain rfl := HZ2.out
   exact ⟨rfl, (Ext.alloc w _).trans E.out⟩
namespace M
def fewSg (s : Sg) : Bool := decide (s.name.length ≤ 40) && decide (s.args.length ≤ 6)
def fewSs (l : List Sg) : Bool := l.all fewSg && decide (l.length ≤ 10)
end M
set_option maxHeartbeats 4000000 in
theorem fewSigs_s {l : List M.Sg} {v : Value} {w : World} (h : Sgs w l v) : Calls Tryz.prog 14 #[v] w (GivesB w (M.fewSs l)) := by
 obtain ⟨A, c, rfl⟩ := h.shape
 obtain ⟨hl1, hl2, hl3⟩ := h.le
 obtain ⟨n, hn⟩ : ∃ n, l.length = n := ⟨_, rfl⟩
 obtain ⟨z, hz⟩ : ∃ z, M.fewSs l = z := ⟨_, rfl⟩
 have HZ := hid (show z = (l.all M.fewSg && decide (n ≤ 10)) by rw [← hz, M.fewSs, hn])
 rw [hz]
 rw [hn] at h hl2 ⊢
 have HN := hid hn
 have HK := hid h
 clear h hl1 hn hz
 go_enter Tryz.func14, Tryz.ntmps14
 go_wp2_with fail
 go_loopw [3] (fun i wr => ∃ (k : Nat), i = .int .i64 (k : Int) ∧ k ≤ n ∧ Hid ((l.take k).all M.fewSg = true ∧ Ext w wr)) (fun i _ => n - (intOf i).toNat)
 case atStart => exact ⟨0, rfl, Nat.zero_le _, rfl, Ext.refl _⟩
 case round =>
  obtain ⟨k, rfl, hk, hR⟩ := hrel
  have E := hid hR.out.2
  have HS := hid hR.out.1
  clear hR
  rcases Nat.lt_or_ge k n with hlt | hge
  ·have hlt' : (k : Int) < (n : Int) := by omega
   obtain ⟨ad, u, B, d, rfl, hu, ⟨c0, c1, c2⟩, hv⟩ := (HK.out.up E.out).get hlt
   have HU := hid hu
   obtain ⟨⟨nm, ag, rt⟩, hue⟩ : ∃ x, u = x := ⟨_, rfl⟩
   subst hue
   obtain ⟨x, hx⟩ : ∃ x, x = nm.length := ⟨_, rfl⟩
   have hsz : (⟨nm.toArray⟩ : ByteArray).size = x := by rw [Lib.size_eq, hx]
   have hsz2 : (nm.length : Int) = (x : Int) := by rw [hx]
   obtain ⟨m, hm⟩ : ∃ m, ag.length = m := ⟨_, rfl⟩
   replace c0 : wr.cell? (ad.add (k * 3)) = some (str nm) := c0
   replace c1 : wr.cell? ⟨(ad.add (k * 3)).block, (ad.add (k * 3)).off + 1, none⟩ = some (.slice B ag.length d) := c1
   rw [hm] at c1
   have HF := hid (show M.fewSg ⟨nm, ag, rt⟩ = (decide (x ≤ 40) && decide (m ≤ 6)) by rw [hx, ← hm]; rfl)
   have HT := hid (show (l.take (k + 1)).all M.fewSg = M.fewSg ⟨nm, ag, rt⟩ by rw [List.take_add_one, HU.out, List.all_append, HS.out]; simp)
   have HA := hid (show M.fewSg ⟨nm, ag, rt⟩ = false → l.all M.fewSg = false from fun hf => by
    rw [List.all_eq_false]
    exact ⟨_, List.mem_of_getElem? HU.out, by simp [hf]⟩)
   clear hu hv hx hm c2
   rcases Nat.lt_or_ge 40 x with h40 | h40
   ·have hq : 40 < (x : Int) := by omega
    go_wp2
    go_ret
    obtain rfl : false = z := by rw [HZ.out, HA.out (by rw [HF.out, decide_eq_false (by omega), Bool.false_and]), Bool.false_and]
    exact ⟨rfl, E.out⟩
   have hq : decide (40 < (x : Int)) = false := by simp; omega
   rcases Nat.lt_or_ge 6 m with h6 | h6
   ·have hq2 : 6 < (m : Int) := by omega
    go_wp2
    go_ret
    obtain rfl : false = z := by rw [HZ.out, HA.out (by rw [HF.out, decide_eq_false (show ¬ m ≤ 6 by omega), Bool.and_false]), Bool.false_and]
    exact ⟨rfl, E.out⟩
   ·have hq2 : decide (6 < (m : Int)) = false := by simp; omega
    go_wp2_with fail
    go_roundw
    case rel => exact ⟨k + 1, by simp, by omega, by rw [HT.out, HF.out, decide_eq_true h40, decide_eq_true h6]; rfl, E.out⟩
    case measure => simp [intOf]; omega
  ·obtain rfl : k = n := by omega
   have HA := hid (show l.all M.fewSg = true by have := HS.out; rw [← HN.out, List.take_length] at this; exact this)
   rcases Nat.lt_or_ge 10 k with h10 | h10
   ·have hq3 : decide ((k : Int) ≤ 10) = false := by simp; omega
    go_wp2
    go_ret
    obtain rfl : false = z := by rw [HZ.out, decide_eq_false (show ¬ k ≤ 10 by omega), Bool.and_false]
    exact ⟨rfl, E.out⟩
   ·have hq3 : (k : Int) ≤ 10 := by omega
    go_wp2
    go_ret
    obtain rfl : true = z := by rw [HZ.out, HA.out, decide_eq_true h10]; rfl
    exact ⟨rfl, E.out⟩
end Go.Proofs.YtgkofipifjfjhaaGreatDoor.Q
