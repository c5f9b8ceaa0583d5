/-
  Layer 9, the law: small enough to be looked at.
-/
import Derived.Test.YtceplnfjlncekaaQTCount
namespace Go.Proofs.Ytceplnfjlncekaa
set_option linter.unusedSimpArgs false
set_option linter.unusedVariables false
open Go.RowKit

set_option maxHeartbeats 4000000 in
theorem fewTree_n (t : M.T) : ∀ {v : Value} {m : Nat} {w : World}, IsT w t v → m ≤ 70 → Calls Try.prog 14 #[v, .int .i64 (m : Int)] w (GivesB w (M.fewN t m)) := by
 refine M.T.indA (P := fun t => ∀ {v : Value} {m : Nat} {w : World}, IsT w t v → m ≤ 70 → Calls Try.prog 14 #[v, .int .i64 (m : Int)] w (GivesB w (M.fewN t m))) (fun l tk ks ih v m w h hm => ?_) t
 obtain ⟨A, c, rfl, hk⟩ := h
 replace hk : Kids w ks (.slice A ks.length c) := hk
 show Calls Try.prog 14 #[tv l tk A ks.length c, .int .i64 (m : Int)] w _
 obtain ⟨hl1, hl2, hl3⟩ := hk.le
 have hl4 : c ≤ 9223372036854775807 := by unfold maxLen at hl3; omega
 obtain ⟨n, hn⟩ : ∃ n, ks.length = n := ⟨_, rfl⟩
 obtain ⟨z, hz⟩ : ∃ z, M.fewN (.mk l tk ks) m = z := ⟨_, rfl⟩
 obtain ⟨x, hx⟩ : ∃ x, x = tk.2.length := ⟨_, rfl⟩
 have hsz : (⟨tk.2.toArray⟩ : ByteArray).size = x := by rw [Lib.size_eq, hx]
 have hsz2 : (tk.2.length : Int) = (x : Int) := by rw [hx]
 have hz' : z = (decide (m ≠ 0) && (decide (n ≤ 30) && (decide (x ≤ 40) && M.fewNs ks (m - 1)))) := by rw [← hz, M.fewN, hn, hx]
 rw [hz]
 rw [hn] at hk hl2 ⊢
 have HN := hid hn
 clear hx hl1 hl3 hz hn
 rcases Nat.eq_zero_or_pos m with rfl | hmp
 ·have HZ := hid (show false = z by rw [hz']; rfl)
  clear hk ih hz'
  go_enter Try.func14, Try.ntmps14
  go_wp2
  go_ret
  obtain rfl := HZ.out
  exact ⟨rfl, Ext.alloc w _⟩
 have hmq : ((m : Int) == 0) = false := by simp; omega
 rcases Nat.lt_or_ge 30 n with h30 | h30
 ·have HZ := hid (show false = z by rw [hz', show decide (n ≤ 30) = false by simp; omega]; simp)
  have hq : 30 < (n : Int) := by omega
  clear hk ih hz'
  go_enter Try.func14, Try.ntmps14
  go_wp2
  go_ret
  obtain rfl := HZ.out
  exact ⟨rfl, Ext.alloc w _⟩
 have hq : decide (30 < (n : Int)) = false := by simp; omega
 rcases Nat.lt_or_ge 40 x with h40 | h40
 ·have HZ := hid (show false = z by rw [hz', show decide (x ≤ 40) = false by simp; omega]; simp)
  have hq2 : 40 < (x : Int) := by omega
  clear hk ih hz'
  go_enter Try.func14, Try.ntmps14
  go_wp2
  go_ret
  obtain rfl := HZ.out
  exact ⟨rfl, Ext.alloc w _⟩
 have hq2 : decide (40 < (x : Int)) = false := by simp; omega
 obtain ⟨y, hy⟩ : ∃ y, m - 1 = y := ⟨_, rfl⟩
 have hms : ((m : Int) - 1) = (y : Int) := by omega
 have HZ := hid (show z = M.fewNs ks y by
  rw [hz', hy, show decide (m ≠ 0) = true by simp; omega, show decide (n ≤ 30) = true by simp; omega, show decide (x ≤ 40) = true by simp; omega]; rfl)
 have hy9 : y ≤ 70 := by omega
 have HK := hid hk
 have IH := hid ih
 clear hk ih hz' hy
 go_enter Try.func14, Try.ntmps14
 go_wp2_with fail
 go_loopw [5] (fun i wr => ∃ (k : Nat), i = .int .i64 (k : Int) ∧ k ≤ n ∧ Hid (M.fewNs (ks.take k) y = true ∧ Ext (boxed w l tk A n c) wr)) (fun i _ => n - (intOf i).toNat)
 case atStart => exact ⟨0, rfl, Nat.zero_le _, by simp [M.fewNs], Ext.refl _⟩
 case round =>
  obtain ⟨k, rfl, hk, hR⟩ := hrel
  have E := hid hR.out.2
  obtain ⟨b0, b1, b2, b3, hz⟩ := box4 E.out
  have HS := hid hR.out.1
  clear hR
  rcases Nat.lt_or_ge k n with hlt | hge
  ·have hlt' : (k : Int) < (n : Int) := by omega
   obtain ⟨ad, u, B, d, rfl, hu, c0, c1, c2, c3, hv⟩ := (HK.out.up ((Ext.alloc w _).trans E.out)).get hlt
   have HU := hid hu
   have HC := hid (IH.out k u HU.out hv (show y ≤ 70 by omega))
   obtain ⟨q, hq'⟩ : ∃ q, M.fewN u y = q := ⟨_, rfl⟩
   have HQ := hid hq'
   have HV := hid hv
   rw [hq'] at HC
   clear hu hv hq'
   cases q
   ·go_wp2_with (go_at_call 14; refine HC.out.mono ?_; rintro e w' ⟨rfl, hb⟩; replace E := hid (E.out.trans hb); clear hb)
    go_ret
    obtain rfl : false = z := by rw [HZ.out, M.not_fewNs HU.out HQ.out]
    exact ⟨rfl, (Ext.alloc w _).trans E.out⟩
   ·go_wp2_with (go_at_call 14; refine HC.out.mono ?_; rintro e w' ⟨rfl, hb⟩; replace E := hid (E.out.trans hb); clear hb)
    go_roundw
    case rel => exact ⟨k + 1, by simp, by omega, by rw [M.fewNs_take HU.out, HS.out, HQ.out]; rfl, E.out⟩
    case measure => simp [intOf]; omega
  ·obtain rfl : k = n := by omega
   go_wp2
   go_ret
   obtain rfl : true = z := by rw [HZ.out, ← HS.out, ← HN.out, List.take_length]
   exact ⟨rfl, (Ext.alloc w _).trans E.out⟩
end Go.Proofs.Ytceplnfjlncekaa
