/-
  Layer 12's laws: fewNames, fewTerm (the same words as layer 10's).
-/
import Derived.Test.YtkhmgdfhggejaaaGreatDoorWJKA
namespace Go.Proofs.YtkhmgdfhggejaaaGreatDoor.Q
set_option linter.unusedSimpArgs false
set_option linter.unusedVariables false
open Go.RowKit
namespace M
mutual
def vfew : Tm → Bool
 | .mk _ _ ls nm _ ks => decide (nm.length ≤ 30) && (decide (ls.length ≤ 4) && vfews ks)
def vfews : List Tm → Bool
 | [] => true
 | t :: r => vfew t && vfews r
end
theorem vfews_app (a b : List Tm) : vfews (a ++ b) = (vfews a && vfews b) := by
 induction a with
 | nil => simp [vfews]
 | cons x r ih => simp [vfews, ih, Bool.and_assoc]
theorem vfews_take {ks : List Tm} {k : Nat} {t : Tm} (h : ks[k]? = some t) : vfews (ks.take (k + 1)) = (vfews (ks.take k) && vfew t) := by
 rw [List.take_add_one, h, vfews_app]; simp [vfews]
theorem vfews_at : ∀ {ks : List Tm} {k : Nat} {t : Tm}, vfews ks = true → ks[k]? = some t → vfew t = true
 | [], _, _, _, h => by simp at h
 | x :: r, 0, t, h, e => by simp at e; subst e; rw [vfews, Bool.and_eq_true] at h; exact h.1
 | x :: r, k + 1, t, h, e => by rw [vfews, Bool.and_eq_true] at h; exact vfews_at h.2 (k := k) (by simpa using e)
theorem not_vfews {ks : List Tm} {k : Nat} {t : Tm} (e : ks[k]? = some t) (h : vfew t = false) : vfews ks = false := by
 rcases hq : vfews ks with _ | _
 ·rfl
 ·rw [vfews_at hq e] at h; cases h
def vfewT (t : Tm) : Bool := decide (kcnt t ≤ 120) && vfew t
mutual
theorem vfew_kfew : ∀ {t : Tm}, vfew t = true → kfew t = true
 | .mk op g ls nm s ks, h => by
  rw [vfew, Bool.and_eq_true, Bool.and_eq_true] at h
  rw [kfew, Bool.and_eq_true, Bool.and_eq_true]
  have h2 := of_decide_eq_true h.2.1
  exact ⟨h.1, decide_eq_true (by omega), vfews_kfews h.2.2⟩
theorem vfews_kfews : ∀ {l : List Tm}, vfews l = true → kfews l = true
 | [], _ => by rw [kfews]
 | t :: r, h => by
  rw [vfews, Bool.and_eq_true] at h
  rw [kfews, Bool.and_eq_true]
  exact ⟨vfew_kfew h.1, vfews_kfews h.2⟩
end
end M
set_option maxHeartbeats 4000000 in
theorem fewNamesV_n (t : M.Tm) : ∀ {v : Value} {w : World}, IsTm w t v → Calls Tryz.prog 32 #[v] w (GivesB w (M.vfew t)) := by
 refine M.Tm.indA (P := fun t => ∀ {v : Value} {w : World}, IsTm w t v → Calls Tryz.prog 32 #[v] w (GivesB w (M.vfew t))) (fun op g ls nm so ks ih v w h => ?_) t
 obtain ⟨N, nn, nc, A, c, rfl, hn, hk⟩ := h
 replace hk : Tms w ks (.slice A ks.length c) := hk
 show Calls Tryz.prog 32 #[kv op g N nn nc nm so A ks.length c] w _
 obtain ⟨hl1, hl2, hl3⟩ := hk.le
 obtain ⟨hm1, hm2, hm3⟩ := LNum.len hn
 replace hm1 : nn = ls.length := hm1
 have hm4 : nc ≤ 9223372036854775807 := by unfold maxLen at hm3; omega
 obtain ⟨n, hn'⟩ : ∃ n, ks.length = n := ⟨_, rfl⟩
 obtain ⟨x, hx⟩ : ∃ x, x = nm.length := ⟨_, rfl⟩
 have hsz : (⟨nm.toArray⟩ : ByteArray).size = x := by rw [Lib.size_eq, hx]
 have hsz2 : (nm.length : Int) = (x : Int) := by rw [hx]
 obtain ⟨z, hz⟩ : ∃ z, M.vfew (.mk op g ls nm so ks) = z := ⟨_, rfl⟩
 have hz' : z = (decide (x ≤ 30) && (decide (nn ≤ 4) && M.vfews ks)) := by rw [← hz, M.vfew, hx, hm1]
 rw [hz]
 rw [hn'] at hk hl2 ⊢
 have HN := hid hn'
 clear hx hl1 hz hn' hm1 hm3 hn
 rcases Nat.lt_or_ge 30 x with h30 | h30
 ·have HZ := hid (show false = z by rw [hz', show decide (x ≤ 30) = false by simp; omega]; simp)
  have hq : 30 < (x : Int) := by omega
  clear hk ih hz'
  go_enter Tryz.func32, Tryz.ntmps32
  go_wp2
  go_ret
  obtain rfl := HZ.out
  exact ⟨rfl, Ext.alloc w _⟩
 have hq : decide (30 < (x : Int)) = false := by simp; omega
 rcases Nat.lt_or_ge 4 nn with h4 | h4
 ·have HZ := hid (show false = z by rw [hz', show decide (nn ≤ 4) = false by simp; omega]; simp)
  have hq2 : 4 < (nn : Int) := by omega
  clear hk ih hz'
  go_enter Tryz.func32, Tryz.ntmps32
  go_wp2
  go_ret
  obtain rfl := HZ.out
  exact ⟨rfl, Ext.alloc w _⟩
 have hq2 : decide (4 < (nn : Int)) = false := by simp; omega
 have HZ := hid (show z = M.vfews ks by rw [hz', show decide (x ≤ 30) = true by simp; omega, show decide (nn ≤ 4) = true by simp; omega]; rfl)
 have HK := hid hk
 have IH := @hid _ @ih
 clear hk ih hz'
 go_enter Tryz.func32, Tryz.ntmps32
 go_wp2_with fail
 go_loopw [3] (fun i wr => ∃ (k : Nat), i = .int .i64 (k : Int) ∧ k ≤ n ∧ Hid (M.vfews (ks.take k) = true ∧ Ext (kboxed w op g N nn nc nm so A n c) wr)) (fun i _ => n - (intOf i).toNat)
 case atStart => exact ⟨0, rfl, Nat.zero_le _, by simp [M.vfews], Ext.refl _⟩
 case round =>
  obtain ⟨k, rfl, hk, hR⟩ := hrel
  have E := hid hR.out.2
  obtain ⟨⟨b0, b1, b2, b3, b4, b5⟩, hz⟩ := box6 E.out
  have HS := hid hR.out.1
  clear hR
  rcases Nat.lt_or_ge k n with hlt | hge
  ·have hlt' : (k : Int) < (n : Int) := by omega
   obtain ⟨ad, u, N', nn', nc', B, d, rfl, hu, ⟨c0, c1, c2, c3, c4, c5⟩, hv⟩ := (HK.out.up ((Ext.alloc w _).trans E.out)).get hlt
   have HU := hid hu
   have HC := hid (IH.out k u HU.out hv)
   obtain ⟨q, hq'⟩ : ∃ q, M.vfew u = q := ⟨_, rfl⟩
   have HQ := hid hq'
   have HV := hid hv
   rw [hq'] at HC
   clear hu hv hq'
   cases q
   ·go_wp2_with (go_at_call 32; refine HC.out.mono ?_; rintro e w' ⟨rfl, hb⟩; replace E := hid (E.out.trans hb); clear hb)
    go_ret
    obtain rfl : false = z := by rw [HZ.out, M.not_vfews HU.out HQ.out]
    exact ⟨rfl, (Ext.alloc w _).trans E.out⟩
   ·go_wp2_with (go_at_call 32; refine HC.out.mono ?_; rintro e w' ⟨rfl, hb⟩; replace E := hid (E.out.trans hb); clear hb)
    go_roundw
    case rel => exact ⟨k + 1, by simp, by omega, by rw [M.vfews_take HU.out, HS.out, HQ.out]; rfl, E.out⟩
    case measure => simp [intOf]; omega
  ·obtain rfl : k = n := by omega
   go_wp2
   go_ret
   obtain rfl : true = z := by rw [HZ.out, ← HS.out, ← HN.out, List.take_length]
   exact ⟨rfl, (Ext.alloc w _).trans E.out⟩
theorem fewTermV_n (t : M.Tm) {v : Value} {w : World} (h : IsTm w t v) : Calls Tryz.prog 8 #[v] w (GivesB w (M.vfewT t)) := by
 obtain ⟨N, nn, nc, A, n, c, rfl, -, -, -, -, -, -⟩ := h.shape
 obtain ⟨op, hop⟩ : ∃ x, t.op = x := ⟨_, rfl⟩
 obtain ⟨g, hg⟩ : ∃ x, t.g = x := ⟨_, rfl⟩
 obtain ⟨nm, hnm⟩ : ∃ x, t.name = x := ⟨_, rfl⟩
 obtain ⟨so, hso⟩ : ∃ x, t.sort = x := ⟨_, rfl⟩
 rw [hop, hg, hnm, hso] at h ⊢
 obtain ⟨m, hm⟩ : ∃ m, min (M.kcnt t) 401 = m := ⟨_, rfl⟩
 obtain ⟨q, hq⟩ : ∃ q, M.vfew t = q := ⟨_, rfl⟩
 have H := hid (show ∀ w', Ext w w' → Calls Tryz.prog 31 #[kv op g N nn nc nm so A n c] w' (GivesI w' (m : Int)) from fun w' e => hm ▸ rkCount_n t (h.up e))
 have HF := hid (show ∀ w', Ext w w' → Calls Tryz.prog 32 #[kv op g N nn nc nm so A n c] w' (GivesB w' q) from fun w' e => hq ▸ fewNamesV_n t (h.up e))
 have HM := hid (show M.vfewT t = (decide ((m : Int) ≤ 120) && q) by unfold M.vfewT; rw [hq]; congr 1; rw [decide_eq_decide]; omega)
 rw [HM.out]
 clear h hop hg hnm hso hm hq
 by_cases hm120 : (m : Int) ≤ 120
 ·go_enter Tryz.func8, Tryz.ntmps8
  go_wp2_with fail
  refine (H.out _ (Ext.alloc w _)).mono ?_
  rintro e w' ⟨rfl, hb⟩
  have E := hid hb
  obtain ⟨⟨b0, b1, b2, b3, b4, b5⟩, hz⟩ := box6 hb
  clear hb
  go_wp2_with fail
  refine (HF.out _ ((Ext.alloc w _).trans E.out)).mono ?_
  rintro e w2 ⟨rfl, hb⟩
  replace E := hid (E.out.trans hb)
  clear hb
  go_wp2_with fail
  go_ret
  exact ⟨by rw [decide_eq_true hm120]; rfl, (Ext.alloc w _).trans E.out⟩
 ·have hq2 : decide ((m : Int) ≤ 120) = false := by simpa using hm120
  go_enter Tryz.func8, Tryz.ntmps8
  go_wp2_with fail
  refine (H.out _ (Ext.alloc w _)).mono ?_
  rintro e w' ⟨rfl, hb⟩
  have E := hid hb
  obtain ⟨⟨b0, b1, b2, b3, b4, b5⟩, hz⟩ := box6 hb
  clear hb
  go_wp2_with fail
  go_ret
  exact ⟨by rw [hq2]; rfl, (Ext.alloc w _).trans E.out⟩
end Go.Proofs.YtkhmgdfhggejaaaGreatDoor.Q
