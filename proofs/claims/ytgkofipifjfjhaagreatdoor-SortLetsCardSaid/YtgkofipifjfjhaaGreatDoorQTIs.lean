/-
  Layer 9, the reference: whether it is a tree.
-/
import Derived.Test.YtgkofipifjfjhaaGreatDoorJQC
import Derived.Test.YtgkofipifjfjhaaGreatDoorJQR
namespace Go.Proofs.YtgkofipifjfjhaaGreatDoor.Q
set_option linter.unusedSimpArgs false
set_option linter.unusedVariables false
open Go.RowKit

set_option maxHeartbeats 8000000 in
theorem is_n (t : M.T) : ∀ {v : Value} {m : Nat} {w : World}, IsT w t v → M.txtN t = true → m ≤ 60 → Calls Tryz.prog 74 #[v, .int .i64 (m : Int)] w (GivesB w (M.isN t m)) := by
 refine M.T.indA (P := fun t => ∀ {v : Value} {m : Nat} {w : World}, IsT w t v → M.txtN t = true → m ≤ 60 → Calls Tryz.prog 74 #[v, .int .i64 (m : Int)] w (GivesB w (M.isN t m))) (fun l tk ks ih v m w h htx hm => ?_) t
 obtain ⟨A, c, rfl, hk⟩ := h
 replace hk : Kids w ks (.slice A ks.length c) := hk
 show Calls Tryz.prog 74 #[tv l tk A ks.length c, .int .i64 (m : Int)] w _
 rw [M.txtN, Bool.and_eq_true, decide_eq_true_iff] at htx
 obtain ⟨hl1, hl2, hl3⟩ := hk.le
 have hl4 : c ≤ 9223372036854775807 := by unfold maxLen at hl3; omega
 obtain ⟨n, hn⟩ : ∃ n, ks.length = n := ⟨_, rfl⟩
 obtain ⟨z, hz⟩ : ∃ z, M.isN (.mk l tk ks) m = z := ⟨_, rfl⟩
 have hz' : z = if l = true then decide (tk = (0, [])) && (decide (m ≠ 0) && M.isNs ks (m - 1)) else ks.isEmpty && M.okLeaf tk := by rw [← hz, M.isN]
 rw [hz]
 rw [hn] at hk hl2 ⊢
 have HN := hid hn
 clear hl1 hl3 hz
 cases l with
 | false =>
  have hz2 : z = (ks.isEmpty && M.okLeaf tk) := by rw [hz']; rfl
  have hwl : (M.word tk).length ≤ 41 := by
   unfold M.word
   have := htx.1
   split
   ·simp
   ·split
    ·simp
    ·split
     ·simp; omega
     ·omega
  have HW := hid (fun w => rWord_n tk (by omega) w)
  have HR := hid (fun w => rWords_n (M.word tk) (by omega) w)
  obtain ⟨W, hW⟩ : ∃ W, M.word tk = W := ⟨_, rfl⟩
  obtain ⟨ts, hts⟩ : ∃ ts, M.wToks W = ts := ⟨_, rfl⟩
  obtain ⟨q, hq⟩ : ∃ q, M.wAt W = q := ⟨_, rfl⟩
  obtain ⟨x, hx⟩ : ∃ x, M.wErr W = x := ⟨_, rfl⟩
  have hz3 : z = (decide (n = 0) && (decide (3 ≤ tk.1) && (decide (x = 0) && decide (ts = [tk])))) := by
   rw [hz2, M.okLeaf, hW, hts, hx]
   congr 1
   rw [← hn]; cases ks <;> simp
  rw [hW] at HW
  rw [hW, hts, hq, hx] at HR
  clear hz' hz2 hk ih hwl hW hts hq hx htx
  obtain ⟨kd, tx⟩ := tk
  go_enter Tryz.func74, Tryz.ntmps74
  go_wp2_with (first | (go_at_call 126; refine (HW.out _).mono ?_; rintro e w1 ⟨rfl, hb⟩; have E1 := hid hb; clear hb) | (go_at_call 125; refine (HR.out _).mono ?_; rintro e w2 ⟨v2, rfl, hv2, hb⟩; have E2 := hid (E1.out.trans hb); have HV2 := hid hv2; clear hb hv2 E1))
  obtain ⟨B, d, rfl⟩ := HV2.out.shape
  obtain ⟨b0, b1, b2, b3, hz⟩ := box4 E2.out
  have HZ3 := hid hz3
  clear hz3
  by_cases hn0 : n = 0
  case neg =>
   have HZ := hid (show false = z by rw [HZ3.out, decide_eq_false hn0, Bool.false_and])
   have hq : ((n : Int) == 0) = false := by simp; omega
   clear HZ3 hn0
   go_wp2_with fail
   go_region
   go_wp2_with fail
   go_ret
   obtain rfl := HZ.out
   exact ⟨rfl, (Ext.alloc w _).trans (E2.out.drewN' 1)⟩
  case pos =>
  subst hn0
  rcases Int.lt_or_le kd 3 with h3 | h3
  ·have HZ := hid (show false = z by rw [HZ3.out, show decide (3 ≤ kd) = false by simp; omega]; simp)
   have hq : decide (3 ≤ kd) = false := by simp; omega
   clear HZ3 h3
   go_wp2_with fail
   go_region
   go_wp2_with fail
   go_ret
   obtain rfl := HZ.out
   exact ⟨rfl, (Ext.alloc w _).trans (E2.out.drewN' 1)⟩
  by_cases hx0 : x = 0
  case neg =>
   have HZ := hid (show false = z by rw [HZ3.out, decide_eq_false hx0]; simp)
   have hq : (x == 0) = false := by simpa using hx0
   clear HZ3 hx0
   go_wp2_with fail
   go_region
   go_wp2_with fail
   go_ret
   obtain rfl := HZ.out
   exact ⟨rfl, (Ext.alloc w _).trans (E2.out.drewN' 1)⟩
  case pos =>
  subst hx0
  obtain ⟨y, hy⟩ : ∃ y, ts.length = y := ⟨_, rfl⟩
  by_cases hy1 : y = 1
  case neg =>
   have HZ := hid (show false = z by rw [HZ3.out, decide_eq_false (show ¬ ts = [(kd, tx)] from fun e => hy1 (by rw [← hy, e]; rfl))]; simp)
   have hq : ((y : Int) == 1) = false := by simp; omega
   rw [hy]
   clear HZ3 hy1 hy
   go_wp2_with fail
   go_region
   go_wp2_with fail
   go_ret
   obtain rfl := HZ.out
   exact ⟨rfl, (Ext.alloc w _).trans (E2.out.drewN' 1)⟩
  case pos =>
  subst hy1
  obtain ⟨ad, t0, hB, ht0, c0, c1⟩ := TList.get HV2.out (k := 0) (by omega)
  subst hB
  rw [Nat.zero_mul, Addr.add_zero'] at c0 c1
  have hts : ts = [t0] := by
   rcases ts with _ | ⟨a, r⟩
   ·simp at hy
   ·simp at ht0 hy
    rw [hy, ht0]
  have HZ4 := hid (show z = decide (t0 = (kd, tx)) by rw [HZ3.out, hts]; simp [h3])
  rw [hy]
  clear HZ3 hts ht0 HV2 hy HW HR
  obtain ⟨a, bx⟩ := t0
  by_cases hab : a = kd
  ·subst hab
   by_cases hbx : bx = tx
   ·subst hbx
    have HZ := hid (show true = z by rw [HZ4.out]; simp)
    clear HZ4
    go_wp2_with fail
    go_region
    go_wp2_with fail
    go_ret
    obtain rfl := HZ.out
    exact ⟨rfl, (Ext.alloc w _).trans (E2.out.drewN' 1)⟩
   ·have HZ := hid (show false = z by rw [HZ4.out]; simp [hbx])
    clear HZ4
    go_wp2_with fail
    go_region
    go_wp2_with fail
    go_ret
    obtain rfl := HZ.out
    exact ⟨rfl, (Ext.alloc w _).trans (E2.out.drewN' 1)⟩
  ·have HZ := hid (show false = z by rw [HZ4.out]; simp [hab])
   clear HZ4
   go_wp2_with fail
   go_region
   go_wp2_with fail
   go_ret
   obtain rfl := HZ.out
   exact ⟨rfl, (Ext.alloc w _).trans (E2.out.drewN' 1)⟩
 | true =>
  have hz2 : z = (decide (tk = (0, [])) && (decide (m ≠ 0) && M.isNs ks (m - 1))) := by rw [hz']; rfl
  clear hz'
  by_cases htk : tk = (0, [])
  case neg =>
   have HZ := hid (show false = z by rw [hz2, decide_eq_false htk, Bool.false_and])
   clear hz2 hk ih htx
   obtain ⟨kd, tx⟩ := tk
   by_cases hk0 : kd = 0
   ·subst hk0
    have htx0 : ¬ tx = [] := fun e => htk (by rw [e])
    clear htk
    go_enter Tryz.func74, Tryz.ntmps74
    go_wp2
    go_ret
    obtain rfl := HZ.out
    exact ⟨rfl, Ext.alloc w _⟩
   ·clear htk
    go_enter Tryz.func74, Tryz.ntmps74
    go_wp2
    go_ret
    obtain rfl := HZ.out
    exact ⟨rfl, Ext.alloc w _⟩
  case pos =>
  subst htk
  rcases Nat.eq_zero_or_pos m with rfl | hmp
  ·have HZ := hid (show false = z by rw [hz2]; simp)
   clear hz2 hk ih htx
   go_enter Tryz.func74, Tryz.ntmps74
   go_wp2
   go_ret
   obtain rfl := HZ.out
   exact ⟨rfl, Ext.alloc w _⟩
  have hmq : ((m : Int) == 0) = false := by simp; omega
  obtain ⟨y, hy⟩ : ∃ y, m - 1 = y := ⟨_, rfl⟩
  have hms : ((m : Int) - 1) = (y : Int) := by omega
  have HZ := hid (show z = M.isNs ks y by rw [hz2, hy, show decide (m ≠ 0) = true by simp; omega]; simp)
  have hy9 : y ≤ 60 := by omega
  have HK := hid hk
  have IH := hid ih
  have HT := hid htx.2
  clear hk ih hz2 hy htx hn
  go_enter Tryz.func74, Tryz.ntmps74
  go_wp2_with fail
  go_loopw [8] (fun i wr => ∃ (k : Nat), i = .int .i64 (k : Int) ∧ k ≤ n ∧ Hid (M.isNs (ks.take k) y = true ∧ Ext (boxed w true (0, []) A n c) wr)) (fun i _ => n - (intOf i).toNat)
  case atStart => exact ⟨0, rfl, Nat.zero_le _, by simp [M.isNs], Ext.refl _⟩
  case round =>
   obtain ⟨k, rfl, hk, hR⟩ := hrel
   have E := hid hR.out.2
   obtain ⟨b0, b1, b2, b3, hz⟩ := box4 E.out
   have HS := hid hR.out.1
   clear hR
   rcases Nat.lt_or_ge k n with hlt | hge
   ·have hlt' : (k : Int) < (n : Int) := by omega
    obtain ⟨ad, u, B, d, rfl, hu, c0, c1, c2, c3, hv⟩ := (HK.out.up ((Ext.alloc w _).trans E.out)).get hlt
    have HU := hid hu
    have HC := hid (IH.out k u HU.out hv (M.txtNs_at HT.out HU.out) (show y ≤ 60 by omega))
    obtain ⟨q, hq'⟩ : ∃ q, M.isN u y = q := ⟨_, rfl⟩
    have HQ := hid hq'
    have HV := hid hv
    rw [hq'] at HC
    clear hu hv hq'
    cases q
    ·go_wp2_with (go_at_call 74; refine HC.out.mono ?_; rintro e w' ⟨rfl, hb⟩; replace E := hid (E.out.trans hb); clear hb)
     go_ret
     obtain rfl : false = z := by rw [HZ.out, M.not_isNs HU.out HQ.out]
     exact ⟨rfl, (Ext.alloc w _).trans E.out⟩
    ·go_wp2_with (go_at_call 74; refine HC.out.mono ?_; rintro e w' ⟨rfl, hb⟩; replace E := hid (E.out.trans hb); clear hb)
     go_roundw
     case rel => exact ⟨k + 1, by simp, by omega, by rw [M.isNs_take HU.out, HS.out, HQ.out]; rfl, E.out⟩
     case measure => simp [intOf]; omega
   ·obtain rfl : k = n := by omega
    go_wp2
    go_ret
    obtain rfl : true = z := by rw [HZ.out, ← HS.out, ← HN.out, List.take_length]
    exact ⟨rfl, (Ext.alloc w _).trans E.out⟩
theorem rIs_n (t : M.T) {v : Value} {w : World} (h : IsT w t v) (htx : M.txtN t = true) : Calls Tryz.prog 26 #[v] w (GivesB w (M.isT t)) := by
 obtain ⟨A, c, rfl, hk⟩ := h
 have HT : Hid (∀ w', Ext w w' → IsT w' t (tv t.list t.tok A t.kids.length c)) := hid fun w' e => ⟨A, c, rfl, hk.up e⟩
 have HC := hid (fun w' e => rCount_n t (HT.out w' e))
 have HD := hid (fun w' e => rDeep_n t (HT.out w' e))
 have HI := hid (fun w' e => is_n t (HT.out w' e) htx (m := 60) (Nat.le_refl _))
 obtain ⟨n, hn⟩ : ∃ n, min (M.cnt t) 401 = n := ⟨_, rfl⟩
 obtain ⟨d, hd⟩ : ∃ d, min (M.dep t) 61 = d := ⟨_, rfl⟩
 obtain ⟨q, hq⟩ : ∃ q, M.isN t 60 = q := ⟨_, rfl⟩
 obtain ⟨z, hz⟩ : ∃ z, M.isT t = z := ⟨_, rfl⟩
 have hz' : z = (decide (n ≤ 400) && (decide (d ≤ 60) && q)) := by
  rw [← hz, M.isT, hq]
  congr 1
  ·rw [decide_eq_decide]; omega
  ·congr 1
   rw [decide_eq_decide]; omega
 rw [hn] at HC
 rw [hd] at HD
 rw [hq] at HI
 rw [hz]
 obtain ⟨l, tk, ks⟩ := t
 replace hk : Kids w ks (.slice A ks.length c) := hk
 show Calls Tryz.prog 26 #[tv l tk A ks.length c] w _
 obtain ⟨y, hy⟩ : ∃ y, ks.length = y := ⟨_, rfl⟩
 have HC2 := hid (show ∀ w', Ext w w' → Calls Tryz.prog 16 #[tv l tk A y c] w' (GivesI w' (n : Int)) from hy ▸ HC.out)
 have HD2 := hid (show ∀ w', Ext w w' → Calls Tryz.prog 73 #[tv l tk A y c] w' (GivesI w' (d : Int)) from hy ▸ HD.out)
 have HI2 := hid (show ∀ w', Ext w w' → Calls Tryz.prog 74 #[tv l tk A y c, .int .i64 60] w' (GivesB w' q) from hy ▸ HI.out)
 rw [hy]
 have HZ' := hid hz'
 clear hk HT HC HD HI hn hd hq hz hy htx hz'
 rcases Nat.lt_or_ge 400 n with h400 | h400
 ·have HZ := hid (show false = z by rw [HZ'.out, show decide (n ≤ 400) = false by simp; omega]; rfl)
  have hq4 : decide ((n : Int) ≤ 400) = false := by simp; omega
  go_enter Tryz.func26, Tryz.ntmps26
  go_wp2_with (go_at_call 16; refine (HC2.out _ (Ext.alloc w _)).mono ?_; rintro e w' ⟨rfl, hb⟩; have E := hid hb; clear hb)
  go_ret
  obtain rfl := HZ.out
  exact ⟨rfl, (Ext.alloc w _).trans E.out⟩
 have hq4 : (n : Int) ≤ 400 := by omega
 rcases Nat.lt_or_ge 60 d with h60 | h60
 ·have HZ := hid (show false = z by rw [HZ'.out, show decide (d ≤ 60) = false by simp; omega]; simp)
  have hq6 : decide ((d : Int) ≤ 60) = false := by simp; omega
  go_enter Tryz.func26, Tryz.ntmps26
  go_wp2_with (first | (go_at_call 16; refine (HC2.out _ (Ext.alloc w _)).mono ?_; rintro e w' ⟨rfl, hb⟩; have E := hid hb; clear hb; obtain ⟨b0, b1, b2, b3, hz⟩ := box4 E.out) | (go_at_call 73; refine (HD2.out _ ((Ext.alloc w _).trans E.out)).mono ?_; rintro e w' ⟨rfl, hb⟩; replace E := hid (E.out.trans hb); clear hb))
  go_ret
  obtain rfl := HZ.out
  exact ⟨rfl, (Ext.alloc w _).trans E.out⟩
 have hq6 : (d : Int) ≤ 60 := by omega
 have HZ := hid (show q = z by rw [HZ'.out, show decide (n ≤ 400) = true by simp; omega, show decide (d ≤ 60) = true by simp; omega]; rfl)
 go_enter Tryz.func26, Tryz.ntmps26
 go_wp2_with (first | (go_at_call 16; refine (HC2.out _ (Ext.alloc w _)).mono ?_; rintro e w' ⟨rfl, hb⟩; have E := hid hb; clear hb; obtain ⟨b0, b1, b2, b3, hz⟩ := box4 E.out) | (go_at_call 73; refine (HD2.out _ ((Ext.alloc w _).trans E.out)).mono ?_; rintro e w' ⟨rfl, hb⟩; replace E := hid (E.out.trans hb); clear hb; obtain ⟨b0, b1, b2, b3, hz⟩ := box4 E.out) | (go_at_call 74; refine (HI2.out _ ((Ext.alloc w _).trans E.out)).mono ?_; rintro e w' ⟨rfl, hb⟩; replace E := hid (E.out.trans hb); clear hb))
 go_ret
 obtain rfl := HZ.out
 exact ⟨rfl, (Ext.alloc w _).trans E.out⟩
end Go.Proofs.YtgkofipifjfjhaaGreatDoor.Q
