/-
  Contracts of package tree: whether it is a tree.
-/
import Derived.Test.YtceplnfjlncekaaQUMath
import Derived.Test.YtceplnfjlncekaaQUCount
import Derived.Test.YtceplnfjlncekaaQTOf
import Derived.Test.YtceplnfjlncekaaQLexF
namespace Go.Proofs.Ytceplnfjlncekaa
set_option linter.unusedSimpArgs false
set_option linter.unusedVariables false
open Go.RowKit

theorem alloc_two (w : World) (o o' : Obj) : Ext w ((w.alloc o).alloc o') := (Ext.alloc w _).alloc' _
theorem M.print_one_len (tk : M.Tok) : (M.print [tk]).length ≤ tk.2.length + 1 := by
 rcases h : M.print [tk] with _ | ⟨x, r⟩
 ·simp
 ·have e : M.print [tk] = M.word tk := by simp [M.print]
  rw [← h, e]
  unfold M.word
  split
  ·simp
  ·split
   ·simp
   ·split <;> simp
theorem M.leafOk_no {tk : M.Tok} (h : ¬ (tk.1 = 3 ∨ tk.1 = 4 ∨ tk.1 = 5)) : M.leafOk tk = false := by
 rcases hq : M.leafOk tk with _ | _
 ·rfl
 ·exact absurd (M.leafOk_kind hq) h
theorem M.leafOk_yes {tk : M.Tok} (h : tk.1 = 3 ∨ tk.1 = 4 ∨ tk.1 = 5) : M.leafOk tk = decide (M.wToks (M.print [tk]) = [tk]) := by
 unfold M.leafOk
 rw [show (decide (tk.1 = 3) || (decide (tk.1 = 4) || decide (tk.1 = 5))) = true by simpa using h]
 rfl
set_option maxHeartbeats 8000000 in
theorem plain_n (tk : M.Tok) (htx : tk.2.length ≤ 40) (w : World) : Calls Try.prog 41 #[.agg #[.int .i64 tk.1, str tk.2]] w (GivesB w (M.leafOk tk)) := by
 have hpl := M.print_one_len tk
 by_cases hk : tk.1 = 3 ∨ tk.1 = 4 ∨ tk.1 = 5
 case neg =>
  have HZ := hid (M.leafOk_no hk)
  obtain ⟨kd, tx⟩ := tk
  have h3 : (kd == 3) = false := by simp; exact fun e => hk (.inl e)
  have h4 : (kd == 4) = false := by simp; exact fun e => hk (.inr (.inl e))
  have h5 : (kd == 5) = false := by simp; exact fun e => hk (.inr (.inr e))
  clear hk htx hpl
  go_enter Try.func41, Try.ntmps41
  go_wp2
  go_ret
  rw [HZ.out]
  exact ⟨rfl, Ext.alloc w _⟩
 case pos =>
  obtain ⟨q, hq⟩ : ∃ q, M.leafOk tk = q := ⟨_, rfl⟩
  have HQ := hid (show decide (M.wToks (M.print [tk]) = [tk]) = q by rw [← hq, M.leafOk_yes hk])
  have HP := hid (show ∀ (w : World) (v : Value), TList w v [tk] → Calls Try.prog 46 #[v] w (GivesT w (M.print [tk])) from fun w v h => print_n h (by omega) (by intro t ht; simp at ht; subst ht; omega))
  have HW := hid (fun (w : World) => words_n (M.print [tk]) (by omega) w)
  obtain ⟨P, hP⟩ : ∃ P, M.print [tk] = P := ⟨_, rfl⟩
  rw [hP] at HP HW HQ
  rw [hq]
  obtain ⟨kd, tx⟩ := tk
  obtain ⟨ts, hts⟩ : ∃ ts, M.wToks P = ts := ⟨_, rfl⟩
  obtain ⟨x, hx⟩ : ∃ x, M.wAt P = x := ⟨_, rfl⟩
  obtain ⟨y, hy⟩ : ∃ y, M.wErr P = y := ⟨_, rfl⟩
  rw [hts] at HW HQ
  rw [hx, hy] at HW
  have HL := hid (show TList ((w.alloc (.cells #[.int .i64 kd, str tx] 33)).alloc (.cells #[.int .i64 kd, str tx] 33)) (.slice (some ⟨w.heap.size + 1, 0, none⟩) 1 1) [(kd, tx)] by
   have := (OwnT.lit 0 (w.alloc (.cells #[.int .i64 kd, str tx] 33)) (kd, tx) (Nat.zero_le _)).list
   simpa using this)
  have HP2 := hid (HP.out _ _ HL.out)
  clear hpl htx hq hP hts hx hy
  rcases hk with rfl | rfl | rfl <;> (
   go_enter Try.func41, Try.ntmps41
   go_wp2_with (go_at_call 46; refine HP2.out.mono ?_; rintro e w1 ⟨rfl, hb⟩; have E1 := hid ((alloc_two w _ _).trans hb); have HT := hid (HL.out.up hb); clear hb)
   refine (HW.out _).mono ?_
   rintro e w2 ⟨v2, rfl, hv2, hb⟩
   obtain ⟨B, d, rfl⟩ := hv2.shape
   have HS := hid (same_n hv2 (HT.out.up hb))
   replace E1 := hid (E1.out.trans hb)
   rw [HQ.out] at HS
   clear hb hv2 HT
   go_wp2_with (go_at_call 47; refine HS.out.mono ?_; rintro e w3 ⟨rfl, hb⟩; replace E1 := hid (E1.out.trans hb); clear hb)
   go_ret
   exact ⟨rfl, E1.out⟩)
set_option maxHeartbeats 8000000 in
theorem formed_n (t : M.T) : ∀ {v : Value} {w : World}, IsT w t v → M.txtN t = true → Calls Try.prog 31 #[v] w (GivesB w (M.formT t)) := by
 refine M.T.indA (P := fun t => ∀ {v : Value} {w : World}, IsT w t v → M.txtN t = true → Calls Try.prog 31 #[v] w (GivesB w (M.formT t))) (fun l tk ks ih v w h htx => ?_) t
 obtain ⟨A, c, rfl, hk⟩ := h
 replace hk : Kids w ks (.slice A ks.length c) := hk
 show Calls Try.prog 31 #[tv l tk A ks.length c] w _
 rw [M.txtN, Bool.and_eq_true, decide_eq_true_iff] at htx
 obtain ⟨hl1, hl2, hl3⟩ := hk.le
 have hl4 : c ≤ 9223372036854775807 := by unfold maxLen at hl3; omega
 obtain ⟨n, hn⟩ : ∃ n, ks.length = n := ⟨_, rfl⟩
 obtain ⟨z, hz⟩ : ∃ z, M.formT (.mk l tk ks) = z := ⟨_, rfl⟩
 have hz' : z = if l = true then M.formTs ks && decide (tk = (0, [])) else ks.isEmpty && M.leafOk tk := by rw [← hz, M.formT]
 rw [hz]
 rw [hn] at hk hl2 ⊢
 have HN := hid hn
 clear hl1 hl3 hz
 cases l with
 | false =>
  have HP := hid (fun w => plain_n tk htx.1 w)
  obtain ⟨q, hq⟩ : ∃ q, M.leafOk tk = q := ⟨_, rfl⟩
  have hz3 : z = (decide (n = 0) && q) := by
   rw [hz', hq, ← hn]
   cases ks <;> simp
  rw [hq] at HP
  clear hz' hk ih htx hq hn
  obtain ⟨kd, tx⟩ := tk
  by_cases hn0 : n = 0
  case neg =>
   have HZ := hid (show false = z by rw [hz3, decide_eq_false hn0, Bool.false_and])
   have hq : ((n : Int) == 0) = false := by simp; omega
   clear hz3 hn0
   go_enter Try.func31, Try.ntmps31
   go_wp2
   go_ret
   obtain rfl := HZ.out
   exact ⟨rfl, Ext.alloc w _⟩
  case pos =>
   subst hn0
   have HZ := hid (show q = z by rw [hz3, decide_eq_true rfl, Bool.true_and])
   clear hz3
   go_enter Try.func31, Try.ntmps31
   go_wp2_with (go_at_call 41; refine (HP.out _).mono ?_; rintro e w1 ⟨rfl, hb⟩; have E1 := hid ((Ext.alloc w _).trans hb); clear hb)
   go_ret
   obtain rfl := HZ.out
   exact ⟨rfl, E1.out⟩
 | true =>
  have HZ := hid (show z = (M.formTs ks && decide (tk = (0, []))) by rw [hz']; rfl)
  have HK := hid hk
  have IH := hid ih
  have HT := hid htx.2
  clear hk ih hz' htx hn
  go_enter Try.func31, Try.ntmps31
  go_wp2_with fail
  go_loopw [20] (fun i wr => ∃ (k : Nat), i = .int .i64 (k : Int) ∧ k ≤ n ∧ Hid (M.formTs (ks.take k) = true ∧ Ext (boxed w true tk A n c) wr)) (fun i _ => n - (intOf i).toNat)
  case atStart => exact ⟨0, rfl, Nat.zero_le _, by simp [M.formTs], Ext.refl _⟩
  case round =>
   obtain ⟨k, rfl, hk, hR⟩ := hrel
   have E := hid hR.out.2
   obtain ⟨b0, b1, b2, b3, hz⟩ := box4 E.out
   have HS := hid hR.out.1
   clear hR
   rcases Nat.lt_or_ge k n with hlt | hge
   ·have hlt' : (k : Int) < (n : Int) := by omega
    obtain ⟨ad, u, B, d, rfl, hu, c0, c1, c2, c3, hv⟩ := (HK.out.up ((Ext.alloc w _).trans E.out)).get hlt
    have HU := hid hu
    have HV := hid hv
    have HC := hid (show ∀ w', Ext wr w' → Calls Try.prog 31 #[tv u.list u.tok B u.kids.length d] w' (GivesB w' (M.formT u)) from fun w' e => IH.out k u HU.out (HV.out.up e) (M.txtNs_at HT.out HU.out))
    obtain ⟨q, hq'⟩ : ∃ q, M.formT u = q := ⟨_, rfl⟩
    have HQ := hid hq'
    rw [hq'] at HC
    clear hu hv hq'
    cases q
    ·go_wp2_with (go_at_call 31; refine (HC.out _ (Ext.alloc _ _)).mono ?_; rintro e w' ⟨rfl, hb⟩; replace E := hid ((E.out.alloc' _).trans hb); clear hb)
     go_ret
     obtain rfl : false = z := by rw [HZ.out, M.not_formTs HU.out HQ.out]; rfl
     exact ⟨rfl, (Ext.alloc w _).trans E.out⟩
    ·go_wp2_with (go_at_call 31; refine (HC.out _ (Ext.alloc _ _)).mono ?_; rintro e w' ⟨rfl, hb⟩; replace E := hid ((E.out.alloc' _).trans hb); clear hb)
     go_roundw
     case rel => exact ⟨k + 1, by simp, by omega, by rw [M.formTs_take HU.out, HS.out, HQ.out]; rfl, E.out⟩
     case measure => simp [intOf]; omega
   ·obtain rfl : k = n := by omega
    have HS2 := hid (show z = decide (tk = (0, [])) by rw [HZ.out, ← List.take_length (l := ks), HN.out, HS.out]; rfl)
    obtain ⟨kd, tx⟩ := tk
    by_cases hk0 : kd = 0
    ·subst hk0
     by_cases htx0 : tx = []
     ·subst htx0
      go_wp2
      go_ret
      obtain rfl : true = z := by rw [HS2.out]; rfl
      exact ⟨rfl, (Ext.alloc w _).trans E.out⟩
     ·go_wp2
      go_ret
      obtain rfl : false = z := by rw [HS2.out]; simp [htx0]
      exact ⟨rfl, (Ext.alloc w _).trans E.out⟩
    ·go_wp2
     go_ret
     obtain rfl : false = z := by rw [HS2.out]; simp [hk0]
     exact ⟨rfl, (Ext.alloc w _).trans E.out⟩
theorem is_t (t : M.T) {v : Value} {w : World} (h : IsT w t v) (htx : M.txtN t = true) : Calls Try.prog 15 #[v] w (GivesB w (M.isU t)) := by
 obtain ⟨A, c, rfl, hk⟩ := h
 have HT : Hid (∀ w', Ext w w' → IsT w' t (tv t.list t.tok A t.kids.length c)) := hid fun w' e => ⟨A, c, rfl, hk.up e⟩
 have HC := hid (fun w' e => count_t t (HT.out w' e))
 have HD := hid (fun w' e => deep_t t (HT.out w' e))
 have HI := hid (fun w' e => formed_n t (HT.out w' e) htx)
 obtain ⟨n, hn⟩ : ∃ n, min (M.cnt t) 401 = n := ⟨_, rfl⟩
 obtain ⟨d, hd⟩ : ∃ d, min (M.dep t) 61 = d := ⟨_, rfl⟩
 obtain ⟨q, hq⟩ : ∃ q, M.formT t = q := ⟨_, rfl⟩
 obtain ⟨z, hz⟩ : ∃ z, M.isU t = z := ⟨_, rfl⟩
 have hz' : z = (decide (n ≤ 400) && (decide (d ≤ 60) && q)) := by
  rw [← hz, M.isU, hq]
  congr 1
  ·rw [decide_eq_decide]; omega
  ·congr 1
   rw [decide_eq_decide]; omega
 rw [hn] at HC
 rw [hd] at HD
 rw [hq] at HI
 rw [hz]
 obtain ⟨l, tk, ks⟩ := t
 replace hk : Kids w ks (.slice A ks.length c) := hk
 show Calls Try.prog 15 #[tv l tk A ks.length c] w _
 obtain ⟨y, hy⟩ : ∃ y, ks.length = y := ⟨_, rfl⟩
 have HC2 := hid (show ∀ w', Ext w w' → Calls Try.prog 17 #[tv l tk A y c] w' (GivesI w' (n : Int)) from hy ▸ HC.out)
 have HD2 := hid (show ∀ w', Ext w w' → Calls Try.prog 19 #[tv l tk A y c] w' (GivesI w' (d : Int)) from hy ▸ HD.out)
 have HI2 := hid (show ∀ w', Ext w w' → Calls Try.prog 31 #[tv l tk A y c] w' (GivesB w' q) from hy ▸ HI.out)
 rw [hy]
 have HZ' := hid hz'
 clear hk HT HC HD HI hn hd hq hz hy htx hz'
 rcases Nat.lt_or_ge 400 n with h400 | h400
 ·have HZ := hid (show false = z by rw [HZ'.out, show decide (n ≤ 400) = false by simp; omega]; rfl)
  have hq4 : decide ((n : Int) ≤ 400) = false := by simp; omega
  go_enter Try.func15, Try.ntmps15
  go_wp2_with (go_at_call 17; refine (HC2.out _ (Ext.alloc w _)).mono ?_; rintro e w' ⟨rfl, hb⟩; have E := hid hb; clear hb)
  go_ret
  obtain rfl := HZ.out
  exact ⟨rfl, (Ext.alloc w _).trans E.out⟩
 have hq4 : (n : Int) ≤ 400 := by omega
 rcases Nat.lt_or_ge 60 d with h60 | h60
 ·have HZ := hid (show false = z by rw [HZ'.out, show decide (d ≤ 60) = false by simp; omega]; simp)
  have hq6 : decide ((d : Int) ≤ 60) = false := by simp; omega
  go_enter Try.func15, Try.ntmps15
  go_wp2_with (first | (go_at_call 17; refine (HC2.out _ (Ext.alloc w _)).mono ?_; rintro e w' ⟨rfl, hb⟩; have E := hid hb; clear hb; obtain ⟨b0, b1, b2, b3, hz⟩ := box4 E.out) | (go_at_call 19; refine (HD2.out _ ((Ext.alloc w _).trans E.out)).mono ?_; rintro e w' ⟨rfl, hb⟩; replace E := hid (E.out.trans hb); clear hb))
  go_ret
  obtain rfl := HZ.out
  exact ⟨rfl, (Ext.alloc w _).trans E.out⟩
 have hq6 : (d : Int) ≤ 60 := by omega
 have HZ := hid (show q = z by rw [HZ'.out, show decide (n ≤ 400) = true by simp; omega, show decide (d ≤ 60) = true by simp; omega]; rfl)
 go_enter Try.func15, Try.ntmps15
 go_wp2_with (first | (go_at_call 17; refine (HC2.out _ (Ext.alloc w _)).mono ?_; rintro e w' ⟨rfl, hb⟩; have E := hid hb; clear hb; obtain ⟨b0, b1, b2, b3, hz⟩ := box4 E.out) | (go_at_call 19; refine (HD2.out _ ((Ext.alloc w _).trans E.out)).mono ?_; rintro e w' ⟨rfl, hb⟩; replace E := hid (E.out.trans hb); clear hb; obtain ⟨b0, b1, b2, b3, hz⟩ := box4 E.out) | (go_at_call 31; refine (HI2.out _ ((Ext.alloc w _).trans E.out)).mono ?_; rintro e w' ⟨rfl, hb⟩; replace E := hid (E.out.trans hb); clear hb))
 go_ret
 obtain rfl := HZ.out
 exact ⟨rfl, (Ext.alloc w _).trans E.out⟩
end Go.Proofs.Ytceplnfjlncekaa
