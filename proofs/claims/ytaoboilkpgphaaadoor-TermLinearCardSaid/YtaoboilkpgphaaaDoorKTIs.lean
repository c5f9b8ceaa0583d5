/-
  Contracts of package term: whether terms are such as these calls make; whether each is a term.
-/
import Derived.Test.YtaoboilkpgphaaaDoorKTForm
namespace Go.Proofs.YtaoboilkpgphaaaDoor.Q
set_option linter.unusedSimpArgs false
set_option linter.unusedVariables false
open Go.RowKit

theorem M.kis_eta (t : M.Tm) : M.kis t = (M.kiss t.kids && M.khead t.op t.g t.ls t.name t.sort t.kids) := by
 obtain ⟨op, g, ls, nm, s, ks⟩ := t
 rw [M.kis]; rfl
set_option maxHeartbeats 8000000 in
theorem formed_n : ∀ (N : Nat) {ks : List M.Tm} {v : Value} {w : World}, M.kcnts ks < N → M.kcnts ks ≤ 400 → M.kfews ks = true → Tms w ks v → Tab w → Calls Tryd.prog 35 #[v] w (GivesB w (M.kiss ks)) := by
 intro N
 induction N with
 | zero => intro ks v w h; omega
 | succ N ih =>
  intro ks v w hN hN4 hfew hk htab
  obtain ⟨A, c, rfl⟩ := hk.shape
  obtain ⟨hl1, hl2, hl4⟩ := hk.le
  obtain ⟨n, hn⟩ : ∃ n, ks.length = n := ⟨_, rfl⟩
  obtain ⟨z, hz⟩ : ∃ z, M.kiss ks = z := ⟨_, rfl⟩
  rw [hz]
  rw [hn] at hk hl2 ⊢
  have HK := hid hk
  have HT := hid htab
  have IH := @hid _ @ih
  have HZ := hid hz
  have HLN := hid hn
  have HNN := hid hN
  have HN4 := hid hN4
  have HF := hid hfew
  clear hk ih hn hl1 hz hN hN4 hfew htab
  go_enter Tryd.func35, Tryd.ntmps35
  go_wp2_with fail
  go_loopw [7] (fun i wr => ∃ (k : Nat), i = .int .i64 (k : Int) ∧ k ≤ n ∧ Hid (M.kiss (ks.take k) = true ∧ Ext w wr)) (fun i _ => n - (intOf i).toNat)
  case atStart => exact ⟨0, rfl, Nat.zero_le _, by simp [M.kiss], Ext.refl _⟩
  case round =>
   obtain ⟨k, rfl, hk, hR⟩ := hrel
   have E := hid hR.out.2
   have HS := hid hR.out.1
   clear hR
   rcases Nat.lt_or_ge k n with hlt | hge
   ·have hlt' : (k : Int) < (n : Int) := by omega
    obtain ⟨ad, u, N', nn', nc', B, d, rfl, hu, ⟨c0, c1, c2, c3, c4, c5⟩, hv⟩ := (HK.out.up E.out).get hlt
    have HU := hid hu
    have HV := hid hv
    have hkd := hv.num.2
    have HKD := hid hkd
    have huc := M.kcnt_kids u
    have hua := M.kcnts_at HU.out
    have huf := M.kfews_at HF.out HU.out
    obtain ⟨hnm, -, hkf⟩ := M.kfew_parts huf
    have h4 := HN4.out
    have h5 := HNN.out
    have hlk := M.kcnts_len u.kids
    have HFE := hid (show M.kiss u.kids = true → M.fitsM u.op u.g u.ls u.name u.sort u.kids = M.kis u from fun h => by
     rw [M.kis_eta, h, Bool.true_and]
     exact M.fits_eq h (by omega))
    have HC1 := hid (show ∀ w', Ext wr w' → Calls Tryd.prog 68 #[kv u.op u.g N' nn' nc' u.name u.sort B u.kids.length d] w' (GivesB w' (M.fitsM u.op u.g u.ls u.name u.sort u.kids)) from fun w' e =>
     fits_n (HV.out.up e) (HT.out.up (E.out.trans e)) (by omega) (by omega))
    have HC2 := hid (show ∀ w', Ext wr w' → Calls Tryd.prog 35 #[.slice B u.kids.length d] w' (GivesB w' (M.kiss u.kids)) from fun w' e =>
     IH.out (by omega) (by omega) hkf (HKD.out.up e) (HT.out.up (E.out.trans e)))
    have HKE := hid (M.kis_eta u)
    obtain ⟨b1, hb1⟩ : ∃ b, M.fitsM u.op u.g u.ls u.name u.sort u.kids = b := ⟨_, rfl⟩
    obtain ⟨b2, hb2⟩ : ∃ b, M.kiss u.kids = b := ⟨_, rfl⟩
    rw [hb1] at HC1 HFE
    rw [hb2] at HC2 HFE HKE
    have HB := hid (show Box (wr.alloc (.cells #[.int .i64 u.op, .bool u.g, .slice N' nn' nc', str u.name, .int .i64 u.sort, .slice B u.kids.length d] 27)) wr.heap.size #[.int .i64 u.op, .bool u.g, .slice N' nn' nc', str u.name, .int .i64 u.sort, .slice B u.kids.length d] 27 from Box.new _ _ _)
    have HQ := hid (show b1 = false → z = false from fun h => by
     subst h
     rw [← HZ.out]
     refine M.not_kiss HU.out ?_
     cases b2
     ·rw [HKE.out]; rfl
     ·exact (HFE.out rfl).symm)
    have HQ2 := hid (show b2 = false → z = false from fun h => by
     subst h
     rw [← HZ.out]
     refine M.not_kiss HU.out ?_
     rw [HKE.out]; rfl)
    have HQ3 := hid (show b1 = true → b2 = true → M.kis u = true from fun h h' => by
     subst h h'
     exact (HFE.out rfl).symm)
    clear hu hv hkd huc hua huf hnm hkf h4 h5 hlk hb1 hb2 HFE HKE
    cases b1
    ·obtain rfl := HQ.out rfl
     go_wp2_with fail
     refine (HC1.out _ (Ext.alloc _ _)).mono ?_
     rintro e w' ⟨rfl, hb⟩
     replace E := hid ((E.out.alloc' _).trans hb)
     clear hb
     go_wp2_with fail
     go_ret
     exact ⟨rfl, E.out⟩
    ·have hr3 := HQ3.out rfl
     clear HQ HQ3
     cases b2
     ·obtain rfl := HQ2.out rfl
      go_wp2_with fail
      refine (HC1.out _ (Ext.alloc _ _)).mono ?_
      rintro e w' ⟨rfl, hb⟩
      have E1 := hid ((Ext.alloc wr (.cells #[.int .i64 u.op, .bool u.g, .slice N' nn' nc', str u.name, .int .i64 u.sort, .slice B u.kids.length d] 27)).trans hb)
      obtain ⟨⟨b0, b1, b2, b3, b4, b5⟩, -, -⟩ := boxF6 (HB.out.up hb)
      clear hb
      go_wp2_with fail
      refine (HC2.out _ E1.out).mono ?_
      rintro e w2 ⟨rfl, hb⟩
      replace E := hid ((E.out.trans E1.out).trans hb)
      clear hb
      go_wp2_with fail
      go_ret
      exact ⟨rfl, E.out⟩
     ·have HKU := hid (hr3 rfl)
      clear hr3
      go_wp2_with fail
      refine (HC1.out _ (Ext.alloc _ _)).mono ?_
      rintro e w' ⟨rfl, hb⟩
      have E1 := hid ((Ext.alloc wr (.cells #[.int .i64 u.op, .bool u.g, .slice N' nn' nc', str u.name, .int .i64 u.sort, .slice B u.kids.length d] 27)).trans hb)
      obtain ⟨⟨b0, b1, b2, b3, b4, b5⟩, -, -⟩ := boxF6 (HB.out.up hb)
      clear hb
      go_wp2_with fail
      refine (HC2.out _ E1.out).mono ?_
      rintro e w2 ⟨rfl, hb⟩
      replace E := hid ((E.out.trans E1.out).trans hb)
      clear hb
      go_wp2_with fail
      go_roundw
      case rel => exact ⟨k + 1, by simp, by omega, by rw [M.kiss_take HU.out, HS.out, HKU.out]; rfl, E.out⟩
      case measure => simp [intOf]; omega
   ·obtain rfl : k = n := by omega
    go_wp2
    go_ret
    obtain rfl : true = z := by rw [← HZ.out, ← HS.out, ← HLN.out, List.take_length]
    exact ⟨rfl, E.out⟩
set_option maxHeartbeats 4000000 in
theorem is_t {t : M.Tm} {v : Value} {w : World} (h : IsTm w t v) (hf : M.kfew t = true) (htab : Tab w) : Calls Tryd.prog 13 #[v] w (GivesB w (M.kIs t)) := by
 obtain ⟨N, nn, nc, A, n, c, rfl, -, -, -, -, -, -⟩ := h.shape
 have HC := hid (show ∀ w', Ext w w' → Calls Tryd.prog 14 #[kv t.op t.g N nn nc t.name t.sort A n c] w' (GivesI w' ((min (M.kcnt t) 401 : Nat) : Int)) from fun w' e => count_t t (h.up e))
 obtain ⟨op, hop⟩ : ∃ x, t.op = x := ⟨_, rfl⟩
 obtain ⟨g, hg⟩ : ∃ x, t.g = x := ⟨_, rfl⟩
 obtain ⟨nm, hnm⟩ : ∃ x, t.name = x := ⟨_, rfl⟩
 obtain ⟨so, hso⟩ : ∃ x, t.sort = x := ⟨_, rfl⟩
 rw [hop, hg, hnm, hso] at h HC ⊢
 obtain ⟨m, hm⟩ : ∃ m, min (M.kcnt t) 401 = m := ⟨_, rfl⟩
 rw [hm] at HC
 have HF := hid (show M.kcnt t ≤ 400 → ∀ w' gb T, Ext w w' → Box w' gb #[.int .i64 op, .bool g, .slice N nn nc, str nm, .int .i64 so, .slice A n c] T → Calls Tryd.prog 35 #[.slice (some ⟨gb, 0, none⟩) 1 1] w' (GivesB w' (M.kis t)) from fun hc w' gb T e hb => by
  have := formed_n (M.kcnts [t] + 1) (Nat.lt_succ_self _) (by simp [M.kcnts]; exact hc) (by simp [M.kfews, hf]) (tms_one (h.up e) hb) (htab.up e)
  rwa [show M.kiss [t] = M.kis t by simp [M.kiss]] at this)
 have HB := hid (Box.new w #[.int .i64 op, .bool g, .slice N nn nc, str nm, .int .i64 so, .slice A n c] 27)
 by_cases hc : M.kcnt t ≤ 400
 ·have hr : M.kIs t = M.kis t := by unfold M.kIs; rw [decide_eq_true hc, Bool.true_and]
  rw [hr]
  obtain ⟨q, hq⟩ : ∃ q, M.kis t = q := ⟨_, rfl⟩
  have HFF := hid (HF.out hc)
  rw [hq] at HFF ⊢
  have hm4 : (m : Int) ≤ 400 := by omega
  clear h hf htab hop hg hnm hso hm hc hr hq HF
  go_enter Tryd.func13, Tryd.ntmps13
  go_wp2_with fail
  refine (HC.out _ (Ext.alloc w _)).mono ?_
  rintro e w1 ⟨rfl, hb⟩
  have E := hid ((Ext.alloc w (.cells #[.int .i64 op, .bool g, .slice N nn nc, str nm, .int .i64 so, .slice A n c] 27)).trans hb)
  obtain ⟨⟨b0, b1, b2, b3, b4, b5⟩, -, -⟩ := boxF6 (HB.out.up hb)
  clear hb
  go_wp2_with fail
  refine (HFF.out _ _ _ (E.out.alloc' _) (Box.new _ _ _)).mono ?_
  rintro e w2 ⟨rfl, hb⟩
  replace E := hid ((E.out.alloc' _).trans hb)
  clear hb
  go_wp2
  go_ret
  exact ⟨rfl, E.out⟩
 ·have hr : M.kIs t = false := by unfold M.kIs; rw [decide_eq_false hc, Bool.false_and]
  rw [hr]
  have hm4 : decide ((m : Int) ≤ 400) = false := by simp; omega
  clear h hf htab hop hg hnm hso hm hc hr HF
  go_enter Tryd.func13, Tryd.ntmps13
  go_wp2_with fail
  refine (HC.out _ (Ext.alloc w _)).mono ?_
  rintro e w1 ⟨rfl, hb⟩
  have E := hid ((Ext.alloc w (.cells #[.int .i64 op, .bool g, .slice N nn nc, str nm, .int .i64 so, .slice A n c] 27)).trans hb)
  clear hb
  go_wp2_with fail
  go_ret
  exact ⟨rfl, E.out⟩
set_option maxHeartbeats 4000000 in
theorem all_t {l : List M.Tm} {v : Value} {w : World} (h : Tms w l v) (hf : M.kfews l = true) (htab : Tab w) : Calls Tryd.prog 44 #[v] w (GivesB w (M.kIss l)) := by
 obtain ⟨A, c, rfl⟩ := h.shape
 obtain ⟨hl1, hl2, hl3⟩ := h.le
 obtain ⟨n, hn'⟩ : ∃ n, l.length = n := ⟨_, rfl⟩
 rw [hn'] at h hl2 ⊢
 have HK := hid h
 have HN := hid hn'
 have HF := hid hf
 have HT := hid htab
 clear h hl1 hn' hf htab
 go_enter Tryd.func44, Tryd.ntmps44
 go_wp2_with fail
 go_loopw [7] (fun i wr => ∃ (k : Nat), i = .int .i64 (k : Int) ∧ k ≤ n ∧ Hid (M.kIss (l.take k) = true ∧ Ext w wr)) (fun i _ => n - (intOf i).toNat)
 case atStart => exact ⟨0, rfl, Nat.zero_le _, by simp [M.kIss], Ext.refl _⟩
 case round =>
  obtain ⟨k, rfl, hk, hR⟩ := hrel
  have E := hid hR.out.2
  have HS := hid hR.out.1
  clear hR
  rcases Nat.lt_or_ge k n with hlt | hge
  ·have hlt' : (k : Int) < (n : Int) := by omega
   obtain ⟨ad, u, N', nn', nc', B, d, rfl, hu, ⟨c0, c1, c2, c3, c4, c5⟩, hv⟩ := (HK.out.up E.out).get hlt
   have HU := hid hu
   have HV := hid hv
   have HC := hid (show ∀ w', Ext wr w' → Calls Tryd.prog 13 #[kv u.op u.g N' nn' nc' u.name u.sort B u.kids.length d] w' (GivesB w' (M.kIs u)) from fun w' e => is_t (HV.out.up e) (M.kfews_at HF.out HU.out) (HT.out.up (E.out.trans e)))
   obtain ⟨q, hq'⟩ : ∃ q, M.kIs u = q := ⟨_, rfl⟩
   have HQ := hid hq'
   rw [hq'] at HC
   clear hu hv hq'
   cases q
   ·have HR := hid (M.not_kIss HU.out HQ.out)
    go_wp2_with fail
    refine (HC.out _ (Ext.alloc _ _)).mono ?_
    rintro e w' ⟨rfl, hb⟩
    replace E := hid ((E.out.alloc' _).trans hb)
    clear hb
    go_wp2_with fail
    go_ret
    rw [HR.out]
    exact ⟨rfl, E.out⟩
   ·go_wp2_with fail
    refine (HC.out _ (Ext.alloc _ _)).mono ?_
    rintro e w' ⟨rfl, hb⟩
    replace E := hid ((E.out.alloc' _).trans hb)
    clear hb
    go_wp2_with fail
    go_roundw
    case rel => exact ⟨k + 1, by simp, by omega, by rw [M.kIss_take HU.out, HS.out, HQ.out]; rfl, E.out⟩
    case measure => simp [intOf]; omega
  ·obtain rfl : k = n := by omega
   have HR := hid (show M.kIss l = true by
    have h1 := HS.out
    rwa [← HN.out, List.take_length] at h1)
   go_wp2
   go_ret
   rw [HR.out]
   exact ⟨rfl, E.out⟩
end Go.Proofs.YtaoboilkpgphaaaDoor.Q
