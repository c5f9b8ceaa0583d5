/-
  Contracts of package term: the names of terms; Sigs.
-/
import Derived.Test.YtaoboilkpgphaaaDoorKTTake
namespace Go.Proofs.YtaoboilkpgphaaaDoor.Q
set_option linter.unusedSimpArgs false
set_option linter.unusedVariables false
open Go.RowKit

theorem Nms.own {base g0 : Nat} {w : World} {v : Value} {p : List M.Sg × Bool} (h : Nms base g0 w v p) : ∀ b, b ∈ v.ownBlock.toList → base ≤ b ∧ b < w.heap.size ∧ b ≠ g0 := by
 intro b hb
 obtain ⟨-, h2, xs, h3, -⟩ := h
 have := h3.lt b (by simpa using hb)
 exact ⟨this.1, this.2, fun e => h2 (by subst e; simpa using hb)⟩
/-- Blocks that the terms lie in. -/
abbrev tmP (base g0 b : Nat) : Prop := b < base ∧ b ≠ g0
theorem NmSt.terms {base g0 : Nat} {w w' : World} {v : Value} {p q : List M.Sg × Bool} (h : Nms base g0 w v p) (hs : NmSt base g0 w v q w') : Sub (gp (tmP base g0) w) (gp (tmP base g0) w') := by
 obtain ⟨v', -, hk, -⟩ := hs
 refine gp_mono hk.1.size fun b hb hp => ⟨hp, hk.2 b hb fun hx => ?_⟩
 simp only [List.mem_cons] at hx
 rcases hx with hx | hx
 ·exact hp.2 hx
 ·have := (h.own b hx).1; omega
theorem M.ksigss_snoc {ks : List M.Tm} {k : Nat} {u : M.Tm} (h : ks[k]? = some u) (p : List M.Sg × Bool) : M.ksigss (ks.take (k + 1)) p = M.ksigss u.kids (if u.op = 4 then M.kadd (M.sigOf u) (M.ksigss (ks.take k) p) else M.ksigss (ks.take k) p) := by
 rw [M.ksigss_take h]
 obtain ⟨op, g, ls, nm, so, kk⟩ := u
 rw [M.ksigs]
 rfl
set_option maxHeartbeats 16000000 in
set_option maxRecDepth 100000 in
theorem meet_n : ∀ (F : Nat) {base g0 : Nat} {ks : List M.Tm} {v vk : Value} {p : List M.Sg × Bool} {w : World}, M.kcnts ks < F → M.kcnts ks ≤ 1000 → M.kfews ks = true → Tms (gp (tmP base g0) w) ks vk → Nms base g0 w v p → M.kAsc p.1 → p.1.length + M.kcnts ks ≤ 999999 → base ≤ w.heap.size → g0 < base →
 Calls Tryd.prog 34 #[.pointer (some ⟨g0, 0, none⟩), vk] w (fun e w' => e = .returned (.tuple #[]) ∧ NmSt base g0 w v (M.ksigss ks p) w') := by
 intro F
 induction F with
 | zero => intro base g0 ks v vk p w h; omega
 | succ F ih =>
  intro base g0 ks v vk p w hF hF2 hfew hk hnm hasc hlen hbase hg0
  obtain ⟨A, c, rfl⟩ := hk.shape
  obtain ⟨hl1, hl2, hl4⟩ := hk.le
  obtain ⟨n, hn⟩ : ∃ n, ks.length = n := ⟨_, rfl⟩
  rw [hn] at hk hl2 ⊢
  have HK := hid hk
  have HM := hid hnm
  have HA := hid hasc
  have HLN := hid hn
  have HF := hid hF
  have HF2 := hid hF2
  have HW := hid hfew
  have HLP := hid hlen
  have IH := @hid _ @ih
  clear hk hnm hasc hn hF hF2 hfew hlen ih hl1
  go_enter Tryd.func34, Tryd.ntmps34
  go_wp2_with fail
  go_loopw [8] (fun i wr => ∃ (k : Nat), i = .int .i64 (k : Int) ∧ k ≤ n ∧ Hid (NmSt base g0 w v (M.ksigss (ks.take k) p) wr)) (fun i _ => n - (intOf i).toNat)
  case atStart => exact ⟨0, rfl, Nat.zero_le _, NmSt.refl HM.out⟩
  case round =>
   obtain ⟨k, rfl, hk, hR⟩ := hrel
   rcases Nat.lt_or_ge k n with hlt | hge
   ·have hlt' : (k : Int) < (n : Int) := by omega
    have HSB := hid (NmSt.terms HM.out hR.out)
    obtain ⟨v1, hn1, hkp, hov⟩ := hR.out
    have hws : w.heap.size ≤ wr.heap.size := hkp.1.size
    have HN1 := hid hn1
    have HKP := hid hkp
    have HOV := hid hov
    have hTG := HK.out.sub HSB.out
    obtain ⟨ad, u, N', nn', nc', B, d, rfl, hu, ⟨c0, c1, c2, c3, c4, c5⟩, hv⟩ := hTG.get hlt
    replace c0 := (gp_sub _ _).2 _ _ c0
    replace c1 := (gp_sub _ _).2 _ _ c1
    replace c2 := (gp_sub _ _).2 _ _ c2
    replace c3 := (gp_sub _ _).2 _ _ c3
    replace c4 := (gp_sub _ _).2 _ _ c4
    replace c5 := (gp_sub _ _).2 _ _ c5
    have HU := hid hu
    have HV := hid hv
    have HVP := hid (hv.sub (gp_sub _ _))
    have HKD := hid hv.num.2
    have huc := M.kcnt_kids u
    have hua := M.kcnts_at HU.out
    have hut := M.kcnts_take HU.out
    have hul := M.kcnts_take_le ks (k + 1)
    have huf := M.kfews_at HW.out HU.out
    obtain ⟨hnm, -, hkf⟩ := M.kfew_parts huf
    have HKF := hid hkf
    have h4 := HF2.out
    have h5 := HF.out
    have h6 := HLP.out
    have hlk := M.kcnts_len u.kids
    have hql := M.ksigss_len (ks.take k) p
    have HQA := hid (M.ksigss_asc (ks.take k) HA.out)
    have HQN := hid (M.ksigss_snoc HU.out p)
    obtain ⟨q, hq⟩ : ∃ q, M.ksigss (ks.take k) p = q := ⟨_, rfl⟩
    rw [hq] at HN1 HQA HQN hql
    have HUL := hid (show M.kcnts u.kids < F ∧ M.kcnts u.kids ≤ 1000 ∧ q.1.length + 1 + M.kcnts u.kids ≤ 999999 ∧ u.kids.length ≤ 1000000 from ⟨by omega, by omega, by omega, by omega⟩)
    have HSN := hid (show ∀ w', Ext wr w' → Calls Tryd.prog 67 #[kv u.op u.g N' nn' nc' u.name u.sort B u.kids.length d] w' (GivesSgN w' (M.sigOf u)) from fun w' e => sigN_n (HVP.out.up e) (by omega) (by omega))
    clear hR hn1 hkp hov hTG hu hv huc hua hut hul huf hnm hkf h4 h5 h6 hlk hql hq
    have HB := hid (show Box (wr.alloc (.cells #[.int .i64 u.op, .bool u.g, .slice N' nn' nc', str u.name, .int .i64 u.sort, .slice B u.kids.length d] 27)) wr.heap.size #[.int .i64 u.op, .bool u.g, .slice N' nn' nc', str u.name, .int .i64 u.sort, .slice B u.kids.length d] 27 from Box.new _ _ _)
    have E := hid (Ext.alloc wr (.cells #[.int .i64 u.op, .bool u.g, .slice N' nn' nc', str u.name, .int .i64 u.sort, .slice B u.kids.length d] 27))
    have HG0 := hid (show g0 < wr.heap.size by omega)
    by_cases hop : u.op = 4
    ·have hq4 : (u.op == 4) = true := by simpa using hop
     rw [if_pos hop] at HQN
     clear hop
     go_wp2_with fail
     refine (HSN.out _ E.out).mono ?_
     rintro e w2 ⟨IA, ic, rfl, hi2, hb⟩
     have hw1 : wr.heap.size ≤ (wr.alloc (.cells #[.int .i64 u.op, .bool u.g, .slice N' nn' nc', str u.name, .int .i64 u.sort, .slice B u.kids.length d] 27)).heap.size := E.out.size
     have HI2 := hid (hi2.sub (gp_mono (q := nmP g0 v1) (Nat.le_refl _) fun b h1 h2 => ⟨⟨by have := HG0.out; omega, fun e => by have := (HN1.out.own b (by rw [e]; simp)).2.1; omega⟩, rfl⟩))
     replace HB := hid (HB.out.up hb)
     replace E := hid (E.out.trans hb)
     clear hb hi2 hw1
     have HN2 := hid (HN1.out.up E.out)
     have hu4 := HUL.out
     go_wp2_with fail
     refine (take_n HN2.out HI2.out HQA.out (by omega) (by have := E.out.size; omega) hg0).mono ?_
     rintro e w3 ⟨rfl, hst⟩
     have HSB3 := hid (NmSt.terms HN2.out hst)
     obtain ⟨v3, hn3, hk3, ho3⟩ := hst
     have HB3 := hid (HB.out.kept hk3 (by
      simp only [List.mem_cons, not_or]
      refine ⟨by have := HG0.out; omega, fun hx => ?_⟩
      have := (HN1.out.own _ hx).2.1
      omega))
     have hw3 := hk3.1.size
     have HN3 := hid hn3
     have HK3 := hid hk3
     have HO3 := hid ho3
     clear hn3 hk3 ho3 hu4 HB
     obtain ⟨⟨b0, b1, b2, b3, b4, b5⟩, -, hzb⟩ := boxF6 HB3.out
     go_wp2_with fail
     have hal := M.kadd_len (M.sigOf u) q
     have hu4 := HUL.out
     refine (IH.out hu4.1 hu4.2.1 HKF.out ((HKD.out.sub (gp_mono (q := tmP base g0) E.out.size fun b h1 h2 => ⟨h2, E.out.block b h1⟩)).sub HSB3.out) HN3.out (M.kadd_asc HQA.out) (by omega) (by have := E.out.size; omega) hg0).mono ?_
     rintro e w4 ⟨rfl, hst⟩
     have HFIN := hid (show NmSt base g0 w v (M.ksigss (ks.take (k + 1)) p) w4 by
      rw [HQN.out]
      exact NmSt.trans HKP.out HOV.out (NmSt.trans (E.out.kept _) (.inl rfl) (NmSt.trans HK3.out HO3.out hst)))
     clear hst hal hu4 b0 b1 b2 b3 b4 b5
     go_wp2_with fail
     go_roundw
     case rel => exact ⟨k + 1, by simp, by omega, HFIN.out⟩
     case measure => simp [intOf]; omega
    ·have hq4 : (u.op == 4) = false := by simpa using hop
     rw [if_neg hop] at HQN
     clear hop
     have HN2 := hid (HN1.out.up E.out)
     go_wp2_with fail
     have hu4 := HUL.out
     refine (IH.out hu4.1 hu4.2.1 HKF.out (HKD.out.sub (gp_mono (q := tmP base g0) E.out.size fun b h1 h2 => ⟨h2, E.out.block b h1⟩)) HN2.out HQA.out (by omega) (by have := E.out.size; omega) hg0).mono ?_
     rintro e w4 ⟨rfl, hst⟩
     have HFIN := hid (show NmSt base g0 w v (M.ksigss (ks.take (k + 1)) p) w4 by
      rw [HQN.out]
      exact NmSt.trans HKP.out HOV.out (NmSt.trans (E.out.kept _) (.inl rfl) hst))
     clear hst hu4
     go_wp2_with fail
     go_roundw
     case rel => exact ⟨k + 1, by simp, by omega, HFIN.out⟩
     case measure => simp [intOf]; omega
   ·obtain rfl : k = n := by omega
    have HFIN := hid (show NmSt base g0 w v (M.ksigss ks p) wr by
     have := hR.out
     rwa [← HLN.out, List.take_length] at this)
    clear hR
    go_wp2_with fail
    refine bodyPost_end (results_none rfl _ _ _) rfl ?_
    exact ⟨rfl, HFIN.out⟩
theorem gp_box {p : Nat → Prop} [DecidablePred p] {w : World} {g : Nat} {cs : Array Value} {T : TypeId} (h : Box w g cs T) (hp : p g) : Box (gp p w) g cs T := by
 show (gp p w).heap[g]? = _
 unfold gp
 simp only [Array.getElem?_mapIdx]
 rw [show w.heap[g]? = some (.cells cs T (0, 0)) from h]
 simp [hp]
set_option maxHeartbeats 16000000 in
set_option maxRecDepth 100000 in
theorem sigs_t {t : M.Tm} {v : Value} {w : World} (h : IsTm w t v) (hf : M.kfew t = true) (htab : Tab w) : Calls Tryd.prog 12 #[v] w (GivesSgs w (if M.kIs t = true then M.kSigs t else ([], true))) := by
 obtain ⟨N, nn, nc, A, n, c, rfl, -, -, -, -, -, -⟩ := h.shape
 have HI := hid (show ∀ w', Ext w w' → Calls Tryd.prog 13 #[kv t.op t.g N nn nc t.name t.sort A n c] w' (GivesB w' (M.kIs t)) from fun w' e => is_t (h.up e) hf (htab.up e))
 obtain ⟨op, hop⟩ : ∃ x, t.op = x := ⟨_, rfl⟩
 obtain ⟨g, hg⟩ : ∃ x, t.g = x := ⟨_, rfl⟩
 obtain ⟨nm, hnm⟩ : ∃ x, t.name = x := ⟨_, rfl⟩
 obtain ⟨so, hso⟩ : ∃ x, t.sort = x := ⟨_, rfl⟩
 rw [hop, hg, hnm, hso] at h HI ⊢
 have HB := hid (Box.new w #[.int .i64 op, .bool g, .slice N nn nc, str nm, .int .i64 so, .slice A n c] 27)
 have HT := hid h
 have HFW := hid hf
 clear h hf htab hop hg hnm hso
 rcases hq : M.kIs t with _ | _
 ·rw [hq] at HI
  rw [if_neg (by decide)]
  clear hq
  go_enter Tryd.func12, Tryd.ntmps12
  go_wp2_with fail
  refine (HI.out _ (Ext.alloc w _)).mono ?_
  rintro e w1 ⟨rfl, hb⟩
  have E := hid ((Ext.alloc w (.cells #[.int .i64 op, .bool g, .slice N nn nc, str nm, .int .i64 so, .slice A n c] 27)).trans hb)
  clear hb
  go_wp2_with fail
  go_ret2
  exact ⟨_, rfl, Sgs.nil _, E.out⟩
 ·rw [hq] at HI
  rw [if_pos rfl]
  have HCN := hid (show M.kcnt t ≤ 400 by
   unfold M.kIs at hq
   simp only [Bool.and_eq_true, decide_eq_true_eq] at hq
   exact hq.1)
  clear hq
  go_enter Tryd.func12, Tryd.ntmps12
  go_wp2_with fail
  refine (HI.out _ (Ext.alloc w _)).mono ?_
  rintro e w1 ⟨rfl, hb⟩
  have E := hid ((Ext.alloc w (.cells #[.int .i64 op, .bool g, .slice N nn nc, str nm, .int .i64 so, .slice A n c] 27)).trans hb)
  replace HB := hid (HB.out.up hb)
  have hwz : w.heap.size < w1.heap.size := HB.out.lt
  obtain ⟨⟨b0, b1, b2, b3, b4, b5⟩, -, -⟩ := boxF6 HB.out
  clear hb
  have EL := hid (show Ext w1 ((w1.alloc (.cells #[.slice none 0 0, .bool false] 60)).alloc (.cells #[.int .i64 op, .bool g, .slice N nn nc, str nm, .int .i64 so, .slice A n c] 27)) from alloc_two _ _ _)
  have HMT := hid (meet_n (M.kcnts [t] + 1) (base := w1.heap.size + 2) (g0 := w1.heap.size) (ks := [t]) (v := .slice none 0 0) (vk := .slice (some ⟨w1.heap.size + 1, 0, none⟩) 1 1) (p := ([], true)) (w := (w1.alloc (.cells #[.slice none 0 0, .bool false] 60)).alloc (.cells #[.int .i64 op, .bool g, .slice N nn nc, str nm, .int .i64 so, .slice A n c] 27))
   (Nat.lt_succ_self _) (by have := HCN.out; simp [M.kcnts]; omega) (by simp [M.kfews, HFW.out])
   (tms_one (HT.out.sub ((E.out.trans EL.out).gp_new fun k hk => ⟨by omega, by omega⟩)) (gp_box (Box.at_ (w := w1.alloc (.cells #[.slice none 0 0, .bool false] 60)) _ _ (by simp)) ⟨by omega, by omega⟩))
   ⟨(Box.new w1 _ _).alloc _, by simp [Value.ownBlock], [], World.ownsRow_nil _ _ _ 3, rfl⟩ M.kAsc_nil (by have := HCN.out; simp [M.kcnts]; omega) (by simp) (by omega))
  go_wp2_with fail
  refine HMT.out.mono ?_
  rintro e w2 ⟨rfl, v2, hn2, hk2, ho2⟩
  obtain ⟨hbx, -, -, -, -⟩ := id hn2
  have hsg := hn2.sgs
  obtain ⟨q, hq⟩ : ∃ q, M.ksigss [t] ([], true) = q := ⟨_, rfl⟩
  have HQ := hid (show M.kSigs t = q by rw [← hq]; simp [M.ksigss, M.kSigs])
  rw [hq] at hbx hsg
  have HX := hid hbx
  have HSG := hid hsg
  replace E := hid (show Ext w w2 from Below.trans (B := w.heap.size) (E.out.trans EL.out) (hk2.below (by have := (E.out.trans EL.out).size; omega) (by
   intro x hx
   simp [Value.ownBlock] at hx
   omega)))
  obtain ⟨VA, vc, hv2⟩ := hsg.shape
  subst hv2
  obtain ⟨m, hm⟩ : ∃ m, q.1.length = m := ⟨_, rfl⟩
  rw [hm] at HX HSG
  have HM := hid hm
  clear hn2 hk2 ho2 hbx hsg hq hm HMT b0 b1 b2 b3 b4 b5
  go_wp2_with fail
  refine wp_region_D [(0, 0), (1, 0), (2, 0), (3, 0), (4, 0), (5, 0), (6, 0)] fun wd hb => ?_
  replace E := hid (E.out.trans hb)
  replace HX := hid (HX.out.up hb)
  replace HSG := hid (HSG.out.up hb)
  clear hb
  refine WE.p 11 (.pointer (some ⟨w1.heap.size, 0, none⟩)) ?_
  simp only [Act.put, pA, pB, pC]
  refine WE.q 12 (.slice VA m vc) rfl (fun w' hk => by have ce := (HX.out.up hk).k 0; go_simp) ?_
  simp only [Act.put, pA, pB, pC]
  refine WE.p 13 (.pointer (some ⟨w1.heap.size, 1, none⟩)) ?_
  simp only [Act.put, pA, pB, pC]
  refine WE.q 14 (.bool (!q.2)) rfl (fun w' hk => by have ce := (HX.out.up hk).k 1; go_simp) ?_
  simp only [Act.put, pA, pB, pC]
  refine WE.p 15 (.bool q.2) ?_
  simp only [Act.put, pA, pB, pC]
  refine WE.p 2 (.slice VA m vc) ?_
  simp only [Act.put, pA, pB, pC]
  refine WE.p 3 (.bool q.2) ?_
  simp only [Act.put, pA, pB, pC]
  refine WE.done ?_
  go_wp2_with fail
  go_ret2
  rw [HQ.out]
  exact ⟨_, rfl, HSG.out, E.out⟩
end Go.Proofs.YtaoboilkpgphaaaDoor.Q
