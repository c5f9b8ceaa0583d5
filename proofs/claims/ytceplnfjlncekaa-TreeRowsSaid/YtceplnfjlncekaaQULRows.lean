/-
  WHAT: trees one behind the other are as many as they are; each is as if it were alone (TreeRows).
  FOR EVERY INPUT: no condition.
-/
import Derived.Test.YtceplnfjlncekaaQTOpen
import Derived.Test.YtceplnfjlncekaaQTFew
import Derived.Test.YtceplnfjlncekaaQUKnown
namespace Go.Proofs.Ytceplnfjlncekaa
set_option linter.unusedSimpArgs false
set_option linter.unusedVariables false
open Go.ChangeShapes Go.WideShapes Go.ChangeAt Go.RowKit

namespace M
/-- What the loop has seen of trees. -/
def okR (ks : List T) : Prop := ∀ t ∈ ks, isU t = true
theorem okR_snoc {ks : List T} {k : Nat} {t : T} (h : okR (ks.take k)) (hk : ks[k]? = some t) (h2 : isU t = true) : okR (ks.take (k + 1)) := by
 intro u hu
 rw [List.take_add_one, hk, List.mem_append] at hu
 rcases hu with hu | hu
 ·exact h u hu
 ·simp at hu; subst hu; exact h2
theorem okR_len : ∀ {ks : List T}, okR ks → (wdss ks).length ≤ ks.length * 800
 | [], _ => by simp [wdss]
 | x :: r, h => by
  have := okR_len (ks := r) fun t ht => h t (by simp [ht])
  have := wds_le (h x (by simp))
  rw [wdss, List.length_append]; simp; omega
theorem okR_cnts : ∀ {ks : List T}, okR ks → cnts ks ≤ ks.length * 400
 | [], _ => by simp [cnts]
 | x :: r, h => by
  have := okR_cnts (ks := r) fun t ht => h t (by simp [ht])
  have := (isU_parts (h x (by simp))).1
  rw [cnts]; simp; omega
theorem okR_form {ks : List T} (h : okR ks) : formTs ks = true := formTs_of fun t ht => (isU_parts (h t ht)).2.2
theorem rts_take_le (l : List Tok) (k : Nat) : rts (l.take k) ≤ k := Nat.le_trans (rts_le _) (by rw [List.length_take]; omega)
end M
/-- The one tree of a list. -/
theorem Kids.only {w : World} {t : M.T} {v : Value} (h : Kids w [t] v) : ∃ ad B d c, v = .slice (some ad) 1 c ∧ 1 ≤ c ∧ c ≤ 9223372036854775807 ∧ w.cell? ad = some (.bool t.list) ∧ w.cell? ⟨ad.block, ad.off + 1, none⟩ = some (.int .i64 t.tok.1) ∧ w.cell? ⟨ad.block, ad.off + 2, none⟩ = some (str t.tok.2) ∧ w.cell? ⟨ad.block, ad.off + 3, none⟩ = some (.slice B t.kids.length d)
 ∧ IsT w t (tv t.list t.tok B t.kids.length d) := by
 obtain ⟨A, c, rfl⟩ := h.shape
 replace h : Kids w [t] (.slice A 1 c) := h
 obtain ⟨h1, h2, h3⟩ := h.le
 obtain ⟨ad, u, B, d, rfl, hu, c0, c1, c2, c3, ht⟩ := h.get (k := 0) (by omega)
 obtain rfl : u = t := by simpa using hu.symm
 rw [Nat.zero_mul, Addr.add_zero'] at c0 c1 c2 c3
 exact ⟨ad, B, d, c, rfl, h2, by unfold maxLen at h3; omega, c0, c1, c2, c3, ht⟩
set_option maxHeartbeats 16000000 in
set_option maxRecDepth 100000 in
theorem treeRows_walk (W : World) {v : Value} (ks : List M.T) (hks : Kids W ks v) : Calls Try.prog 7 #[v] W (GivesB W true) := by
 obtain ⟨A, c, rfl⟩ := hks.shape
 obtain ⟨hl1, hl2, hl3⟩ := hks.le
 have hl4 : c ≤ 9223372036854775807 := by unfold maxLen at hl3; omega
 obtain ⟨p, hp⟩ : ∃ p, ks.length = p := ⟨_, rfl⟩
 rw [hp] at hks hl2 ⊢
 have HK := hid hks
 have HP := hid hp
 clear hks hp hl1 hl3
 rcases Nat.lt_or_ge 8 p with h8 | h8
 ·have hq : 8 < (p : Int) := by omega
  go_enter Try.func7, Try.ntmps7
  go_wp2_with fail
  refine (known9_n _).mono ?_
  rintro e w1 ⟨rfl, hb⟩
  have E := hid hb
  clear hb
  go_wp2
  go_ret
  exact ⟨rfl, E.out⟩
 have hq : decide (8 < (p : Int)) = false := by simp; omega
 go_enter Try.func7, Try.ntmps7
 go_wp2_with fail
 refine (known9_n _).mono ?_
 rintro e w1 ⟨rfl, hb⟩
 have E1 := hid hb
 clear hb
 go_wp2_with fail
 go_loopw [3, 4] (fun x i wr => ∃ (k : Nat), i = .int .i64 (k : Int) ∧ k ≤ p ∧ Hid (OwnT W.heap.size wr x (M.wdss (ks.take k)) ∧ M.okR (ks.take k) ∧ Ext W wr)) (fun _ i _ => p - (intOf i).toNat)
 case atStart => exact ⟨0, rfl, Nat.zero_le _, by simpa [M.wdss] using OwnT.nil W.heap.size w1, fun t ht => by simp at ht, E1.out⟩
 case round =>
  obtain ⟨k, rfl, hk, hR⟩ := hrel
  have E := hid hR.out.2.2
  have HO := hid hR.out.1
  have HOK := hid hR.out.2.1
  clear hR
  rcases Nat.lt_or_ge k p with hlt | hge
  ·have hlt' : (k : Int) < (p : Int) := by omega
   obtain ⟨ad, u, B, d, rfl, hu, c0, c1, c2, c3, hv⟩ := (HK.out.up E.out).get hlt
   have HU := hid hu
   obtain ⟨L, hL⟩ : ∃ L, u.list = L := ⟨_, rfl⟩
   obtain ⟨TK, hTK⟩ : ∃ TK, u.tok = TK := ⟨_, rfl⟩
   obtain ⟨NK, hNK⟩ : ∃ NK, u.kids.length = NK := ⟨_, rfl⟩
   have HV2 := hid (show IsT wr u (tv L TK B NK d) by rw [← hL, ← hTK, ← hNK]; exact hv)
   rw [hL] at c0
   rw [hTK] at c1 c2
   rw [hNK] at c3
   clear hu hv hL hTK hNK
   obtain ⟨f, hf⟩ : ∃ f, M.fewN u 70 = f := ⟨_, rfl⟩
   have HF := hid (fewTree_n u HV2.out (m := 70) (by omega))
   have HFV := hid hf
   rw [hf] at HF
   clear hf
   cases f
   ·go_wp2_with (go_at_call 14; refine HF.out.mono ?_; rintro e w' ⟨rfl, hb⟩; replace E := hid (E.out.trans hb); clear hb)
    go_ret
    exact ⟨rfl, E.out⟩
   obtain ⟨z, hz⟩ : ∃ z, M.isU u = z := ⟨_, rfl⟩
   have HI := hid (show ∀ w', Ext wr w' → Calls Try.prog 15 #[tv L TK B NK d] w' (GivesB w' z) from fun w' e => by have := is_t u (HV2.out.up e) (M.txtN_few u HFV.out); rwa [hz] at this)
   have HZ := hid hz
   clear hz
   have EW := hid (Ext.refl wr)
   cases z
   ·go_wp2_with (first | (go_at_call 14; refine HF.out.mono ?_; rintro e w' ⟨rfl, hx⟩; replace EW := hid hx; replace c0 := hx.cell c0; replace c1 := hx.cell c1; replace c2 := hx.cell c2; replace c3 := hx.cell c3; clear hx) | (go_at_call 15; refine (HI.out _ EW.out).mono ?_; rintro e w' ⟨rfl, hx⟩; replace EW := hid (EW.out.trans hx); clear hx))
    go_ret
    exact ⟨rfl, E.out.trans EW.out⟩
   have HW := hid (show ∀ w', Ext wr w' → Calls Try.prog 22 #[tv L TK B NK d] w' (GivesTs w' (M.wds u)) from fun w' e => words_t u (HV2.out.up e) (by have := M.wds_le HZ.out; omega))
   have HOK2 := hid (M.okR_snoc HOK.out HU.out HZ.out)
   have hln : (M.wdss (ks.take k)).length + (M.wds u).length ≤ 6400 := by
    have h1 := M.okR_len HOK2.out
    rw [M.wdss_take HU.out, List.length_append, List.length_take] at h1
    omega
   have HLN := hid hln
   clear hln
   go_wp2_with (first | (go_at_call 14; refine HF.out.mono ?_; rintro e w' ⟨rfl, hx⟩; replace EW := hid hx; replace c0 := hx.cell c0; replace c1 := hx.cell c1; replace c2 := hx.cell c2; replace c3 := hx.cell c3; clear hx) | (go_at_call 15; refine (HI.out _ EW.out).mono ?_; rintro e w' ⟨rfl, hx⟩; replace EW := hid (EW.out.trans hx); replace c0 := hx.cell c0; replace c1 := hx.cell c1; replace c2 := hx.cell c2; replace c3 := hx.cell c3; clear hx) | (go_at_call 22; refine (HW.out _ EW.out).mono ?_; rintro e w' ⟨v2, rfl, hv2, hx⟩; replace EW := hid (EW.out.trans hx); have HVW := hid hv2; clear hx hv2) | (at_builtin; refine wpList_appTs rfl (.tmp 40) (.tmp 45) rfl W.heap.size _ v2 _ (M.wds u) rfl (HO.out.up EW.out) rfl HVW.out (M.wds_ne u) ?c2 ?c3 ?_))
   case c2 => have h1 := HLN.out; omega
   case c3 => have h1 := E.out.size; have h2 := EW.out.size; omega
   intro v' w3 hown hbel
   have HOW := hid hown
   have HE := hid (show Ext W w3 from Below.trans (B := W.heap.size) (E.out.trans EW.out) hbel)
   clear hown hbel
   go_wp2_with fail
   go_roundw
   case rel => exact ⟨k + 1, by simp, by omega, by rw [M.wdss_take HU.out]; exact HOW.out, HOK2.out, HE.out⟩
   case measure => simp [intOf]; omega
  obtain rfl : k = p := by omega
  have hall : ks.take k = ks := by rw [← HP.out, List.take_length]
  have hok : M.okR ks := by have := HOK.out; rwa [hall] at this
  have hlist := HO.out.list
  rw [hall] at hlist
  have HOKS := hid hok
  have hN8 : (M.wdss ks).length ≤ 6400 := by
   have h1 := M.okR_len hok
   rw [HP.out] at h1
   omega
  have HRD := hid (read_t hlist (by omega))
  obtain ⟨N, hN⟩ : ∃ N, (M.wdss ks).length = N := ⟨_, rfl⟩
  rw [M.readM_rows hok, hN] at HRD
  obtain ⟨AW, cW, hvW⟩ := hlist.shape
  rw [hN] at hvW hN8
  subst hvW
  have hcW : cW ≤ 9223372036854775807 ∧ N ≤ cW := by
   obtain ⟨A', n', c', e, h2, h3, h4, _⟩ := hlist
   injection e with e1 e2 e3
   subst e3
   unfold maxLen at h4
   omega
  obtain ⟨hcW9, hcWN⟩ := hcW
  have HNX := hid hN
  have HLW := hid hlist
  clear hall hok hlist hN HO HOK
  go_wp2_with fail
  refine HRD.out.mono ?_
  rintro e w2 ⟨v5, rfl, hv5, hx⟩
  obtain ⟨A5, c5, rfl⟩ := hv5.shape
  rw [HP.out] at hv5 ⊢
  obtain ⟨hr1, hr2, hr3⟩ := hv5.le
  have hc59 : c5 ≤ 9223372036854775807 := by unfold maxLen at hr3; omega
  have HA := hid hv5
  replace E := hid (E.out.trans hx)
  replace HLW := hid (HLW.out.up hx)
  clear hv5 hr1 hr3 hx HRD hk hge
  go_wp2_with fail
  go_loopw [8, 9] (fun x i wr => ∃ (k' n : Nat), x = .int .i64 (n : Int) ∧ i = .int .i64 (k' : Int) ∧ k' ≤ k ∧ n ≤ 3200 ∧ Hid (n = M.cnts (ks.take k') ∧ Ext w2 wr)) (fun _ i _ => k - (intOf i).toNat)
  case atStart => exact ⟨0, 0, rfl, rfl, Nat.zero_le _, by omega, by simp [M.cnts], Ext.refl _⟩
  case round =>
   obtain ⟨j, n, rfl, rfl, hj, hn3, hR⟩ := hrel
   have EN := hid hR.out.2
   have HS := hid hR.out.1
   clear hR
   rcases Nat.lt_or_ge j k with hlt | hge
   ·have hlt' : (j : Int) < (k : Int) := by omega
    obtain ⟨ad, u, B, d, rfl, hu, c0, c1, c2, c3, hv⟩ := (HK.out.up (E.out.trans EN.out)).get (k := j) hlt
    obtain ⟨ad5, u5, B5, e5, rfl, hu5, a0, a1, a2, a3, hv5⟩ := (HA.out.up EN.out).get (k := j) hlt
    obtain rfl : u5 = u := by rw [hu] at hu5; exact (Option.some.inj hu5).symm
    have HU := hid hu
    have hisU : M.isU u5 = true := HOKS.out u5 (List.mem_of_getElem? hu)
    obtain ⟨L, hL⟩ : ∃ L, u5.list = L := ⟨_, rfl⟩
    obtain ⟨TK, hTK⟩ : ∃ TK, u5.tok = TK := ⟨_, rfl⟩
    obtain ⟨NK, hNK⟩ : ∃ NK, u5.kids.length = NK := ⟨_, rfl⟩
    have HTV := hid (show ∀ B e, tv u5.list u5.tok B u5.kids.length e = tv L TK B NK e from fun B e => by rw [hL, hTK, hNK])
    have HV2 := hid (show IsT wr u5 (tv L TK B NK d) by rw [← HTV.out]; exact hv)
    have HV5 := hid (show IsT wr u5 (tv L TK B5 NK e5) by rw [← HTV.out]; exact hv5)
    rw [hL] at c0 a0
    rw [hTK] at c1 c2 a1 a2
    rw [hNK] at c3 a3
    have HLL := hid hL
    have HTT := hid hTK
    have HNK := hid hNK
    have HIS := hid hisU
    have HW := hid (words_t u5 HV2.out (by have := M.wds_le hisU; omega))
    clear hu hu5 hv hv5 hL hTK hNK hisU
    go_wp2_with fail
    refine HW.out.mono ?_
    rintro e w3 ⟨v3, rfl, hv3, hx3⟩
    have HRD := hid (read_t hv3 (by have := M.wds_le HIS.out; omega))
    rw [M.readM_one HIS.out] at HRD
    have EW := hid hx3
    clear hv3 hx3
    go_wp2_with fail
    refine HRD.out.mono ?_
    rintro e w4 ⟨v4, rfl, hv4, hx4⟩
    obtain ⟨adb, Bb, eb, cb, rfl, hcb1, hcb2, b0, b1, b2, b3, hTb⟩ := hv4.only
    have HVB := hid (show IsT w4 u5 (tv L TK Bb NK eb) by rw [← HTV.out]; exact hTb)
    rw [HLL.out] at b0
    rw [HTT.out] at b1 b2
    rw [HNK.out] at b3
    replace EW := hid (EW.out.trans hx4)
    replace c0 := EW.out.cell c0
    replace c1 := EW.out.cell c1
    replace c2 := EW.out.cell c2
    replace c3 := EW.out.cell c3
    replace a0 := EW.out.cell a0
    replace a1 := EW.out.cell a1
    replace a2 := EW.out.cell a2
    replace a3 := EW.out.cell a3
    clear hv4 hx4 hTb HRD HW
    have HS1 := hid (show ∀ w', Ext w4 w' → Calls Try.prog 24 #[tv L TK B5 NK e5, tv L TK Bb NK eb] w' (GivesB w' true) from fun w' e => by have := same_t _ (HV5.out.up (EW.out.trans e)) (HVB.out.up e); rwa [(M.sameT_iff _ _).2 rfl] at this)
    have HS2 := hid (show ∀ w', Ext w4 w' → Calls Try.prog 24 #[tv L TK B5 NK e5, tv L TK B NK d] w' (GivesB w' true) from fun w' e => by have := same_t _ (HV5.out.up (EW.out.trans e)) (HV2.out.up (EW.out.trans e)); rwa [(M.sameT_iff _ _).2 rfl] at this)
    go_wp2_with fail
    refine wp_region_D [(0, 0), (1, 0), (2, 0), (3, 0), (4, 0), (5, 0), (6, 0), (7, 0), (8, 0), (9, 0), (10, 0), (11, 0), (12, 0), (13, 0), (14, 0), (15, 1), (16, 0), (17, 0), (18, 0), (19, 0), (20, 0), (21, 0), (22, 0), (23, 0), (24, 0), (25, 0), (26, 0), (27, 1), (28, 0), (29, 0)] fun wd hb => ?_
    have E6 := hid hb
    clear hb
    refine WE.p 84 (.int .i64 0) ?_
    simp only [Act.put, pA, pB, pC]
    refine WE.p 85 (.bool false) ?_
    simp only [Act.put, pA, pB, pC]
    refine WE.p 86 (.bool false) ?_
    simp only [Act.put, pA, pB, pC]
    refine WE.p 87 (.slice (some adb) 1 cb) ?_
    simp only [Act.put, pA, pB, pC]
    refine WE.p 88 (.int .i64 1) ?_
    simp only [Act.put, pA, pB, pC]
    refine WE.p 89 (.bool false) ?_
    simp only [Act.put, pA, pB, pC]
    refine WE.p 90 (.bool false) ?_
    simp only [Act.put, pA, pB, pC]
    refine WE.p 91 (.bool false) ?_
    simp only [Act.put, pA, pB, pC]
    refine WE.p 92 (.slice (some ad5) k c5) ?_
    simp only [Act.put, pA, pB, pC]
    refine WE.p 93 (.int .i64 (j : Int)) ?_
    simp only [Act.put, pA, pB, pC]
    refine WE.p 94 (.pointer (some (ad5.add (j * 4)))) ?_
    simp only [Act.put, pA, pB, pC]
    refine WE.q 95 (tv L TK B5 NK e5) rfl (fun w' hk => by have x0 := hk.cell (E6.out.cell a0); have x1 := hk.cell (E6.out.cell a1); have x2 := hk.cell (E6.out.cell a2); have x3 := hk.cell (E6.out.cell a3); go_simp) ?_
    simp only [Act.put, pA, pB, pC]
    refine WE.p 96 (.slice (some adb) 1 cb) ?_
    simp only [Act.put, pA, pB, pC]
    refine WE.p 97 (.pointer (some adb)) ?_
    simp only [Act.put, pA, pB, pC]
    refine WE.q 98 (tv L TK Bb NK eb) rfl (fun w' hk => by have x0 := hk.cell (E6.out.cell b0); have x1 := hk.cell (E6.out.cell b1); have x2 := hk.cell (E6.out.cell b2); have x3 := hk.cell (E6.out.cell b3); go_simp) ?_
    simp only [Act.put, pA, pB, pC]
    refine WE.c 99 ((HS1.out _ E6.out).mono ?_)
    rintro e w6 ⟨rfl, hb6⟩
    refine ⟨_, rfl, hb6, ?_⟩
    replace E6 := hid (E6.out.trans hb6)
    clear hb6
    simp only [Act.put, pA, pB, pC]
    refine WE.p 100 (.bool false) ?_
    simp only [Act.put, pA, pB, pC]
    refine WE.p 101 (.bool false) ?_
    simp only [Act.put, pA, pB, pC]
    refine WE.p 102 (.bool false) ?_
    simp only [Act.put, pA, pB, pC]
    refine WE.p 103 (.slice (some ad5) k c5) ?_
    simp only [Act.put, pA, pB, pC]
    refine WE.p 104 (.int .i64 (j : Int)) ?_
    simp only [Act.put, pA, pB, pC]
    refine WE.p 105 (.pointer (some (ad5.add (j * 4)))) ?_
    simp only [Act.put, pA, pB, pC]
    refine WE.q 106 (tv L TK B5 NK e5) rfl (fun w' hk => by have x0 := hk.cell (E6.out.cell a0); have x1 := hk.cell (E6.out.cell a1); have x2 := hk.cell (E6.out.cell a2); have x3 := hk.cell (E6.out.cell a3); go_simp) ?_
    simp only [Act.put, pA, pB, pC]
    refine WE.p 107 (.slice (some ad) k c) ?_
    simp only [Act.put, pA, pB, pC]
    refine WE.p 108 (.int .i64 (j : Int)) ?_
    simp only [Act.put, pA, pB, pC]
    refine WE.p 109 (.pointer (some (ad.add (j * 4)))) ?_
    simp only [Act.put, pA, pB, pC]
    refine WE.q 110 (tv L TK B NK d) rfl (fun w' hk => by have x0 := hk.cell (E6.out.cell c0); have x1 := hk.cell (E6.out.cell c1); have x2 := hk.cell (E6.out.cell c2); have x3 := hk.cell (E6.out.cell c3); go_simp) ?_
    simp only [Act.put, pA, pB, pC]
    refine WE.c 111 ((HS2.out _ E6.out).mono ?_)
    rintro e w6 ⟨rfl, hb6⟩
    refine ⟨_, rfl, hb6, ?_⟩
    replace E6 := hid (E6.out.trans hb6)
    clear hb6
    simp only [Act.put, pA, pB, pC]
    refine WE.p 112 (.bool false) ?_
    simp only [Act.put, pA, pB, pC]
    refine WE.p 113 (.bool false) ?_
    simp only [Act.put, pA, pB, pC]
    refine WE.done ?_
    replace c0 := E6.out.cell c0
    replace c1 := E6.out.cell c1
    replace c2 := E6.out.cell c2
    replace c3 := E6.out.cell c3
    replace EW := hid (EW.out.trans E6.out)
    have hcu := (M.isU_parts HIS.out).1
    have hny : n + M.cnt u5 ≤ 3200 := by
     have h1 := M.okR_cnts HOKS.out
     have h2 := M.cnts_take HU.out
     have h3 := HS.out
     have h4 := M.cnts_take_le ks (j + 1)
     have h5 := HP.out
     omega
    obtain ⟨q, hq'⟩ : ∃ q, M.cnt u5 = q := ⟨_, rfl⟩
    rw [hq'] at hny hcu
    have HC := hid (show ∀ w', Ext wr w' → Calls Try.prog 17 #[tv L TK B NK d] w' (GivesI w' (q : Int)) from fun w' e => by have := count_t u5 (HV2.out.up e); rwa [hq', show min q 401 = q by omega] at this)
    obtain ⟨y, hy⟩ : ∃ y, n + q = y := ⟨_, rfl⟩
    have hyi : (n : Int) + (q : Int) = (y : Int) := by omega
    have hy3 : y ≤ 3200 := by omega
    have HY := hid hy
    have HQ := hid hq'
    clear hy hq' hny b0 b1 b2 b3 a0 a1 a2 a3
    go_wp2_with (go_at_call 17; refine (HC.out _ EW.out).mono ?_; rintro e w' ⟨rfl, hx⟩; replace EW := hid (EW.out.trans hx); clear hx)
    go_roundw
    case rel => exact ⟨j + 1, y, rfl, by simp, by omega, by omega, by
     have h1 := HS.out
     have h2 := M.cnts_take HU.out
     have h3 := HY.out
     have h4 := HQ.out
     omega, EN.out.trans EW.out⟩
    case measure => simp [intOf]; omega
   ·obtain rfl : j = k := by omega
    have hn := HS.out
    have hall : ks.take j = ks := by rw [← HP.out, List.take_length]
    rw [hall] at hn
    have hwl := M.wdss_len ks (M.okR_form HOKS.out)
    rw [HNX.out, ← hn] at hwl
    have HWL := hid hwl
    have HLW2 := hid (HLW.out.up EN.out)
    clear hn hall hwl HS hge
    go_wp2_with fail
    go_loopw [13, 14] (fun x i wr' => ∃ (i' r : Nat), x = .int .i64 (r : Int) ∧ i = .int .i64 (i' : Int) ∧ i' ≤ N ∧ r ≤ 6400 ∧ Hid (r = M.rts ((M.wdss ks).take i') ∧ Ext wr wr')) (fun _ i _ => N - (intOf i).toNat)
    case atStart => exact ⟨0, 0, rfl, rfl, Nat.zero_le _, by omega, by simp [M.rts], Ext.refl _⟩
    case round =>
     obtain ⟨i, r, rfl, rfl, hi, hr6, hR⟩ := hrel
     have EM := hid hR.out.2
     have HS := hid hR.out.1
     clear hR
     rcases Nat.lt_or_ge i N with hlt | hge
     ·have hlt' : (i : Int) < (N : Int) := by omega
      obtain ⟨adw, tk, rfl, htk, x0, -⟩ := TList.get (HLW2.out.up EM.out) (k := i) (by rw [HNX.out]; exact hlt)
      have HTK := hid htk
      have hrs := M.rts_take htk
      have hri : r ≤ i := by have h1 := HS.out; have h2 := M.rts_take_le (M.wdss ks) i; omega
      have HRS := hid hrs
      obtain ⟨kd, tx⟩ := tk
      clear htk hrs
      by_cases hk2 : kd = 2
      ·subst hk2
       go_wp2_with fail
       go_roundw
       case rel => exact ⟨i + 1, r + 1, by simp, by simp, by omega, by omega, by rw [HRS.out, if_pos rfl, ← HS.out], EM.out⟩
       case measure => simp [intOf]; omega
      ·have hkd : (kd == 2) = false := by simpa using hk2
       have HK2 := hid hk2
       clear hk2
       go_wp2_with fail
       go_roundw
       case rel => exact ⟨i + 1, r, by simp, by simp, by omega, by omega, by rw [HRS.out, if_neg HK2.out, ← HS.out]; rfl, EM.out⟩
       case measure => simp [intOf]; omega
     ·obtain rfl : i = N := by omega
      have hr := HS.out
      rw [← HNX.out, List.take_length] at hr
      have hir : (i : Int) - (r : Int) = (n : Int) := by have h1 := HWL.out; omega
      clear hr
      go_wp2
      go_ret
      exact ⟨rfl, (E.out.trans EN.out).trans EM.out⟩

set_option maxRecDepth 100000 in
theorem treeRows_lifted (os : Os) (started : os.Started) (H : Type) (enc : TypeId × Value → H) :
 ReturnsInHanded {} Try.checked os 7 .any (Rows.treeRowsSpec.pre6 enc Try.prog Try.f7 Rows.treeRowsRow.domain false) (Rows.treeRowsSpec.post enc Try.prog Try.f7 false true false false) := by
 refine returnsInHanded_of_change (C := Try.checked) own started (by kernel_rfl) Try.func7
  (ChangeSpec.witness6 (enc := enc) (C := Try.checked) false ⟨#[], #[.slice none 0 0], []⟩ 8 (by kernel_rfl) (by kernel_rfl) (by kernel_rfl) (by kernel_rfl)) ?_
 intro W base args ds gs before hval0 hW _ _
 have hval : ∀ (j : Nat) t v, Try.f7.params[j]? = some t → args[j]? = some v → Value.okWide Try.prog W .any base t v := hval0
 have hW' := hW
 obtain ⟨p, q, hA0, hV, rfl, hfz, hnd⟩ := hW
 have hA : DataW.TrodAll enc Try.prog W 0 (fun _ => true) true Try.f7.params.toList args.toList ds p := hA0
 rw [Try.params7] at hA hval
 obtain ⟨v0, vs0, d0, ds0, p0, q0, hargs, rfl, rfl, h0, r0⟩ := trodAll_cons hA
 obtain ⟨rfl, rfl, rfl⟩ := trodAll_nil r0
 obtain rfl : args = #[v0] := by cases args; simp_all
 obtain ⟨rfl, rfl⟩ := trodVars_none hV
 obtain ⟨ks0, e0⟩ := open_Kids (hval 0 25 _ rfl rfl) h0
 clear hA0 hval0
 refine (treeRows_walk W ks0 e0).mono fun e W' ⟨he, hg⟩ => ?_
 subst he
 exact ⟨_, rfl, law_post hW' rfl rfl (by kernel_rfl) (by kernel_rfl) hg⟩

theorem treeRows_over : Rows.treeRowsRow.holds Try.pinned (OpenSpec.ofChange Rows.treeRowsSpec) :=
 OpenClaim.holds_of_wide 7 Try.f7 rfl rfl rfl rfl rfl rfl rfl ⟨rfl, rfl, rfl, rfl, rfl⟩ rfl rfl rfl rfl rfl (by kernel_rfl) Try.func7 (by kernel_rfl)
  (of_decide_eq_true (by kernel_rfl)) (by unfold Func.isWrapper; first | (rw [if_pos (by decide +kernel)]; kernel_rfl) | (rw [if_neg (by decide +kernel)]; exact ⟨rfl, rfl⟩))
  (fun os started H enc _ => treeRows_lifted os started H enc)

theorem treeRows_proved : Rows.TreeRowsSaid := treeRows_over

end Go.Proofs.Ytceplnfjlncekaa
