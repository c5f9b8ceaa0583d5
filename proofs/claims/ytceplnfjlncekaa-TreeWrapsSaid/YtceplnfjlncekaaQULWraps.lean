/-
  WHAT: a list around trees is one deeper than the deepest, and has one more (TreeWraps).
  FOR EVERY INPUT: no condition.
-/
import Derived.Test.YtceplnfjlncekaaQTOpen
import Derived.Test.YtceplnfjlncekaaQTFew
import Derived.Test.YtceplnfjlncekaaQUKnown
namespace Go.Proofs.Ytceplnfjlncekaa
set_option linter.unusedSimpArgs false
set_option linter.unusedVariables false
open Go.ChangeShapes Go.WideShapes Go.ChangeAt Go.RowKit

namespace M
theorem fewN_dep (t : T) : ∀ {m : Nat}, fewN t m = true → dep t ≤ m := by
 refine T.indA (P := fun t => ∀ {m : Nat}, fewN t m = true → dep t ≤ m) (fun l tk ks ih m h => ?_) t
 rw [fewN, Bool.and_eq_true, Bool.and_eq_true, Bool.and_eq_true, decide_eq_true_iff] at h
 rw [dep]
 have key : ∀ (qs : List T) (b : Nat), (∀ t ∈ qs, dep t ≤ b) → deps qs ≤ b := by
  intro qs b
  induction qs with
  | nil => intro _; simp [deps]
  | cons x r ihq =>
   intro hx
   have a := hx x (by simp)
   have c := ihq fun t ht => hx t (by simp [ht])
   rw [deps]; omega
 split
 ·have := key ks (m - 1) fun t ht => by
   obtain ⟨k, hk⟩ := List.mem_iff_getElem?.1 ht
   exact ih k t hk (fewNs_at h.2.2.2 hk)
  have := h.1
  omega
 ·omega
/-- What the loop has seen of trees. -/
def okW (ks : List T) : Prop := ∀ t ∈ ks, fewN t 30 = true ∧ isU t = true ∧ cnt t ≤ 50
theorem okW_snoc {ks : List T} {k : Nat} {t : T} (h : okW (ks.take k)) (hk : ks[k]? = some t) (h1 : fewN t 30 = true) (h2 : isU t = true) (h3 : cnt t ≤ 50) : okW (ks.take (k + 1)) := by
 intro u hu
 rw [List.take_add_one, hk, List.mem_append] at hu
 rcases hu with hu | hu
 ·exact h u hu
 ·simp at hu; subst hu; exact ⟨h1, h2, h3⟩
theorem okW_cnts : ∀ {ks : List T}, okW ks → cnts ks ≤ ks.length * 50
 | [], _ => by simp [cnts]
 | x :: r, h => by
  have := okW_cnts (ks := r) fun t ht => h t (by simp [ht])
  have := (h x (by simp)).2.2
  rw [cnts]; simp; omega
theorem okW_deps : ∀ {ks : List T}, okW ks → deps ks ≤ 30
 | [], _ => by simp [deps]
 | x :: r, h => by
  have := okW_deps (ks := r) fun t ht => h t (by simp [ht])
  have := fewN_dep x (h x (by simp)).1
  rw [deps]; omega
theorem okW_form {ks : List T} (h : okW ks) : formTs ks = true := formTs_of fun t ht => (isU_parts (h t ht).2.1).2.2
theorem okW_txt {ks : List T} (h : okW ks) : txtNs ks = true := txtNs_of fun k t hk => txtN_few t (h t (List.mem_of_getElem? hk)).1
theorem wrap_isU {ks : List T} (h : okW ks) (hl : ks.length ≤ 6) : isU (.mk true (0, []) ks) = true := by
 have h1 := okW_cnts h
 have h2 := okW_deps h
 unfold isU
 rw [cnt, dep, formT, okW_form h]
 simp; omega
theorem spoilt_isU (ks : List T) : isU (.mk true (0, [120]) ks) = false := by
 unfold isU
 rw [formT]
 simp
theorem spoilt_same (ks : List T) : sameT (.mk true (0, []) ks) (.mk true (0, [120]) ks) = false := by
 rw [sameT]
 simp [T.tok]
end M
set_option maxHeartbeats 16000000 in
set_option maxRecDepth 100000 in
theorem treeWraps_walk (W : World) {v : Value} (ks : List M.T) (hks : Kids W ks v) : Calls Try.prog 8 #[v] W (GivesB W true) := by
 obtain ⟨A, c, rfl⟩ := hks.shape
 obtain ⟨hl1, hl2, hl3⟩ := hks.le
 have hl4 : c ≤ 9223372036854775807 := by unfold maxLen at hl3; omega
 obtain ⟨p, hp⟩ : ∃ p, ks.length = p := ⟨_, rfl⟩
 rw [hp] at hks hl2 ⊢
 have HK := hid hks
 have HP := hid hp
 clear hks hp hl1 hl3
 rcases Nat.lt_or_ge 6 p with h6 | h6
 ·have hq : 6 < (p : Int) := by omega
  go_enter Try.func8, Try.ntmps8
  go_wp2_with fail
  refine (known9_n _).mono ?_
  rintro e w1 ⟨rfl, hb⟩
  have E := hid hb
  clear hb
  go_wp2
  go_ret
  exact ⟨rfl, E.out⟩
 have hq : decide (6 < (p : Int)) = false := by simp; omega
 go_enter Try.func8, Try.ntmps8
 go_wp2_with fail
 refine (known9_n _).mono ?_
 rintro e w1 ⟨rfl, hb⟩
 have E1 := hid hb
 clear hb
 go_wp2_with fail
 go_loopw [3, 4, 5] (fun a b i wr => ∃ (k n s : Nat), a = .int .i64 (n : Int) ∧ b = .int .i64 (s : Int) ∧ i = .int .i64 (k : Int) ∧ k ≤ p ∧ n ≤ 301 ∧ s ≤ 30 ∧ Hid (n = 1 + M.cnts (ks.take k) ∧ s = M.deps (ks.take k) ∧ M.okW (ks.take k) ∧ Ext W wr)) (fun _ _ i _ => p - (intOf i).toNat)
 case atStart => exact ⟨0, 1, 0, rfl, rfl, rfl, Nat.zero_le _, by omega, by omega, by simp [M.cnts], by simp [M.deps], fun t ht => by simp at ht, E1.out⟩
 case round =>
  obtain ⟨k, n, s, rfl, rfl, rfl, hk, hn3, hs3, hR⟩ := hrel
  have E := hid hR.out.2.2.2
  have HS := hid hR.out
  clear hR
  rcases Nat.lt_or_ge k p with hlt | hge
  ·have hlt' : (k : Int) < (p : Int) := by omega
   obtain ⟨ad, u, B, d, rfl, hu, c0, c1, c2, c3, hv⟩ := (HK.out.up E.out).get hlt
   have HU := hid hu
   have HV := hid hv
   obtain ⟨L, hL⟩ : ∃ L, u.list = L := ⟨_, rfl⟩
   obtain ⟨TK, hTK⟩ : ∃ TK, u.tok = TK := ⟨_, rfl⟩
   obtain ⟨NK, hNK⟩ : ∃ NK, u.kids.length = NK := ⟨_, rfl⟩
   have HV2 := hid (show IsT wr u (tv L TK B NK d) by rw [← hL, ← hTK, ← hNK]; exact hv)
   rw [hL] at c0
   rw [hTK] at c1 c2
   rw [hNK] at c3
   clear hu hv hL hTK hNK HV
   obtain ⟨f, hf⟩ : ∃ f, M.fewN u 30 = f := ⟨_, rfl⟩
   have HF := hid (fewTree_n u HV2.out (m := 30) (by omega))
   have HFV := hid hf
   rw [hf] at HF
   clear hf
   cases f
   ·go_wp2_with (go_at_call 14; refine HF.out.mono ?_; rintro e w' ⟨rfl, hb⟩; replace E := hid (E.out.trans hb); clear hb)
    go_ret
    exact ⟨rfl, E.out⟩
   obtain ⟨z, hz⟩ : ∃ z, M.isU u = z := ⟨_, rfl⟩
   have HI := hid (show ∀ w', Ext wr w' → Calls Try.prog 15 #[tv L TK B NK d] w' (GivesB w' z) from fun w' e => by have := is_t u (HV2.out.up e) (M.txtN_few u HFV.out); rwa [hz] at this)
   have HZ := hid hz
   clear hz
   cases z
   ·have EW := hid (Ext.refl wr)
    go_wp2_with (first | (go_at_call 14; refine HF.out.mono ?_; rintro e w' ⟨rfl, hb⟩; replace EW := hid hb; replace c0 := hb.cell c0; replace c1 := hb.cell c1; replace c2 := hb.cell c2; replace c3 := hb.cell c3; clear hb) | (go_at_call 15; refine (HI.out _ EW.out).mono ?_; rintro e w' ⟨rfl, hb⟩; replace EW := hid (EW.out.trans hb); clear hb))
    go_ret
    exact ⟨rfl, E.out.trans EW.out⟩
   obtain ⟨q, hq'⟩ : ∃ q, min (M.cnt u) 401 = q := ⟨_, rfl⟩
   have HC := hid (show ∀ w', Ext wr w' → Calls Try.prog 17 #[tv L TK B NK d] w' (GivesI w' (q : Int)) from fun w' e => by have := count_t u (HV2.out.up e); rwa [hq'] at this)
   have hq401 : q ≤ 401 := by omega
   have HQ := hid hq'
   clear hq'
   have EW := hid (Ext.refl wr)
   rcases Nat.lt_or_ge 50 q with h50 | h50
   ·have hq50 : 50 < (q : Int) := by omega
    go_wp2_with (first | (go_at_call 14; refine HF.out.mono ?_; rintro e w' ⟨rfl, hb⟩; replace EW := hid hb; replace c0 := hb.cell c0; replace c1 := hb.cell c1; replace c2 := hb.cell c2; replace c3 := hb.cell c3; clear hb) | (go_at_call 15; refine (HI.out _ EW.out).mono ?_; rintro e w' ⟨rfl, hb⟩; replace EW := hid (EW.out.trans hb); replace c0 := hb.cell c0; replace c1 := hb.cell c1; replace c2 := hb.cell c2; replace c3 := hb.cell c3; clear hb) | (go_at_call 17; refine (HC.out _ EW.out).mono ?_; rintro e w' ⟨rfl, hb⟩; replace EW := hid (EW.out.trans hb); clear hb))
    go_ret
    exact ⟨rfl, E.out.trans EW.out⟩
   ·have hq50 : decide (50 < (q : Int)) = false := by simp; omega
    have HCU := hid (show M.cnt u = q by have := HQ.out; omega)
    have HOK := hid (M.okW_snoc HS.out.2.2.1 HU.out HFV.out HZ.out (by have := HCU.out; omega))
    obtain ⟨x, hx⟩ : ∃ x, min (M.dep u) 61 = x := ⟨_, rfl⟩
    have HD := hid (show ∀ w', Ext wr w' → Calls Try.prog 19 #[tv L TK B NK d] w' (GivesI w' (x : Int)) from fun w' e => by have := deep_t u (HV2.out.up e); rwa [hx] at this)
    have hdu := M.fewN_dep u HFV.out
    have HDU := hid (show M.dep u = x by omega)
    have hx30 : x ≤ 30 := by omega
    have hny : n + q ≤ 301 := by
     have h1 := M.okW_cnts HOK.out
     have h2 := M.cnts_take HU.out
     have h3 := HS.out.1
     have h4 := HCU.out
     have h5 : (ks.take (k + 1)).length ≤ 6 := by rw [List.length_take]; omega
     have h6 : (ks.take (k + 1)).length * 50 ≤ 300 := by omega
     omega
    obtain ⟨y, hy⟩ : ∃ y, n + q = y := ⟨_, rfl⟩
    have hyi : (n : Int) + (q : Int) = (y : Int) := by omega
    have hy3 : y ≤ 301 := by omega
    have hyw : IntKind.i64.wrap (y : Int) = (y : Int) := by rw [IntKind.wrap_i64]; omega
    have HY := hid hy
    clear hx hdu hny hy
    go_wp2_with (first | (go_at_call 14; refine HF.out.mono ?_; rintro e w' ⟨rfl, hb⟩; replace EW := hid hb; replace c0 := hb.cell c0; replace c1 := hb.cell c1; replace c2 := hb.cell c2; replace c3 := hb.cell c3; clear hb) | (go_at_call 15; refine (HI.out _ EW.out).mono ?_; rintro e w' ⟨rfl, hb⟩; replace EW := hid (EW.out.trans hb); replace c0 := hb.cell c0; replace c1 := hb.cell c1; replace c2 := hb.cell c2; replace c3 := hb.cell c3; clear hb) | (go_at_call 17; refine (HC.out _ EW.out).mono ?_; rintro e w' ⟨rfl, hb⟩; replace EW := hid (EW.out.trans hb); replace c0 := hb.cell c0; replace c1 := hb.cell c1; replace c2 := hb.cell c2; replace c3 := hb.cell c3; clear hb))
    replace HC := hid (fun w' (e : Ext _ w') => HC.out w' (EW.out.trans e))
    replace HD := hid (fun w' (e : Ext _ w') => HD.out w' (EW.out.trans e))
    refine wp_region_D [(0, 0), (1, 0), (2, 0), (3, 0), (4, 0), (7, 0), (8, 0), (9, 0), (10, 0), (11, 0), (5, 1), (6, 0), (12, 1), (13, 0), (14, 0), (15, 0)] fun wd hb => ?_
    have E6 := hid hb
    clear hb
    refine WE.p 42 (.int .i64 (n : Int)) ?_
    simp only [Act.put, pA, pB, pC]
    refine WE.p 43 (.slice (some ad) p c) ?_
    simp only [Act.put, pA, pB, pC]
    refine WE.p 44 (.int .i64 (k : Int)) ?_
    simp only [Act.put, pA, pB, pC]
    refine WE.p 45 (.pointer (some (ad.add (k * 4)))) ?_
    simp only [Act.put, pA, pB, pC]
    refine WE.q 46 (tv L TK B NK d) rfl (fun w' hk => by have x0 := hk.cell (E6.out.cell c0); have x1 := hk.cell (E6.out.cell c1); have x2 := hk.cell (E6.out.cell c2); have x3 := hk.cell (E6.out.cell c3); go_simp) ?_
    simp only [Act.put, pA, pB, pC]
    refine WE.p 49 (.int .i64 (s : Int)) ?_
    simp only [Act.put, pA, pB, pC]
    refine WE.p 50 (.slice (some ad) p c) ?_
    simp only [Act.put, pA, pB, pC]
    refine WE.p 51 (.int .i64 (k : Int)) ?_
    simp only [Act.put, pA, pB, pC]
    refine WE.p 52 (.pointer (some (ad.add (k * 4)))) ?_
    simp only [Act.put, pA, pB, pC]
    refine WE.q 53 (tv L TK B NK d) rfl (fun w' hk => by have x0 := hk.cell (E6.out.cell c0); have x1 := hk.cell (E6.out.cell c1); have x2 := hk.cell (E6.out.cell c2); have x3 := hk.cell (E6.out.cell c3); go_simp) ?_
    simp only [Act.put, pA, pB, pC]
    refine WE.c 47 ((HC.out _ E6.out).mono ?_)
    rintro e w6 ⟨rfl, hb6⟩
    refine ⟨_, rfl, hb6, ?_⟩
    replace E6 := hid (E6.out.trans hb6)
    clear hb6
    simp only [Act.put, pA, pB, pC]
    refine WE.p 48 (.int .i64 (y : Int)) ?_
    simp only [Act.put, pA, pB, pC]
    refine WE.c 54 ((HD.out _ E6.out).mono ?_)
    rintro e w6 ⟨rfl, hb6⟩
    refine ⟨_, rfl, hb6, ?_⟩
    replace E6 := hid (E6.out.trans hb6)
    clear hb6
    simp only [Act.put, pA, pB, pC]
    refine WE.p 55 (.int .i64 (max (s : Int) (x : Int))) ?_
    simp only [Act.put, pA, pB, pC]
    refine WE.p 3 (.int .i64 (y : Int)) ?_
    simp only [Act.put, pA, pB, pC]
    refine WE.p 4 (.int .i64 (max (s : Int) (x : Int))) ?_
    simp only [Act.put, pA, pB, pC]
    refine WE.done ?_
    go_wp2_with fail
    go_roundw
    case rel => exact ⟨k + 1, y, max s x, rfl, by simp <;> omega, by simp, by omega, by omega, by omega, by
     have h1 := HS.out.1
     have h2 := M.cnts_take HU.out
     have h3 := HCU.out
     have h4 := HY.out
     omega, by rw [M.deps_take HU.out, HDU.out, ← HS.out.2.1], HOK.out, (E.out.trans EW.out).trans E6.out⟩
    case measure => simp [intOf]; omega
  ·obtain rfl : k = p := by omega
   have hall : ks.take k = ks := by rw [← HP.out, List.take_length]
   have HS1 := hid (show n = 1 + M.cnts ks by have := HS.out.1; rwa [hall] at this)
   have HS2 := hid (show s = M.deps ks by have := HS.out.2.1; rwa [hall] at this)
   have hok : M.okW ks := by have := HS.out.2.2.1; rwa [hall] at this
   have HOK := hid hok
   have hU := M.wrap_isU hok (by rw [HP.out]; omega)
   have HUU := hid hU
   have HT : Hid (∀ w', Ext wr w' → IsT w' (.mk true (0, []) ks) (tv true (0, []) A k c)) := hid fun w' e => by rw [← HP.out]; exact ⟨A, c, rfl, by rw [show (M.T.mk true (0, []) ks).kids.length = k from HP.out]; exact HK.out.up (E.out.trans e)⟩
   have HT2 : Hid (∀ w', Ext wr w' → IsT w' (.mk true (0, [120]) ks) (tv true (0, [120]) A k c)) := hid fun w' e => by rw [← HP.out]; exact ⟨A, c, rfl, by rw [show (M.T.mk true (0, [120]) ks).kids.length = k from HP.out]; exact HK.out.up (E.out.trans e)⟩
   have hcn : M.cnt (.mk true (0, []) ks) = n := by rw [M.cnt, HS1.out]
   have hdp : M.dep (.mk true (0, []) ks) = s + 1 := by rw [M.dep, HS2.out]; simp; omega
   obtain ⟨s1, hs1⟩ : ∃ s1, s + 1 = s1 := ⟨_, rfl⟩
   have hsi : (s : Int) + 1 = (s1 : Int) := by omega
   have hs31 : s1 ≤ 31 := by omega
   have HW := hid (fun w' e => words_t _ (HT.out w' e) (by have := M.wds_le hU; omega))
   have HI1 := hid (show ∀ w', Ext wr w' → Calls Try.prog 15 #[tv true (0, []) A k c] w' (GivesB w' true) from fun w' e => by have := is_t _ (HT.out w' e) (by rw [M.txtN, M.okW_txt HOK.out]; rfl); rwa [HUU.out] at this)
   have HI2 := hid (show ∀ w', Ext wr w' → Calls Try.prog 15 #[tv true (0, [120]) A k c] w' (GivesB w' false) from fun w' e => by have := is_t _ (HT2.out w' e) (by rw [M.txtN, M.okW_txt HOK.out]; rfl); rwa [M.spoilt_isU] at this)
   have HC := hid (show ∀ w', Ext wr w' → Calls Try.prog 17 #[tv true (0, []) A k c] w' (GivesI w' (n : Int)) from fun w' e => by have := count_t _ (HT.out w' e); rwa [hcn, show min n 401 = n by omega] at this)
   have HD := hid (show ∀ w', Ext wr w' → Calls Try.prog 19 #[tv true (0, []) A k c] w' (GivesI w' (s1 : Int)) from fun w' e => by have := deep_t _ (HT.out w' e); rwa [hdp, hs1, show min s1 61 = s1 by omega] at this)
   have HSM := hid (show ∀ w', Ext wr w' → Calls Try.prog 24 #[tv true (0, []) A k c, tv true (0, [120]) A k c] w' (GivesB w' false) from fun w' e => by have := same_t _ (HT.out w' e) (HT2.out w' e); rwa [M.spoilt_same] at this)
   have hwl : M.wds (.mk true (0, []) ks) = (1, []) :: (M.wdss ks ++ [(2, [])]) := by rw [M.wds]; rfl
   obtain ⟨LW, hLW⟩ : ∃ LW, M.wds (.mk true (0, []) ks) = LW := ⟨_, rfl⟩
   rw [hLW] at HW hwl
   have HLW := hid hwl
   clear hall hok hU hcn hdp hs1 hwl hLW HS
   go_wp2_with fail
   refine (HW.out _ (Ext.alloc _ _)).mono ?_
   rintro e w2 ⟨v2, rfl, hv2, hb2⟩
   obtain ⟨b0, b1, b2, b3, hz⟩ := box4 hb2
   have HBX := hid ((Box.new wr #[.bool true, .int .i64 0, .string ⟨#[]⟩, .slice A k c] 35).up hb2)
   obtain ⟨A2, d2, rfl⟩ := hv2.shape
   have HV2 := hid hv2
   have E2 := hid ((Ext.alloc wr _).trans hb2)
   clear hv2 hb2
   go_wp2_with fail
   obtain ⟨wB, hwB⟩ : ∃ wB, w2.alloc (.cells #[.bool true, .int .i64 0, .string ⟨#[120]⟩, .slice A k c] 35) = wB := ⟨_, rfl⟩
   obtain ⟨g1, hg1⟩ : ∃ g1, wr.heap.size = g1 := ⟨_, rfl⟩
   obtain ⟨g2, hg2⟩ : ∃ g2, w2.heap.size = g2 := ⟨_, rfl⟩
   have hXB : Ext w2 wB := by rw [← hwB]; exact Ext.alloc _ _
   have hB2 : Box wB g2 #[.bool true, .int .i64 0, .string ⟨#[120]⟩, .slice A k c] 35 := by rw [← hwB, ← hg2]; exact Box.new _ _ _
   have hB1 := HBX.out.up hXB
   rw [hg1] at hB1
   have s0 := hB1.k 0 (v := .bool true)
   have s1' := hB1.k 1 (v := .int .i64 0)
   have s2 := hB1.k 2 (v := .string ⟨#[]⟩)
   have s3 := hB1.k 3 (v := .slice A k c)
   have q0 := hB2.k 0 (v := .bool true)
   have q1 := hB2.k 1 (v := .int .i64 0)
   have q2 := hB2.k 2 (v := .string ⟨#[120]⟩)
   have q3 := hB2.k 3 (v := .slice A k c)
   have hlen : 2 ≤ LW.length := by rw [HLW.out]; simp
   obtain ⟨ad2, t0, rfl, ht0, l0, -⟩ := TList.get (HV2.out.up hXB) (k := 0) (by omega)
   obtain ⟨ad3, t1, had, ht1, l1, -⟩ := TList.get (HV2.out.up hXB) (k := LW.length - 1) (by omega)
   injection had with had
   subst had
   have e0 : t0 = (1, []) := by rw [HLW.out] at ht0; simpa using ht0.symm
   have e1 : t1 = (2, []) := by
    rw [HLW.out] at ht1
    have : ((1, []) :: (M.wdss ks ++ [(2, [])]) : List M.Tok)[((1, []) :: (M.wdss ks ++ [(2, [])]) : List M.Tok).length - 1]? = some (2, []) := by
     rw [← List.getLast?_eq_getElem?, ← List.cons_append, List.getLast?_append]
     simp
    rw [this] at ht1
    exact (Option.some.inj ht1).symm
   rw [e0, Nat.zero_mul, Addr.add_zero'] at l0
   rw [e1] at l1
   obtain ⟨N2, hN2⟩ : ∃ N2, LW.length = N2 := ⟨_, rfl⟩
   obtain ⟨N3, hN3⟩ : ∃ N3, N2 - 1 = N3 := ⟨_, rfl⟩
   rw [hN2, hN3] at l1
   rw [hN2] at hlen
   have hNi : (N2 : Int) - 1 = (N3 : Int) := by omega
   have hN2i : (2 : Int) ≤ (N2 : Int) := by omega
   have hN32 : N3 < N2 := by omega
   have hN32i : (N3 : Int) < (N2 : Int) := by omega
   have hd2 : d2 ≤ 9223372036854775807 ∧ N2 ≤ d2 := by
    obtain ⟨A', n', c', e, h2, h3, h4, _⟩ := HV2.out
    injection e with e1 e2 e3
    subst e3
    unfold maxLen at h4
    omega
   obtain ⟨hd9, hd8⟩ := hd2
   rw [hN2]
   have HWB := hid hwB
   have HG2 := hid hg2
   have HG1 := hid hg1
   have EW := hid (E2.out.trans hXB)
   clear hXB hB2 hB1 ht0 ht1 e0 e1 hN2 hN3 hwB hg1 hg2 b0 b1 b2 b3 HBX HV2
   rw [HWB.out, HG2.out, HG1.out]
   refine (HI1.out _ EW.out).mono ?_
   rintro e w' ⟨rfl, hx⟩
   replace EW := hid (EW.out.trans hx)
   replace s0 := hx.cell s0
   replace s1' := hx.cell s1'
   replace s2 := hx.cell s2
   replace s3 := hx.cell s3
   replace q0 := hx.cell q0
   replace q1 := hx.cell q1
   replace q2 := hx.cell q2
   replace q3 := hx.cell q3
   replace l0 := hx.cell l0
   replace l1 := hx.cell l1
   clear hx
   go_wp2_with (first | (go_at_call 17; refine (HC.out _ EW.out).mono ?_; rintro e w' ⟨rfl, hx⟩; replace EW := hid (EW.out.trans hx); replace s0 := hx.cell s0; replace s1' := hx.cell s1'; replace s2 := hx.cell s2; replace s3 := hx.cell s3; replace q0 := hx.cell q0; replace q1 := hx.cell q1; replace q2 := hx.cell q2; replace q3 := hx.cell q3; replace l0 := hx.cell l0; replace l1 := hx.cell l1; clear hx) | (go_at_call 19; refine (HD.out _ EW.out).mono ?_; rintro e w' ⟨rfl, hx⟩; replace EW := hid (EW.out.trans hx); replace s0 := hx.cell s0; replace s1' := hx.cell s1'; replace s2 := hx.cell s2; replace s3 := hx.cell s3; replace q0 := hx.cell q0; replace q1 := hx.cell q1; replace q2 := hx.cell q2; replace q3 := hx.cell q3; replace l0 := hx.cell l0; replace l1 := hx.cell l1; clear hx) | (go_at_call 15; refine (HI2.out _ EW.out).mono ?_; rintro e w' ⟨rfl, hx⟩; replace EW := hid (EW.out.trans hx); replace s0 := hx.cell s0; replace s1' := hx.cell s1'; replace s2 := hx.cell s2; replace s3 := hx.cell s3; replace q0 := hx.cell q0; replace q1 := hx.cell q1; replace q2 := hx.cell q2; replace q3 := hx.cell q3; replace l0 := hx.cell l0; replace l1 := hx.cell l1; clear hx) | (go_at_call 24; refine (HSM.out _ EW.out).mono ?_; rintro e w' ⟨rfl, hx⟩; replace EW := hid (EW.out.trans hx); replace s0 := hx.cell s0; replace s1' := hx.cell s1'; replace s2 := hx.cell s2; replace s3 := hx.cell s3; replace q0 := hx.cell q0; replace q1 := hx.cell q1; replace q2 := hx.cell q2; replace q3 := hx.cell q3; replace l0 := hx.cell l0; replace l1 := hx.cell l1; clear hx))
   go_ret
   exact ⟨rfl, E.out.trans EW.out⟩

set_option maxRecDepth 100000 in
theorem treeWraps_lifted (os : Os) (started : os.Started) (H : Type) (enc : TypeId × Value → H) :
 ReturnsInHanded {} Try.checked os 8 .any (Rows.treeWrapsSpec.pre6 enc Try.prog Try.f8 Rows.treeWrapsRow.domain false) (Rows.treeWrapsSpec.post enc Try.prog Try.f8 false true false false) := by
 refine returnsInHanded_of_change (C := Try.checked) own started (by kernel_rfl) Try.func8
  (ChangeSpec.witness6 (enc := enc) (C := Try.checked) false ⟨#[], #[.slice none 0 0], []⟩ 8 (by kernel_rfl) (by kernel_rfl) (by kernel_rfl) (by kernel_rfl)) ?_
 intro W base args ds gs before hval0 hW _ _
 have hval : ∀ (j : Nat) t v, Try.f8.params[j]? = some t → args[j]? = some v → Value.okWide Try.prog W .any base t v := hval0
 have hW' := hW
 obtain ⟨p, q, hA0, hV, rfl, hfz, hnd⟩ := hW
 have hA : DataW.TrodAll enc Try.prog W 0 (fun _ => true) true Try.f8.params.toList args.toList ds p := hA0
 rw [Try.params8] at hA hval
 obtain ⟨v0, vs0, d0, ds0, p0, q0, hargs, rfl, rfl, h0, r0⟩ := trodAll_cons hA
 obtain ⟨rfl, rfl, rfl⟩ := trodAll_nil r0
 obtain rfl : args = #[v0] := by cases args; simp_all
 obtain ⟨rfl, rfl⟩ := trodVars_none hV
 obtain ⟨ks0, e0⟩ := open_Kids (hval 0 25 _ rfl rfl) h0
 clear hA0 hval0
 refine (treeWraps_walk W ks0 e0).mono fun e W' ⟨he, hg⟩ => ?_
 subst he
 exact ⟨_, rfl, law_post hW' rfl rfl (by kernel_rfl) (by kernel_rfl) hg⟩

theorem treeWraps_over : Rows.treeWrapsRow.holds Try.pinned (OpenSpec.ofChange Rows.treeWrapsSpec) :=
 OpenClaim.holds_of_wide 8 Try.f8 rfl rfl rfl rfl rfl rfl rfl ⟨rfl, rfl, rfl, rfl, rfl⟩ rfl rfl rfl rfl rfl (by kernel_rfl) Try.func8 (by kernel_rfl)
  (of_decide_eq_true (by kernel_rfl)) (by unfold Func.isWrapper; first | (rw [if_pos (by decide +kernel)]; kernel_rfl) | (rw [if_neg (by decide +kernel)]; exact ⟨rfl, rfl⟩))
  (fun os started H enc _ => treeWraps_lifted os started H enc)

theorem treeWraps_proved : Rows.TreeWrapsSaid := treeWraps_over

end Go.Proofs.Ytceplnfjlncekaa
