/-
  The reference of package value: Same, SameArgs: alike to the last limb.
-/
import Derived.Test.YtkhmgdfhggejaaaGreatDoorWVF
import Derived.Test.YtkhmgdfhggejaaaGreatDoorWJKB
import Derived.Test.YtkhmgdfhggejaaaGreatDoorWJKL
import Derived.Test.YtkhmgdfhggejaaaGreatDoorWVE
import Derived.Test.YtkhmgdfhggejaaaGreatDoorWVJ
namespace Go.Proofs.YtkhmgdfhggejaaaGreatDoor.Q
set_option linter.unusedSimpArgs false
set_option linter.unusedVariables false
open Go.RowKit

set_option maxHeartbeats 2000000 in
theorem rSame_v {x y : M.Vl} {u v : Value} {w : World} (h : IsVl w x u) (k : IsVl w y v) : Calls Tryz.prog 54 #[u, v] w (GivesB w (decide (x = y))) := by
 obtain ⟨s, g, ls⟩ := x
 obtain ⟨s', g', ls'⟩ := y
 obtain ⟨N, nn, nc, rfl, hn⟩ := h
 obtain ⟨N', nn', nc', rfl, hn'⟩ := k
 obtain ⟨q, hq⟩ : ∃ q, decide (g = g' ∧ ls = ls') = q := ⟨_, rfl⟩
 have HZ := hid (show decide ((s, g, ls) = (s', g', ls')) = (decide (s = s') && q) by
  rw [← hq, Bool.eq_iff_iff]
  simp)
 have HS := hid (show ∀ w', Ext w w' → Calls Tryz.prog 15 #[.agg #[.bool g, .slice N nn nc], .agg #[.bool g', .slice N' nn' nc']] w' (GivesB w' q) from fun w' e => hq ▸ requal_n (LNum.up hn e) (LNum.up hn' e))
 rw [HZ.out]
 clear hq hn hn' HZ
 show Calls Tryz.prog 54 #[vv s g N nn nc, vv s' g' N' nn' nc'] w _
 have hb := (Box.new w #[.int .i64 s, .bool g, .slice N nn nc] 38).alloc (.cells #[.int .i64 s', .bool g', .slice N' nn' nc'] 38)
 have hb' := Box.at_ (w := w.alloc (.cells #[.int .i64 s, .bool g, .slice N nn nc] 38)) (g := w.heap.size + 1) #[.int .i64 s', .bool g', .slice N' nn' nc'] 38 (by simp)
 obtain ⟨⟨c0, c1, c2⟩, -, -⟩ := box3v hb
 obtain ⟨⟨d0, d1, d2⟩, -, -⟩ := box3v hb'
 clear hb hb'
 by_cases hs : s = s'
 ·subst hs
  have hbb : (s == s) = true := by simp
  rw [show decide (s = s) = true by simp]
  go_enter Tryz.func54, Tryz.ntmps54
  go_wp2_with fail
  refine (HS.out _ (alloc_two w _ _)).mono ?_
  rintro e w1 ⟨rfl, hx⟩
  have E := hid hx
  clear hx c0 c1 c2 d0 d1 d2 HS
  go_wp2
  go_ret
  exact ⟨by rw [Bool.true_and]; rfl, (alloc_two w _ _).trans E.out⟩
 ·have hbb : (s == s') = false := by simpa using hs
  rw [show decide (s = s') = false by simpa using hs]
  clear HS hs
  go_enter Tryz.func54, Tryz.ntmps54
  go_wp2
  go_ret
  exact ⟨rfl, alloc_two w _ _⟩
theorem M.take_next {α : Type} {l s : List α} {k : Nat} {x y : α} (h : l.take k = s.take k) (hx : l[k]? = some x) (hy : s[k]? = some y) (e : x = y) : l.take (k + 1) = s.take (k + 1) := by
 rw [List.take_add_one, List.take_add_one, h, hx, hy, e]
set_option maxHeartbeats 4000000 in
theorem rSameArgs_v {l s : List M.Vl} {u v : Value} {w : World} (h : VList w u l) (hs : VList w v s) : Calls Tryz.prog 55 #[u, v] w (GivesB w (decide (l = s))) := by
 obtain ⟨A, n, c, rfl⟩ := h.shape
 obtain ⟨hn, hl2, hl3⟩ := h.count
 obtain ⟨B, m, d, rfl⟩ := hs.shape
 obtain ⟨hm, hm2, hm3⟩ := hs.count
 obtain ⟨R, hRR⟩ : ∃ R, decide (l = s) = R := ⟨_, rfl⟩
 rw [hRR]
 have HRR := hid hRR
 have HL := hid h
 have HS := hid hs
 have HN := hid hn.symm
 have HM := hid hm.symm
 clear h hs hRR hm hn
 by_cases hnm : n = m
 case neg =>
  have hne : ((n : Int) != (m : Int)) = true := by simp; omega
  have HF := hid (show R = false from HRR.out.symm.trans (decide_eq_false (fun e => hnm (by rw [← HN.out, ← HM.out, e]))))
  clear hnm
  go_enter Tryz.func55, Tryz.ntmps55
  go_wp2
  go_ret
  exact ⟨by rw [HF.out]; rfl, Ext.refl _⟩
 case pos =>
 subst hnm
 go_enter Tryz.func55, Tryz.ntmps55
 go_wp2_with fail
 go_loopw [5] (fun i wr => ∃ k : Nat, k ≤ n ∧ i = .int .i64 k ∧ Hid (l.take k = s.take k ∧ Ext w wr)) (fun i _ => n - (intOf i).toNat)
 case atStart => exact ⟨0, Nat.zero_le _, rfl, rfl, Ext.refl _⟩
 case round =>
  obtain ⟨k, hk, rfl, hR⟩ := hrel
  have E := hid hR.out.2
  have HT := hid hR.out.1
  clear hR
  rcases Nat.lt_or_ge k n with hlt | hge
  ·have hlt' : (k : Int) < (n : Int) := by omega
   obtain ⟨x, hx⟩ : ∃ x, l[k]? = some x := ⟨_, List.getElem?_eq_getElem (by rw [HN.out]; exact hlt)⟩
   obtain ⟨y, hy⟩ : ∃ y, s[k]? = some y := ⟨_, List.getElem?_eq_getElem (by rw [HM.out]; exact hlt)⟩
   obtain ⟨ad, N, nn, nc, rfl, ⟨c0, c1, c2⟩, hv⟩ := (HL.out.up E.out).at_ hx
   obtain ⟨bd, N', nn', nc', rfl, ⟨e0, e1, e2⟩, hv'⟩ := (HS.out.up E.out).at_ hy
   have HX := hid hx
   have HY := hid hy
   obtain ⟨q, hq⟩ : ∃ q, decide (x = y) = q := ⟨_, rfl⟩
   have HC := hid (show ∀ w', Ext wr w' → Calls Tryz.prog 54 #[vv x.1 x.2.1 N nn nc, vv y.1 y.2.1 N' nn' nc'] w' (GivesB w' q) from fun w' e => hq ▸ rSame_v (hv.up e) (hv'.up e))
   have HQ := hid hq
   have H1 := hid (And.intro c0 (And.intro c1 c2))
   have H2 := hid (And.intro e0 (And.intro e1 e2))
   clear hx hy hq hv hv' c0 c1 c2 e0 e1 e2
   go_wp2_with fail
   refine wp_region_D [(0, 0), (1, 0), (2, 0), (3, 0), (4, 0), (5, 0), (6, 0), (7, 0), (8, 1), (9, 0)] fun wd hb => ?_
   refine WE.p 17 (.slice (some ad) n c) ?_
   simp only [Act.put, pA, pB, pC]
   refine WE.p 18 (.int .i64 (k : Int)) ?_
   simp only [Act.put, pA, pB, pC]
   refine WE.q 19 (.pointer (some (ad.add (k * 3)))) rfl (fun w' hk => by go_simp) ?_
   simp only [Act.put, pA, pB, pC]
   refine WE.q 20 (vv x.1 x.2.1 N nn nc) rfl (fun w' hk => by have x0 := (hb.trans hk).cell H1.out.1; have x1 := (hb.trans hk).cell H1.out.2.1; have x2 := (hb.trans hk).cell H1.out.2.2; go_simp) ?_
   simp only [Act.put, pA, pB, pC]
   refine WE.p 21 (.slice (some bd) n d) ?_
   simp only [Act.put, pA, pB, pC]
   refine WE.p 22 (.int .i64 (k : Int)) ?_
   simp only [Act.put, pA, pB, pC]
   refine WE.q 23 (.pointer (some (bd.add (k * 3)))) rfl (fun w' hk => by go_simp) ?_
   simp only [Act.put, pA, pB, pC]
   refine WE.q 24 (vv y.1 y.2.1 N' nn' nc') rfl (fun w' hk => by have x0 := (hb.trans hk).cell H2.out.1; have x1 := (hb.trans hk).cell H2.out.2.1; have x2 := (hb.trans hk).cell H2.out.2.2; go_simp) ?_
   simp only [Act.put, pA, pB, pC]
   refine WE.c 25 ((HC.out _ hb).mono ?_)
   rintro e w5 ⟨rfl, hb5⟩
   refine ⟨_, rfl, hb5, ?_⟩
   replace E := hid ((E.out.trans hb).trans hb5)
   clear hb hb5 H1 H2 HC
   simp only [Act.put, pA, pB, pC]
   refine WE.p 26 (.bool (!q)) ?_
   simp only [Act.put, pA, pB, pC]
   refine WE.done ?_
   cases q
   ·have HF := hid (show R = false from HRR.out.symm.trans (decide_eq_false (fun e => by have h1 := HX.out; rw [e, HY.out] at h1; cases h1; exact of_decide_eq_false HQ.out rfl)))
    simp only [Bool.not_false]
    go_wp2
    go_ret
    exact ⟨by rw [HF.out]; rfl, E.out⟩
   ·simp only [Bool.not_true]
    go_wp2_with fail
    go_roundw
    case rel => exact ⟨k + 1, by omega, by simp, M.take_next HT.out HX.out HY.out (of_decide_eq_true HQ.out), E.out⟩
    case measure => simp [intOf]; omega
  ·obtain rfl : k = n := by omega
   have HF := hid (show R = true by have h1 := HT.out; rw [← HN.out, List.take_length, HN.out, ← HM.out, List.take_length] at h1; exact HRR.out.symm.trans (decide_eq_true h1))
   go_wp2
   go_ret
   exact ⟨by rw [HF.out]; rfl, E.out⟩
end Go.Proofs.YtkhmgdfhggejaaaGreatDoor.Q

/-
  The reference of package value: SameFuns: alike to the last limb.
-/
namespace Go.Proofs.YtkhmgdfhggejaaaGreatDoor.Q
set_option linter.unusedSimpArgs false
set_option linter.unusedVariables false
open Go.RowKit

/-- All that a function is. -/
def M.fkey (f : M.Fn) : M.Sg × M.Vl × List (List M.Vl × M.Vl) := (f.sg, f.els, f.rows)
theorem M.fkey_at {l s : List M.Fn} (h : l.map M.fkey = s.map M.fkey) {k : Nat} {f g : M.Fn} (hx : l[k]? = some f) (hy : s[k]? = some g) : f.sg = g.sg ∧ f.els = g.els ∧ f.rows = g.rows := by
 have h1 : (l.map M.fkey)[k]? = (s.map M.fkey)[k]? := by rw [h]
 rw [List.getElem?_map, List.getElem?_map, hx, hy] at h1
 simp only [Option.map_some, Option.some.injEq, M.fkey, Prod.mk.injEq] at h1
 exact ⟨h1.1, h1.2.1, h1.2.2⟩
theorem M.rkey_at {l s : List (List M.Vl × M.Vl)} (h : l = s) {k : Nat} {x y : List M.Vl × M.Vl} (hx : l[k]? = some x) (hy : s[k]? = some y) : x.1 = y.1 ∧ x.2 = y.2 := by
 rw [h, hy] at hx; cases hx; exact ⟨rfl, rfl⟩
theorem M.fkey_next {l s : List M.Fn} {k : Nat} {f g : M.Fn} (h : (l.take k).map M.fkey = (s.take k).map M.fkey) (hx : l[k]? = some f) (hy : s[k]? = some g) (e : M.fkey f = M.fkey g) : (l.take (k + 1)).map M.fkey = (s.take (k + 1)).map M.fkey := by
 rw [List.take_add_one, List.take_add_one, hx, hy, Option.toList_some, Option.toList_some, List.map_append, List.map_append, h, List.map_cons, List.map_cons, e]
instance M.vlDec : DecidableEq M.Vl := inferInstance
instance M.rwDec : DecidableEq (List M.Vl × M.Vl) := inferInstance
instance M.rwsDec : DecidableEq (List (List M.Vl × M.Vl)) := inferInstance
instance M.fkeyDec : DecidableEq (M.Sg × M.Vl × List (List M.Vl × M.Vl)) := inferInstance
set_option maxHeartbeats 40000000 in
set_option maxRecDepth 20000 in
theorem rSameFuns_v {l s : List M.Fn} {u v : Value} {w : World} (h : FnList w l u) (hs : FnList w s v) : Calls Tryz.prog 28 #[u, v] w (GivesB w (decide (l.map M.fkey = s.map M.fkey))) := by
 obtain ⟨A, c, rfl⟩ := h.shape
 obtain ⟨hn, hl2, hl3⟩ := h.le
 obtain ⟨B, d, rfl⟩ := hs.shape
 obtain ⟨hm, hm2, hm3⟩ := hs.le
 obtain ⟨R, hRR⟩ : ∃ R, decide (l.map M.fkey = s.map M.fkey) = R := ⟨_, rfl⟩
 rw [hRR]
 obtain ⟨n, hn'⟩ : ∃ n, l.length = n := ⟨_, rfl⟩
 obtain ⟨m, hm'⟩ : ∃ n, s.length = n := ⟨_, rfl⟩
 rw [hn'] at h hl2 ⊢
 rw [hm'] at hs hm2 ⊢
 have HRR := hid hRR
 have HL := hid h
 have HS := hid hs
 have HN := hid hn'
 have HM := hid hm'
 clear h hs hRR hm hn hn' hm'
 by_cases hnm : n = m
 case neg =>
  have hne : ((n : Int) != (m : Int)) = true := by simp; omega
  have HF := hid (show R = false from HRR.out.symm.trans (decide_eq_false (fun e => hnm (by have h1 := congrArg List.length e; rw [List.length_map, List.length_map, HN.out, HM.out] at h1; exact h1))))
  clear hnm
  go_enter Tryz.func28, Tryz.ntmps28
  go_wp2
  go_ret
  exact ⟨by rw [HF.out]; rfl, Ext.refl _⟩
 case pos =>
 subst hnm
 go_enter Tryz.func28, Tryz.ntmps28
 go_wp2_with fail
 go_loopw [5, 6] (fun i _ wr => ∃ k : Nat, k ≤ n ∧ i = .int .i64 k ∧ Hid ((l.take k).map M.fkey = (s.take k).map M.fkey ∧ Ext w wr)) (fun i _ _ => n - (intOf i).toNat)
 case atStart => exact ⟨0, Nat.zero_le _, rfl, rfl, Ext.refl _⟩
 case round =>
  obtain ⟨k, hk, rfl, hR⟩ := hrel
  have E := hid hR.out.2
  have HT := hid hR.out.1
  clear hR
  rcases Nat.lt_or_ge k n with hlt | hge
  case inr =>
   obtain rfl : k = n := by omega
   have HF := hid (show R = true by have h1 := HT.out; rw [← HN.out, List.take_length, HN.out, ← HM.out, List.take_length] at h1; exact HRR.out.symm.trans (decide_eq_true h1))
   go_wp2
   go_ret
   exact ⟨by rw [HF.out]; rfl, E.out⟩
  case inl =>
   have hlt' : (k : Int) < (n : Int) := by omega
   obtain ⟨f, hx⟩ : ∃ x, l[k]? = some x := ⟨_, List.getElem?_eq_getElem (by rw [HN.out]; exact hlt)⟩
   obtain ⟨g, hy⟩ : ∃ y, s[k]? = some y := ⟨_, List.getElem?_eq_getElem (by rw [HM.out]; exact hlt)⟩
   obtain ⟨ad, A1, n1, c1, D1, m1, d1, N, nn, nc, rfl, ⟨⟨r0, r1, r2⟩, r3, r4, r5, r6⟩, hi, hrw, hnum⟩ := (HL.out.up E.out).get hx
   obtain ⟨bd, A2, n2, c2, D2, m2, d2, N', nn', nc', rfl, ⟨⟨t0, t1, t2⟩, t3, t4, t5, t6⟩, hi', hrw', hnum'⟩ := (HS.out.up E.out).get hy
   have HX := hid hx
   have HY := hid hy
   have H1 := hid (And.intro r0 (And.intro r1 (And.intro r2 (And.intro r3 (And.intro r4 (And.intro r5 r6))))))
   have H2 := hid (And.intro t0 (And.intro t1 (And.intro t2 (And.intro t3 (And.intro t4 (And.intro t5 t6))))))
   obtain ⟨q1, hq1⟩ : ∃ q, decide (f.sg = g.sg) = q := ⟨_, rfl⟩
   obtain ⟨q2, hq2⟩ : ∃ q, decide (f.els = g.els) = q := ⟨_, rfl⟩
   obtain ⟨q3, hq3⟩ : ∃ q, decide (m1 = m2) = q := ⟨_, rfl⟩
   have hnl := hi.le.1
   have hnl' := hi'.le.1
   have HC1 := hid (show ∀ w', Ext wr w' → Calls Tryz.prog 53 #[sgv f.sg.name A1 n1 c1 f.sg.ret, sgv g.sg.name A2 n2 c2 g.sg.ret] w' (GivesB w' q1) from fun w' e => hq1 ▸ kSameSig_n (s := f.sg) (s' := g.sg) ⟨A1, c1, by rw [hnl], (show Ints wr f.sg.args (.slice A1 f.sg.args.length c1) from hnl ▸ hi).up e⟩ ⟨A2, c2, by rw [hnl'], (show Ints wr g.sg.args (.slice A2 g.sg.args.length c2) from hnl' ▸ hi').up e⟩)
   have HC2 := hid (show ∀ w', Ext wr w' → Calls Tryz.prog 54 #[vv f.els.1 f.els.2.1 N nn nc, vv g.els.1 g.els.2.1 N' nn' nc'] w' (GivesB w' q2) from fun w' e => hq2 ▸ rSame_v ⟨N, nn, nc, rfl, LNum.up hnum e⟩ ⟨N', nn', nc', rfl, LNum.up hnum' e⟩)
   have HQ1 := hid hq1
   have HQ2 := hid hq2
   have HQ3 := hid (show ((m1 : Int) != (m2 : Int)) = !q3 by
    rw [← hq3]
    by_cases h : m1 = m2
    ·subst h; simp
    ·have h' : ¬ (m1 : Int) = (m2 : Int) := by omega
     simp [h, h'])
   have HQ3' := hid hq3
   have HRW := hid hrw
   have HRW' := hid hrw'
   have HML := hid (And.intro hrw.le hrw'.le)
   have hml2 := hrw.le.2.1
   have hml3 := hrw.le.2.2
   clear hx hy r0 r1 r2 r3 r4 r5 r6 t0 t1 t2 t3 t4 t5 t6 hi hi' hnum hnum' hrw hrw' hq1 hq2 hq3 hnl hnl'
   go_wp2_with fail
   refine wp_region_D [(0, 0), (1, 0), (2, 0), (3, 0), (4, 0), (5, 0), (6, 0), (7, 0), (8, 0), (9, 0), (10, 1), (11, 0), (12, 0), (13, 0), (14, 0), (15, 0), (16, 0), (17, 0), (18, 0), (19, 0), (20, 0), (21, 0), (22, 0), (23, 1), (24, 0), (25, 0), (26, 0), (27, 0), (28, 0), (29, 0), (30, 0), (31, 0), (32, 0), (33, 0), (34, 0), (35, 0), (36, 0), (37, 0), (38, 0), (39, 0), (40, 0)] fun wd hb => ?_
   have EB := hid hb
   replace E := hid (E.out.trans hb)
   clear hb
   refine WE.p 18 (.slice (some ad) n c) ?_
   simp only [Act.put, pA, pB, pC]
   refine WE.p 19 (.int .i64 (k : Int)) ?_
   simp only [Act.put, pA, pB, pC]
   refine WE.q 20 (.pointer (some (ad.add (k * 7)))) rfl (fun w' hk => by go_simp) ?_
   simp only [Act.put, pA, pB, pC]
   refine WE.q 21 (.pointer (some (ad.add (k * 7)))) rfl (fun w' hk => by go_simp) ?_
   simp only [Act.put, pA, pB, pC]
   refine WE.q 22 (sgv f.sg.name A1 n1 c1 f.sg.ret) rfl (fun w' hk => by have x0 := (EB.out.trans hk).cell H1.out.1; have x1 := (EB.out.trans hk).cell H1.out.2.1; have x2 := (EB.out.trans hk).cell H1.out.2.2.1; go_simp) ?_
   simp only [Act.put, pA, pB, pC]
   refine WE.p 23 (.slice (some bd) n d) ?_
   simp only [Act.put, pA, pB, pC]
   refine WE.p 24 (.int .i64 (k : Int)) ?_
   simp only [Act.put, pA, pB, pC]
   refine WE.q 25 (.pointer (some (bd.add (k * 7)))) rfl (fun w' hk => by go_simp) ?_
   simp only [Act.put, pA, pB, pC]
   refine WE.q 26 (.pointer (some (bd.add (k * 7)))) rfl (fun w' hk => by go_simp) ?_
   simp only [Act.put, pA, pB, pC]
   refine WE.q 27 (sgv g.sg.name A2 n2 c2 g.sg.ret) rfl (fun w' hk => by have x0 := (EB.out.trans hk).cell H2.out.1; have x1 := (EB.out.trans hk).cell H2.out.2.1; have x2 := (EB.out.trans hk).cell H2.out.2.2.1; go_simp) ?_
   simp only [Act.put, pA, pB, pC]
   refine WE.c 28 ((HC1.out _ EB.out).mono ?_)
   rintro e w5 ⟨rfl, hb⟩
   refine ⟨_, rfl, hb, ?_⟩
   replace E := hid (E.out.trans hb)
   replace EB := hid (EB.out.trans hb)
   clear hb
   simp only [Act.put, pA, pB, pC]
   refine WE.p 29 (.bool (!q1)) ?_
   simp only [Act.put, pA, pB, pC]
   refine WE.p 30 (.bool (!q1)) ?_
   simp only [Act.put, pA, pB, pC]
   cases q1
   ·refine WE.s 31 ?_
    simp only [Act.put, pA, pB, pC]
    refine WE.s 32 ?_
    simp only [Act.put, pA, pB, pC]
    refine WE.s 33 ?_
    simp only [Act.put, pA, pB, pC]
    refine WE.s 34 ?_
    simp only [Act.put, pA, pB, pC]
    refine WE.s 35 ?_
    simp only [Act.put, pA, pB, pC]
    refine WE.s 36 ?_
    simp only [Act.put, pA, pB, pC]
    refine WE.s 37 ?_
    simp only [Act.put, pA, pB, pC]
    refine WE.s 38 ?_
    simp only [Act.put, pA, pB, pC]
    refine WE.s 39 ?_
    simp only [Act.put, pA, pB, pC]
    refine WE.s 40 ?_
    simp only [Act.put, pA, pB, pC]
    refine WE.t 41 ?_
    simp only [Act.put, pA, pB, pC]
    refine WE.s 42 ?_
    simp only [Act.put, pA, pB, pC]
    refine WE.p 43 (.bool true) ?_
    simp only [Act.put, pA, pB, pC]
    refine WE.p 44 (.bool true) ?_
    simp only [Act.put, pA, pB, pC]
    refine WE.s 45 ?_
    simp only [Act.put, pA, pB, pC]
    refine WE.s 46 ?_
    simp only [Act.put, pA, pB, pC]
    refine WE.s 47 ?_
    simp only [Act.put, pA, pB, pC]
    refine WE.s 48 ?_
    simp only [Act.put, pA, pB, pC]
    refine WE.s 49 ?_
    simp only [Act.put, pA, pB, pC]
    refine WE.s 50 ?_
    simp only [Act.put, pA, pB, pC]
    refine WE.s 51 ?_
    simp only [Act.put, pA, pB, pC]
    refine WE.s 52 ?_
    simp only [Act.put, pA, pB, pC]
    refine WE.s 53 ?_
    simp only [Act.put, pA, pB, pC]
    refine WE.s 54 ?_
    simp only [Act.put, pA, pB, pC]
    refine WE.s 55 ?_
    simp only [Act.put, pA, pB, pC]
    refine WE.s 56 ?_
    simp only [Act.put, pA, pB, pC]
    refine WE.s 57 ?_
    simp only [Act.put, pA, pB, pC]
    refine WE.p 58 (.bool true) ?_
    simp only [Act.put, pA, pB, pC]
    refine WE.done ?_
    have HF := hid (show R = false from HRR.out.symm.trans (decide_eq_false (fun e => of_decide_eq_false HQ1.out (M.fkey_at e HX.out HY.out).1)))
    clear HC1 HC2 H1 H2
    go_wp2
    go_ret
    exact ⟨by rw [HF.out]; rfl, E.out⟩
   ·simp only [Bool.not_true]
    refine WE.p 31 (.slice (some ad) n c) ?_
    simp only [Act.put, pA, pB, pC]
    refine WE.p 32 (.int .i64 (k : Int)) ?_
    simp only [Act.put, pA, pB, pC]
    refine WE.q 33 (.pointer (some (ad.add (k * 7)))) rfl (fun w' hk => by go_simp) ?_
    simp only [Act.put, pA, pB, pC]
    refine WE.q 34 (.pointer (some ⟨(ad.add (k * 7)).block, (ad.add (k * 7)).off + 4, none⟩)) rfl (fun w' hk => by go_simp) ?_
    simp only [Act.put, pA, pB, pC]
    refine WE.q 35 (vv f.els.1 f.els.2.1 N nn nc) rfl (fun w' hk => by have x0 := (EB.out.trans hk).cell H1.out.2.2.2.2.1; have x1 := (EB.out.trans hk).cell H1.out.2.2.2.2.2.1; have x2 := (EB.out.trans hk).cell H1.out.2.2.2.2.2.2; go_simp) ?_
    simp only [Act.put, pA, pB, pC]
    refine WE.p 36 (.slice (some bd) n d) ?_
    simp only [Act.put, pA, pB, pC]
    refine WE.p 37 (.int .i64 (k : Int)) ?_
    simp only [Act.put, pA, pB, pC]
    refine WE.q 38 (.pointer (some (bd.add (k * 7)))) rfl (fun w' hk => by go_simp) ?_
    simp only [Act.put, pA, pB, pC]
    refine WE.q 39 (.pointer (some ⟨(bd.add (k * 7)).block, (bd.add (k * 7)).off + 4, none⟩)) rfl (fun w' hk => by go_simp) ?_
    simp only [Act.put, pA, pB, pC]
    refine WE.q 40 (vv g.els.1 g.els.2.1 N' nn' nc') rfl (fun w' hk => by have x0 := (EB.out.trans hk).cell H2.out.2.2.2.2.1; have x1 := (EB.out.trans hk).cell H2.out.2.2.2.2.2.1; have x2 := (EB.out.trans hk).cell H2.out.2.2.2.2.2.2; go_simp) ?_
    simp only [Act.put, pA, pB, pC]
    refine WE.c 41 ((HC2.out _ EB.out).mono ?_)
    rintro e w5 ⟨rfl, hb⟩
    refine ⟨_, rfl, hb, ?_⟩
    replace E := hid (E.out.trans hb)
    replace EB := hid (EB.out.trans hb)
    clear hb
    simp only [Act.put, pA, pB, pC]
    refine WE.p 42 (.bool (!q2)) ?_
    simp only [Act.put, pA, pB, pC]
    refine WE.p 43 (.bool (!q2)) ?_
    simp only [Act.put, pA, pB, pC]
    refine WE.p 44 (.bool (!q2)) ?_
    simp only [Act.put, pA, pB, pC]
    cases q2
    ·refine WE.s 45 ?_
     simp only [Act.put, pA, pB, pC]
     refine WE.s 46 ?_
     simp only [Act.put, pA, pB, pC]
     refine WE.s 47 ?_
     simp only [Act.put, pA, pB, pC]
     refine WE.s 48 ?_
     simp only [Act.put, pA, pB, pC]
     refine WE.s 49 ?_
     simp only [Act.put, pA, pB, pC]
     refine WE.s 50 ?_
     simp only [Act.put, pA, pB, pC]
     refine WE.s 51 ?_
     simp only [Act.put, pA, pB, pC]
     refine WE.s 52 ?_
     simp only [Act.put, pA, pB, pC]
     refine WE.s 53 ?_
     simp only [Act.put, pA, pB, pC]
     refine WE.s 54 ?_
     simp only [Act.put, pA, pB, pC]
     refine WE.s 55 ?_
     simp only [Act.put, pA, pB, pC]
     refine WE.s 56 ?_
     simp only [Act.put, pA, pB, pC]
     refine WE.s 57 ?_
     simp only [Act.put, pA, pB, pC]
     refine WE.p 58 (.bool true) ?_
     simp only [Act.put, pA, pB, pC]
     refine WE.done ?_
     have HF := hid (show R = false from HRR.out.symm.trans (decide_eq_false (fun e => of_decide_eq_false HQ2.out (M.fkey_at e HX.out HY.out).2.1)))
     clear HC1 HC2 H1 H2
     go_wp2
     go_ret
     exact ⟨by rw [HF.out]; rfl, E.out⟩
    ·simp only [Bool.not_true]
     refine WE.p 45 (.slice (some ad) n c) ?_
     simp only [Act.put, pA, pB, pC]
     refine WE.p 46 (.int .i64 (k : Int)) ?_
     simp only [Act.put, pA, pB, pC]
     refine WE.q 47 (.pointer (some (ad.add (k * 7)))) rfl (fun w' hk => by go_simp) ?_
     simp only [Act.put, pA, pB, pC]
     refine WE.q 48 (.pointer (some ⟨(ad.add (k * 7)).block, (ad.add (k * 7)).off + 3, none⟩)) rfl (fun w' hk => by go_simp) ?_
     simp only [Act.put, pA, pB, pC]
     refine WE.q 49 (.slice D1 m1 d1) rfl (fun w' hk => by have x0 := (EB.out.trans hk).cell H1.out.2.2.2.1; go_simp) ?_
     simp only [Act.put, pA, pB, pC]
     refine WE.p 50 (.int .i64 (m1 : Int)) ?_
     simp only [Act.put, pA, pB, pC]
     refine WE.p 51 (.slice (some bd) n d) ?_
     simp only [Act.put, pA, pB, pC]
     refine WE.p 52 (.int .i64 (k : Int)) ?_
     simp only [Act.put, pA, pB, pC]
     refine WE.q 53 (.pointer (some (bd.add (k * 7)))) rfl (fun w' hk => by go_simp) ?_
     simp only [Act.put, pA, pB, pC]
     refine WE.q 54 (.pointer (some ⟨(bd.add (k * 7)).block, (bd.add (k * 7)).off + 3, none⟩)) rfl (fun w' hk => by go_simp) ?_
     simp only [Act.put, pA, pB, pC]
     refine WE.q 55 (.slice D2 m2 d2) rfl (fun w' hk => by have x0 := (EB.out.trans hk).cell H2.out.2.2.2.1; go_simp) ?_
     simp only [Act.put, pA, pB, pC]
     refine WE.p 56 (.int .i64 (m2 : Int)) ?_
     simp only [Act.put, pA, pB, pC]
     refine WE.q 57 (.bool (!q3)) rfl (fun w' hk => by have hq := HQ3.out; go_simp) ?_
     simp only [Act.put, pA, pB, pC]
     refine WE.p 58 (.bool (!q3)) ?_
     simp only [Act.put, pA, pB, pC]
     refine WE.done ?_
     cases q3
     ·have HF := hid (show R = false from HRR.out.symm.trans (decide_eq_false (fun e => of_decide_eq_false HQ3'.out (by have h1 := (M.fkey_at e HX.out HY.out).2.2; rw [HML.out.1.1, HML.out.2.1, h1]))))
      clear HC1 HC2 H1 H2
      simp only [Bool.not_false]
      go_wp2
      go_ret
      exact ⟨by rw [HF.out]; rfl, E.out⟩
     ·obtain rfl : m1 = m2 := of_decide_eq_true HQ3'.out
      clear HC1 HC2 HQ3 HQ3'
      simp only [Bool.not_true]
      go_wp2_with fail
      go_loopw [6] (fun i wr => ∃ j : Nat, j ≤ m1 ∧ i = .int .i64 j ∧ Hid (f.rows.take j = g.rows.take j ∧ Ext w5 wr)) (fun i _ => m1 - (intOf i).toNat)
      case atStart => exact ⟨0, Nat.zero_le _, rfl, rfl, Ext.refl _⟩
      case round =>
       obtain ⟨j, hj, rfl, hR⟩ := hrel
       have EJ := hid (EB.out.trans hR.out.2)
       replace E := hid (E.out.trans hR.out.2)
       have HTJ := hid hR.out.1
       have hR2 := hid hR.out.2
       clear hR
       have r3 := EJ.out.cell H1.out.2.2.2.1
       rcases Nat.lt_or_ge j m1 with jlt | jge
       case inr =>
        obtain rfl : j = m1 := by omega
        have HK := hid (show M.fkey f = M.fkey g by
         have h1 := HTJ.out
         rw [show j = f.rows.length from HML.out.1.1, List.take_length, ← HML.out.1.1, show j = g.rows.length from HML.out.2.1, List.take_length] at h1
         unfold M.fkey
         rw [h1, of_decide_eq_true HQ1.out, of_decide_eq_true HQ2.out])
        go_wp2_with fail
        clear r3
        go_roundw
        case rel => exact ⟨k + 1, by omega, by simp, M.fkey_next HT.out HX.out HY.out HK.out, E.out⟩
        case measure => simp [intOf]; omega
       case inl =>
       have jlt' : (j : Int) < (m1 : Int) := by omega
       obtain ⟨rx, hrx⟩ : ∃ x, f.rows[j]? = some x := ⟨_, List.getElem?_eq_getElem (by have := HML.out.1.1; omega)⟩
       obtain ⟨ry, hry⟩ : ∃ x, g.rows[j]? = some x := ⟨_, List.getElem?_eq_getElem (by have := HML.out.2.1; omega)⟩
       obtain ⟨rd, P1, p1, e1, V1, v1, u1, rfl, ⟨s0, s1, s2, s3⟩, hvl, hvn⟩ := (HRW.out.up EJ.out).get hrx
       obtain ⟨sd, P2, p2, e2, V2, v2, u2, rfl, ⟨t0, t1, t2, t3⟩, hvl', hvn'⟩ := (HRW'.out.up EJ.out).get hry
       have HRX := hid hrx
       have HRY := hid hry
       obtain ⟨q4, hq4⟩ : ∃ q, decide (rx.1 = ry.1) = q := ⟨_, rfl⟩
       obtain ⟨q5, hq5⟩ : ∃ q, decide (rx.2 = ry.2) = q := ⟨_, rfl⟩
       have HD1 := hid (show ∀ w', Ext wr w' → Calls Tryz.prog 55 #[.slice P1 p1 e1, .slice P2 p2 e2] w' (GivesB w' q4) from fun w' e => hq4 ▸ rSameArgs_v (hvl.up e) (hvl'.up e))
       have HD2 := hid (show ∀ w', Ext wr w' → Calls Tryz.prog 54 #[vv rx.2.1 rx.2.2.1 V1 v1 u1, vv ry.2.1 ry.2.2.1 V2 v2 u2] w' (GivesB w' q5) from fun w' e => hq5 ▸ rSame_v ⟨V1, v1, u1, rfl, LNum.up hvn e⟩ ⟨V2, v2, u2, rfl, LNum.up hvn' e⟩)
       have HQ4 := hid hq4
       have HQ5 := hid hq5
       have HR1 := hid (And.intro s0 (And.intro s1 (And.intro s2 s3)))
       have HR2 := hid (And.intro t0 (And.intro t1 (And.intro t2 t3)))
       clear hrx hry s0 s1 s2 s3 t0 t1 t2 t3 hvl hvl' hvn hvn' hq4 hq5
       go_wp2_with fail
       clear r3
       refine wp_region_D [(0, 0), (1, 0), (2, 0), (3, 0), (4, 0), (5, 0), (6, 0), (7, 0), (8, 0), (9, 0), (10, 0), (11, 0), (12, 0), (13, 0), (14, 0), (15, 0), (16, 0), (17, 0), (18, 1), (19, 0), (20, 0), (21, 0), (22, 0), (23, 0), (24, 0), (25, 0), (26, 0), (27, 0), (28, 0), (29, 0), (30, 0), (31, 0), (32, 0), (33, 0), (34, 0), (35, 0), (36, 0), (37, 0), (38, 0), (39, 1), (40, 0), (41, 0)] fun wd2 hb => ?_
       have EJB := hid hb
       replace E := hid (E.out.trans hb)
       replace EJ := hid (EJ.out.trans hb)
       clear hb
       refine WE.p 69 (.slice (some ad) n c) ?_
       simp only [Act.put, pA, pB, pC]
       refine WE.p 70 (.int .i64 (k : Int)) ?_
       simp only [Act.put, pA, pB, pC]
       refine WE.q 71 (.pointer (some (ad.add (k * 7)))) rfl (fun w' hk => by go_simp) ?_
       simp only [Act.put, pA, pB, pC]
       refine WE.q 72 (.pointer (some ⟨(ad.add (k * 7)).block, (ad.add (k * 7)).off + 3, none⟩)) rfl (fun w' hk => by go_simp) ?_
       simp only [Act.put, pA, pB, pC]
       refine WE.q 73 (.slice (some rd) m1 d1) rfl (fun w' hk => by have x0 := (EJ.out.trans hk).cell H1.out.2.2.2.1; go_simp) ?_
       simp only [Act.put, pA, pB, pC]
       refine WE.p 74 (.int .i64 (j : Int)) ?_
       simp only [Act.put, pA, pB, pC]
       refine WE.q 75 (.pointer (some (rd.add (j * 4)))) rfl (fun w' hk => by go_simp) ?_
       simp only [Act.put, pA, pB, pC]
       refine WE.q 76 (.pointer (some (rd.add (j * 4)))) rfl (fun w' hk => by go_simp) ?_
       simp only [Act.put, pA, pB, pC]
       refine WE.q 77 (.slice P1 p1 e1) rfl (fun w' hk => by have y0 := (EJB.out.trans hk).cell HR1.out.1; go_simp) ?_
       simp only [Act.put, pA, pB, pC]
       refine WE.p 78 (.slice (some bd) n d) ?_
       simp only [Act.put, pA, pB, pC]
       refine WE.p 79 (.int .i64 (k : Int)) ?_
       simp only [Act.put, pA, pB, pC]
       refine WE.q 80 (.pointer (some (bd.add (k * 7)))) rfl (fun w' hk => by go_simp) ?_
       simp only [Act.put, pA, pB, pC]
       refine WE.q 81 (.pointer (some ⟨(bd.add (k * 7)).block, (bd.add (k * 7)).off + 3, none⟩)) rfl (fun w' hk => by go_simp) ?_
       simp only [Act.put, pA, pB, pC]
       refine WE.q 82 (.slice (some sd) m1 d2) rfl (fun w' hk => by have x0 := (EJ.out.trans hk).cell H2.out.2.2.2.1; go_simp) ?_
       simp only [Act.put, pA, pB, pC]
       refine WE.p 83 (.int .i64 (j : Int)) ?_
       simp only [Act.put, pA, pB, pC]
       refine WE.q 84 (.pointer (some (sd.add (j * 4)))) rfl (fun w' hk => by go_simp) ?_
       simp only [Act.put, pA, pB, pC]
       refine WE.q 85 (.pointer (some (sd.add (j * 4)))) rfl (fun w' hk => by go_simp) ?_
       simp only [Act.put, pA, pB, pC]
       refine WE.q 86 (.slice P2 p2 e2) rfl (fun w' hk => by have y0 := (EJB.out.trans hk).cell HR2.out.1; go_simp) ?_
       simp only [Act.put, pA, pB, pC]
       refine WE.c 87 ((HD1.out _ EJB.out).mono ?_)
       rintro e w5 ⟨rfl, hb⟩
       refine ⟨_, rfl, hb, ?_⟩
       replace E := hid (E.out.trans hb)
       replace EJ := hid (EJ.out.trans hb)
       replace EJB := hid (EJB.out.trans hb)
       clear hb
       simp only [Act.put, pA, pB, pC]
       refine WE.p 88 (.bool (!q4)) ?_
       simp only [Act.put, pA, pB, pC]
       refine WE.p 89 (.bool (!q4)) ?_
       simp only [Act.put, pA, pB, pC]
       cases q4
       ·refine WE.s 90 ?_
        simp only [Act.put, pA, pB, pC]
        refine WE.s 91 ?_
        simp only [Act.put, pA, pB, pC]
        refine WE.s 92 ?_
        simp only [Act.put, pA, pB, pC]
        refine WE.s 93 ?_
        simp only [Act.put, pA, pB, pC]
        refine WE.s 94 ?_
        simp only [Act.put, pA, pB, pC]
        refine WE.s 95 ?_
        simp only [Act.put, pA, pB, pC]
        refine WE.s 96 ?_
        simp only [Act.put, pA, pB, pC]
        refine WE.s 97 ?_
        simp only [Act.put, pA, pB, pC]
        refine WE.s 98 ?_
        simp only [Act.put, pA, pB, pC]
        refine WE.s 99 ?_
        simp only [Act.put, pA, pB, pC]
        refine WE.s 100 ?_
        simp only [Act.put, pA, pB, pC]
        refine WE.s 101 ?_
        simp only [Act.put, pA, pB, pC]
        refine WE.s 102 ?_
        simp only [Act.put, pA, pB, pC]
        refine WE.s 103 ?_
        simp only [Act.put, pA, pB, pC]
        refine WE.s 104 ?_
        simp only [Act.put, pA, pB, pC]
        refine WE.s 105 ?_
        simp only [Act.put, pA, pB, pC]
        refine WE.s 106 ?_
        simp only [Act.put, pA, pB, pC]
        refine WE.s 107 ?_
        simp only [Act.put, pA, pB, pC]
        refine WE.t 108 ?_
        simp only [Act.put, pA, pB, pC]
        refine WE.s 109 ?_
        simp only [Act.put, pA, pB, pC]
        refine WE.p 110 (.bool true) ?_
        simp only [Act.put, pA, pB, pC]
        refine WE.done ?_
        have HF := hid (show R = false from HRR.out.symm.trans (decide_eq_false (fun e => of_decide_eq_false HQ4.out (M.rkey_at (M.fkey_at e HX.out HY.out).2.2 HRX.out HRY.out).1)))
        clear HD1 HD2 H1 H2 HR1 HR2
        go_wp2
        go_ret
        exact ⟨by rw [HF.out]; rfl, E.out⟩
       ·simp only [Bool.not_true]
        refine WE.p 90 (.slice (some ad) n c) ?_
        simp only [Act.put, pA, pB, pC]
        refine WE.p 91 (.int .i64 (k : Int)) ?_
        simp only [Act.put, pA, pB, pC]
        refine WE.q 92 (.pointer (some (ad.add (k * 7)))) rfl (fun w' hk => by go_simp) ?_
        simp only [Act.put, pA, pB, pC]
        refine WE.q 93 (.pointer (some ⟨(ad.add (k * 7)).block, (ad.add (k * 7)).off + 3, none⟩)) rfl (fun w' hk => by go_simp) ?_
        simp only [Act.put, pA, pB, pC]
        refine WE.q 94 (.slice (some rd) m1 d1) rfl (fun w' hk => by have x0 := (EJ.out.trans hk).cell H1.out.2.2.2.1; go_simp) ?_
        simp only [Act.put, pA, pB, pC]
        refine WE.p 95 (.int .i64 (j : Int)) ?_
        simp only [Act.put, pA, pB, pC]
        refine WE.q 96 (.pointer (some (rd.add (j * 4)))) rfl (fun w' hk => by go_simp) ?_
        simp only [Act.put, pA, pB, pC]
        refine WE.q 97 (.pointer (some ⟨(rd.add (j * 4)).block, (rd.add (j * 4)).off + 1, none⟩)) rfl (fun w' hk => by go_simp) ?_
        simp only [Act.put, pA, pB, pC]
        refine WE.q 98 (vv rx.2.1 rx.2.2.1 V1 v1 u1) rfl (fun w' hk => by have y0 := (EJB.out.trans hk).cell HR1.out.2.1; have y1 := (EJB.out.trans hk).cell HR1.out.2.2.1; have y2 := (EJB.out.trans hk).cell HR1.out.2.2.2; go_simp) ?_
        simp only [Act.put, pA, pB, pC]
        refine WE.p 99 (.slice (some bd) n d) ?_
        simp only [Act.put, pA, pB, pC]
        refine WE.p 100 (.int .i64 (k : Int)) ?_
        simp only [Act.put, pA, pB, pC]
        refine WE.q 101 (.pointer (some (bd.add (k * 7)))) rfl (fun w' hk => by go_simp) ?_
        simp only [Act.put, pA, pB, pC]
        refine WE.q 102 (.pointer (some ⟨(bd.add (k * 7)).block, (bd.add (k * 7)).off + 3, none⟩)) rfl (fun w' hk => by go_simp) ?_
        simp only [Act.put, pA, pB, pC]
        refine WE.q 103 (.slice (some sd) m1 d2) rfl (fun w' hk => by have x0 := (EJ.out.trans hk).cell H2.out.2.2.2.1; go_simp) ?_
        simp only [Act.put, pA, pB, pC]
        refine WE.p 104 (.int .i64 (j : Int)) ?_
        simp only [Act.put, pA, pB, pC]
        refine WE.q 105 (.pointer (some (sd.add (j * 4)))) rfl (fun w' hk => by go_simp) ?_
        simp only [Act.put, pA, pB, pC]
        refine WE.q 106 (.pointer (some ⟨(sd.add (j * 4)).block, (sd.add (j * 4)).off + 1, none⟩)) rfl (fun w' hk => by go_simp) ?_
        simp only [Act.put, pA, pB, pC]
        refine WE.q 107 (vv ry.2.1 ry.2.2.1 V2 v2 u2) rfl (fun w' hk => by have y0 := (EJB.out.trans hk).cell HR2.out.2.1; have y1 := (EJB.out.trans hk).cell HR2.out.2.2.1; have y2 := (EJB.out.trans hk).cell HR2.out.2.2.2; go_simp) ?_
        simp only [Act.put, pA, pB, pC]
        refine WE.c 108 ((HD2.out _ EJB.out).mono ?_)
        rintro e w5 ⟨rfl, hb⟩
        refine ⟨_, rfl, hb, ?_⟩
        replace E := hid (E.out.trans hb)
        replace EJ := hid (EJ.out.trans hb)
        replace EJB := hid (EJB.out.trans hb)
        clear hb
        simp only [Act.put, pA, pB, pC]
        refine WE.p 109 (.bool (!q5)) ?_
        simp only [Act.put, pA, pB, pC]
        refine WE.p 110 (.bool (!q5)) ?_
        simp only [Act.put, pA, pB, pC]
        refine WE.done ?_
        cases q5
        ·have HF := hid (show R = false from HRR.out.symm.trans (decide_eq_false (fun e => of_decide_eq_false HQ5.out (M.rkey_at (M.fkey_at e HX.out HY.out).2.2 HRX.out HRY.out).2)))
         clear HD1 HD2 H1 H2 HR1 HR2
         simp only [Bool.not_false]
         go_wp2
         go_ret
         exact ⟨by rw [HF.out]; rfl, E.out⟩
        ·have HK := hid (show f.rows.take (j + 1) = g.rows.take (j + 1) from M.take_next HTJ.out HRX.out HRY.out (Prod.ext (of_decide_eq_true HQ4.out) (of_decide_eq_true HQ5.out)))
         have E6 := hid (hR2.out.trans EJB.out)
         clear HD1 HD2 HR1 HR2
         simp only [Bool.not_true]
         go_wp2_with fail
         go_roundw
         case rel => exact ⟨j + 1, by omega, by simp, HK.out, E6.out⟩
         case measure => simp [intOf]; omega
end Go.Proofs.YtkhmgdfhggejaaaGreatDoor.Q

/-
  Layer 12's laws: fewFuns: what it lets pass.
-/
namespace Go.Proofs.YtkhmgdfhggejaaaGreatDoor.Q
set_option linter.unusedSimpArgs false
set_option linter.unusedVariables false
open Go.RowKit

def M.rwOk (r : List M.Vl × M.Vl) : Prop := r.1.length ≤ 6 ∧ r.2.2.2.length ≤ 4 ∧ ∀ x ∈ r.1, x.2.2.length ≤ 4
def M.fnOk (f : M.Fn) : Prop := f.rows.length ≤ 10 ∧ f.sg.args.length ≤ 6 ∧ f.sg.name.length ≤ 30 ∧ f.els.2.2.length ≤ 4 ∧ ∀ r ∈ f.rows, M.rwOk r
theorem M.all_next {α : Type} {P : α → Prop} {l : List α} {k : Nat} {y : α} (h : ∀ x ∈ l.take k, P x) (hy : l[k]? = some y) (hp : P y) : ∀ x ∈ l.take (k + 1), P x := by
 intro x hx
 rw [List.take_add_one, hy, Option.toList_some, List.mem_append] at hx
 rcases hx with hx | hx
 ·exact h x hx
 ·obtain rfl : x = y := by simpa using hx
  exact hp
def GivesFew (w : World) (l : List M.Fn) (e : Ending) (w' : World) : Prop := ∃ b, e = .returned (.bool b) ∧ Ext w w' ∧ (b = true → l.length ≤ 12 ∧ ∀ f ∈ l, M.fnOk f)
set_option maxHeartbeats 40000000 in
set_option maxRecDepth 20000 in
theorem fewFuns_v {l : List M.Fn} {v : Value} {w : World} (h : FnList w l v) : Calls Tryz.prog 9 #[v] w (GivesFew w l) := by
 obtain ⟨A, c, rfl⟩ := h.shape
 obtain ⟨hn, hl2, hl3⟩ := h.le
 obtain ⟨n, hn'⟩ : ∃ n, l.length = n := ⟨_, rfl⟩
 rw [hn'] at h hl2 ⊢
 have HL := hid h
 have HN := hid hn'
 clear h hn hn'
 go_enter Tryz.func9, Tryz.ntmps9
 go_wp2_with fail
 go_loopw [3, 4, 5] (fun i _ _ wr => ∃ k : Nat, k ≤ n ∧ i = .int .i64 k ∧ Hid ((∀ f ∈ l.take k, M.fnOk f) ∧ Ext w wr)) (fun i _ _ _ => n - (intOf i).toNat)
 case atStart => exact ⟨0, Nat.zero_le _, rfl, by simp, Ext.refl _⟩
 case round =>
  obtain ⟨k, hk, rfl, hR⟩ := hrel
  have E := hid hR.out.2
  have HT := hid hR.out.1
  clear hR
  rcases Nat.lt_or_ge k n with hlt | hge
  case inr =>
   obtain rfl : k = n := by omega
   have HA := hid (show ∀ f ∈ l, M.fnOk f by have h1 := HT.out; rwa [← HN.out, List.take_length] at h1)
   go_wp2
   go_ret
   exact ⟨_, rfl, E.out, fun hb => ⟨by rw [HN.out]; have := of_decide_eq_true hb; omega, HA.out⟩⟩
  case inl =>
   have hlt' : (k : Int) < (n : Int) := by omega
   obtain ⟨f, hx⟩ : ∃ x, l[k]? = some x := ⟨_, List.getElem?_eq_getElem (by rw [HN.out]; exact hlt)⟩
   obtain ⟨ad, A1, n1, c1, D1, m1, d1, N, nn, nc, rfl, ⟨⟨r0, r1, r2⟩, r3, r4, r5, r6⟩, hi, hrw, hnum⟩ := (HL.out.up E.out).get hx
   have HX := hid hx
   have hm1 := hrw.le.1
   have hn1 := hi.le.1
   have hnn := (LNum.len hnum).1
   obtain ⟨ln, hln⟩ : ∃ q, f.sg.name.length = q := ⟨_, rfl⟩
   have HRW := hid hrw
   have HF := hid (And.intro hm1 (And.intro hn1 (And.intro hln hnn)))
   have HR3 := hid r3
   clear hx hi hrw hnum hm1 hn1 hnn r2 r4 r5
   rcases Nat.lt_or_ge 10 m1 with g1 | g1
   ·have g1' : (10 : Int) < (m1 : Int) := by omega
    go_wp2_with fail
    go_ret
    exact ⟨false, rfl, E.out, fun hb => Bool.noConfusion hb⟩
   have g1' : ¬ (10 : Int) < (m1 : Int) := by omega
   rcases Nat.lt_or_ge 6 n1 with g2 | g2
   ·have g2' : (6 : Int) < (n1 : Int) := by omega
    go_wp2_with fail
    go_ret
    exact ⟨false, rfl, E.out, fun hb => Bool.noConfusion hb⟩
   have g2' : ¬ (6 : Int) < (n1 : Int) := by omega
   rcases Nat.lt_or_ge 30 ln with g3 | g3
   ·have g3' : (30 : Int) < (ln : Int) := by omega
    go_wp2_with fail
    go_ret
    exact ⟨false, rfl, E.out, fun hb => Bool.noConfusion hb⟩
   have g3' : ¬ (30 : Int) < (ln : Int) := by omega
   rcases Nat.lt_or_ge 4 nn with g4 | g4
   ·have g4' : (4 : Int) < (nn : Int) := by omega
    go_wp2_with fail
    go_ret
    exact ⟨false, rfl, E.out, fun hb => Bool.noConfusion hb⟩
   have g4' : ¬ (4 : Int) < (nn : Int) := by omega
   have HG := hid (And.intro g1 (And.intro g2 (And.intro g3 g4)))
   go_wp2_with fail
   clear g1 g2 g3 g4 g1' g2' g3' g4' r0 r1 r3 r6 hln
   have hm10 := HG.out.1
   go_loopw [4, 5] (fun i _ wq => ∃ j : Nat, j ≤ m1 ∧ i = .int .i64 j ∧ Hid ((∀ r ∈ f.rows.take j, M.rwOk r) ∧ Ext wr wq)) (fun i _ _ => m1 - (intOf i).toNat)
   case atStart => exact ⟨0, Nat.zero_le _, rfl, by simp, Ext.refl _⟩
   case round =>
    obtain ⟨j, hj, rfl, hR⟩ := hrel
    have EJ := hid hR.out.2
    have HTJ := hid hR.out.1
    clear hR
    have r3 := EJ.out.cell HR3.out
    rcases Nat.lt_or_ge j m1 with jlt | jge
    case inr =>
     obtain rfl : j = m1 := by omega
     have HOK := hid (show M.fnOk f from ⟨by have := HF.out.1; have := HG.out.1; omega, by have := HF.out.2.1; have := HG.out.2.1; omega, by have := HF.out.2.2.1; have := HG.out.2.2.1; omega, by have := HF.out.2.2.2; have := HG.out.2.2.2; omega, by have h1 := HTJ.out; rw [HF.out.1, List.take_length] at h1; exact h1⟩)
     go_wp2_with fail
     clear r3
     go_roundw
     case rel => exact ⟨k + 1, by omega, by simp, M.all_next HT.out HX.out HOK.out, E.out.trans EJ.out⟩
     case measure => simp [intOf]; omega
    case inl =>
     have jlt' : (j : Int) < (m1 : Int) := by omega
     obtain ⟨r, hr⟩ : ∃ x, f.rows[j]? = some x := ⟨_, List.getElem?_eq_getElem (by have := HF.out.1; omega)⟩
     obtain ⟨rd, P, p1, pc, V, vn, vc, rfl, ⟨s0, s1, s2, s3⟩, hvl, hvn⟩ := (HRW.out.up EJ.out).get hr
     have hp1 := hvl.count.1
     have hvv := (LNum.len hvn).1
     have HRX := hid hr
     have HVL := hid hvl
     have HS0 := hid s0
     have HFR := hid (And.intro hp1 hvv)
     clear hr hvl hvn hp1 hvv s1 s2
     rcases Nat.lt_or_ge 6 p1 with g1 | g1
     ·have g1' : (6 : Int) < (p1 : Int) := by omega
      go_wp2_with fail
      go_ret
      exact ⟨false, rfl, E.out.trans EJ.out, fun hb => Bool.noConfusion hb⟩
     have g1' : ¬ (6 : Int) < (p1 : Int) := by omega
     rcases Nat.lt_or_ge 4 vn with g2 | g2
     ·have g2' : (4 : Int) < (vn : Int) := by omega
      go_wp2_with fail
      go_ret
      exact ⟨false, rfl, E.out.trans EJ.out, fun hb => Bool.noConfusion hb⟩
     have g2' : ¬ (4 : Int) < (vn : Int) := by omega
     have HGR := hid (And.intro g1 g2)
     go_wp2_with fail
     clear g1 g2 g1' g2' s0 s3 r3
     have hp6 := HGR.out.1
     go_loopw [5] (fun i wp => ∃ t : Nat, t ≤ p1 ∧ i = .int .i64 t ∧ Hid ((∀ x ∈ r.1.take t, x.2.2.length ≤ 4) ∧ Ext wr wp)) (fun i _ => p1 - (intOf i).toNat)
     case atStart => exact ⟨0, Nat.zero_le _, rfl, by simp, Ext.refl _⟩
     case round =>
      obtain ⟨t, ht, rfl, hR⟩ := hrel
      have ET := hid hR.out.2
      have HTT := hid hR.out.1
      clear hR
      have r3 := (EJ.out.trans ET.out).cell HR3.out
      have s0 := ET.out.cell HS0.out
      rcases Nat.lt_or_ge t p1 with tlt | tge
      case inr =>
       obtain rfl : t = p1 := by omega
       have HOK := hid (show M.rwOk r from ⟨by have := HFR.out.1; have := HGR.out.1; omega, by have := HFR.out.2; have := HGR.out.2; omega, by have h1 := HTT.out; rw [HFR.out.1, List.take_length] at h1; exact h1⟩)
       go_wp2_with fail
       clear r3 s0
       go_roundw
       case rel => exact ⟨j + 1, by omega, by simp, M.all_next HTJ.out HRX.out HOK.out, EJ.out.trans ET.out⟩
       case measure => simp [intOf]; omega
      case inl =>
       have tlt' : (t : Int) < (p1 : Int) := by omega
       obtain ⟨x, hx⟩ : ∃ x, r.1[t]? = some x := ⟨_, List.getElem?_eq_getElem (by have := HFR.out.1; omega)⟩
       obtain ⟨xd, Y, yn, yc, rfl, ⟨q0, q1, q2⟩, hxv⟩ := (HVL.out.up ET.out).at_ hx
       have hyn := (LNum.len hxv.num2).1
       have HXX := hid hx
       have HYN := hid hyn
       clear hx hxv hyn q0 q1
       rcases Nat.lt_or_ge 4 yn with g1 | g1
       ·have g1' : (4 : Int) < (yn : Int) := by omega
        go_wp2_with fail
        go_ret
        exact ⟨false, rfl, (E.out.trans EJ.out).trans ET.out, fun hb => Bool.noConfusion hb⟩
       have g1' : ¬ (4 : Int) < (yn : Int) := by omega
       have HG1 := hid g1
       go_wp2_with fail
       clear g1 g1' r3 s0 q2
       go_roundw
       case rel => exact ⟨t + 1, by omega, by simp, M.all_next HTT.out HXX.out (by have := HYN.out; have := HG1.out; omega), ET.out⟩
       case measure => simp [intOf]; omega
end Go.Proofs.YtkhmgdfhggejaaaGreatDoor.Q

