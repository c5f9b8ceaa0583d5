/-
  Layer 12: contracts of package value: worth, Eval, Of, True.
-/
import Derived.Test.YtkhmgdfhggejaaaGreatDoorWVG
import Derived.Test.YtkhmgdfhggejaaaGreatDoorWVI
namespace Go.Proofs.YtkhmgdfhggejaaaGreatDoor.Q
set_option linter.unusedSimpArgs false
set_option linter.unusedVariables false
open Go.RowKit
def M.mWorth (m : List M.Fn) (t : M.Tm) : M.Vl := if M.kIs t = true then M.ev m t else (1, false, [])
structure StrIn (w : World) (m : List M.Fn) (v : Value) : Prop where
 list : FnList w m v
 len : m.length ≤ 50000
 fw : ∀ f ∈ m, M.funWd f
 wd : ∀ f ∈ m, M.fnWd 40 f
theorem StrIn.up {w w' : World} {m : List M.Fn} {v : Value} (h : StrIn w m v) (e : Ext w w') : StrIn w' m v := ⟨h.list.up e, h.len, h.fw, h.wd⟩
theorem StrIn.read {w w' : World} {m : List M.Fn} {v u : Value} (h : StrIn w m v) (hu : FnList w' (M.mRead m) u) : StrOk w' (M.mRead m) u := ⟨hu, M.mRead_asc m, Nat.le_trans (M.mRead_len m) (Nat.le_trans h.len (by decide)), fun f hf => M.fnWd_le (h.wd f (M.mRead_mem hf)) (by decide)⟩
structure StrInW (w : World) (m : List M.Fn) (v : Value) : Prop where
 list : FnList w m v
 len : m.length ≤ 50000
 fw : ∀ f ∈ m, M.funWd f
 wd : ∀ f ∈ m, M.fnWd 2000000 f
theorem StrInW.up {w w' : World} {m : List M.Fn} {v : Value} (h : StrInW w m v) (e : Ext w w') : StrInW w' m v := ⟨h.list.up e, h.len, h.fw, h.wd⟩
theorem StrInW.read {w w' : World} {m : List M.Fn} {v u : Value} (h : StrInW w m v) (hu : FnList w' (M.mRead m) u) : StrOk w' (M.mRead m) u := ⟨hu, M.mRead_asc m, Nat.le_trans (M.mRead_len m) (Nat.le_trans h.len (by decide)), fun f hf => h.wd f (M.mRead_mem hf)⟩
theorem StrIn.wide {w : World} {m : List M.Fn} {v : Value} (h : StrIn w m v) : StrInW w m v := ⟨h.list, h.len, h.fw, fun f hf => M.fnWd_le (h.wd f hf) (by decide)⟩
theorem vput_boxV {w : World} {k : Nat} {y0 y1 y2 : Value} {T : TypeId} (h : Box w k #[y0, y1, y2] T) (x0 x1 x2 : Value) : Box (put3v w k x0 x1 x2) k #[x0, x1, x2] T := ((h.setAt 0 x0).setAt 1 x1).setAt 2 x2
set_option maxHeartbeats 4000000 in
theorem worth_v {U : Nat} (hU : 40 ≤ U) (hU2 : U ≤ 70000) {m : List M.Fn} {t : M.Tm} {mv v : Value} {w : World} (hm : StrOk w m mv) (hno : ∀ f ∈ m, M.fnWd U f ∨ M.kHas f.sg.name t = false) (ht : IsTm w t v) (hf : M.kfew t = true) (hT : Tab w) : Calls Tryz.prog 39 #[mv, v] w (GivesVW w (M.mWorth m t) (U + 50 * M.kcnt t)) := by
 have HI := hid (show ∀ w', Ext w w' → Calls Tryz.prog 65 #[v] w' (GivesB w' (M.kIs t)) from fun w' e => is_t (ht.up e) hf (hT.up e))
 have HT := hid (show M.kIs t = true → ∀ w', Ext w w' → Calls Tryz.prog 66 #[mv, v] w' (GivesVW w' (M.ev m t) (U + 50 * M.kcnt t)) from fun hk w' e => by
  unfold M.kIs at hk
  rw [Bool.and_eq_true, decide_eq_true_iff] at hk
  exact term_v hU hU2 (M.kcnt t + 1) (Nat.lt_succ_self _) hk.2 hk.1 hf (hm.up e) hno (ht.up e))
 obtain ⟨X, hX⟩ : ∃ X, M.mWorth m t = X := ⟨_, rfl⟩
 rw [hX]
 have HX := hid (show X = if M.kIs t = true then M.ev m t else (1, false, []) by rw [← hX]; rfl)
 obtain ⟨q, hq⟩ : ∃ q, M.kIs t = q := ⟨_, rfl⟩
 rw [hq] at HI HX HT
 obtain ⟨MA, mc, rfl⟩ := hm.list.shape
 obtain ⟨mn, hmn⟩ : ∃ n, m.length = n := ⟨_, rfl⟩
 rw [hmn] at HT ⊢
 obtain ⟨N, nn, nc, A, c, rfl, -, -⟩ := ht
 obtain ⟨o1, ho1⟩ : ∃ o, t.op = o := ⟨_, rfl⟩
 obtain ⟨o2, ho2⟩ : ∃ o, t.g = o := ⟨_, rfl⟩
 obtain ⟨o3, ho3⟩ : ∃ o, t.name = o := ⟨_, rfl⟩
 obtain ⟨o4, ho4⟩ : ∃ o, t.sort = o := ⟨_, rfl⟩
 obtain ⟨o5, ho5⟩ : ∃ o, t.kids.length = o := ⟨_, rfl⟩
 rw [ho1, ho2, ho3, ho4, ho5] at HI HT ⊢
 have HTF := hid (fun w' => truth_v false w')
 have HB0 := hid (show Box ((w.alloc (.cells #[.int .i64 o1, .bool o2, .slice N nn nc, str o3, .int .i64 o4, .slice A o5 c] 27)).alloc (.cells zero3v 38)) w.heap.size #[.int .i64 o1, .bool o2, .slice N nn nc, str o3, .int .i64 o4, .slice A o5 c] 27 from (Box.new w _ _).alloc _)
 have HB1 := hid (show Box ((w.alloc (.cells #[.int .i64 o1, .bool o2, .slice N nn nc, str o3, .int .i64 o4, .slice A o5 c] 27)).alloc (.cells zero3v 38)) (w.heap.size + 1) zero3v 38 from Box.at_ (w := w.alloc (.cells #[.int .i64 o1, .bool o2, .slice N nn nc, str o3, .int .i64 o4, .slice A o5 c] 27)) _ _ (by simp))
 have E0 := hid (alloc_two w (.cells #[.int .i64 o1, .bool o2, .slice N nn nc, str o3, .int .i64 o4, .slice A o5 c] 27) (.cells zero3v 38))
 clear hm hf hT hX hq hmn ho1 ho2 ho3 ho4 ho5
 go_enter Tryz.func39, Tryz.ntmps39
 go_upto_region 1 with (fail)
 refine vwp_at (fun W => Box W w.heap.size #[.int .i64 o1, .bool o2, .slice N nn nc, str o3, .int .i64 o4, .slice A o5 c] 27 ∧ Box W (w.heap.size + 1) zero3v 38 ∧ Ext w W) ⟨HB0.out, HB1.out, E0.out⟩ ?_
 clear HB0 HB1 E0
 intro W ⟨hb0, hb1, he⟩
 obtain ⟨g0, hg0⟩ : ∃ g, w.heap.size = g := ⟨_, rfl⟩
 have HG := hid (show w.heap.size ≤ g0 + 1 by omega)
 rw [hg0] at hb0 hb1 ⊢
 have HB0 := hid hb0
 have HB1 := hid hb1
 have E := hid he
 clear hb0 hb1 he hg0
 obtain ⟨⟨b0, b1, b2, b3, b4, b5⟩, -, -⟩ := boxF6 HB0.out
 go_wp2_with fail
 refine (HI.out _ E.out).mono ?_
 rintro e w1 ⟨rfl, hx⟩
 replace E := hid (E.out.trans hx)
 replace HB0 := hid (HB0.out.up hx)
 replace HB1 := hid (HB1.out.up hx)
 clear hx b0 b1 b2 b3 b4 b5 HI
 obtain ⟨⟨b0, b1, b2, b3, b4, b5⟩, -, -⟩ := boxF6 HB0.out
 cases q
 ·have HE := hid (show X = M.vTruth false by rw [HX.out]; rfl)
  clear HX HT
  go_wp2_with fail
  refine (HTF.out _).mono ?_
  rintro e w3 ⟨v3, rfl, hv3, hb⟩
  have HV3 := hid hv3
  obtain ⟨N3, n3, c3, rfl, -⟩ := hv3
  replace E := hid (E.out.trans hb)
  replace HB1 := hid (HB1.out.up hb)
  clear hb HTF b0 b1 b2 b3 b4 b5
  obtain ⟨⟨r0, r1, r2⟩, ⟨f0, f1, f2⟩, hz⟩ := box3v HB1.out
  go_wp2_with fail
  refine bodyPost_ret (v := vv (M.vTruth false).1 (M.vTruth false).2.1 N3 n3 c3) (by simp [results, Tryz.results39, go_sem, r0, r1, r2, hz]) rfl ?_
  rw [HE.out]
  exact v_stored HB1.out HV3.out (Nat.zero_le _) E.out HG.out
 ·have HE := hid (show X = M.ev m t by rw [HX.out, if_pos rfl])
  have HC := hid (HT.out rfl _ E.out)
  rw [← HE.out] at HC
  clear HX HT HTF
  go_wp2_with fail
  refine HC.out.mono ?_
  rintro e w3 ⟨v3, rfl, hv3, hb, hwd⟩
  have HV3 := hid hv3
  obtain ⟨N3, n3, c3, rfl, -⟩ := hv3
  replace E := hid (E.out.trans hb)
  replace HB1 := hid (HB1.out.up hb)
  have HWX := hid hwd
  clear hb HC b0 b1 b2 b3 b4 b5 hwd
  obtain ⟨⟨r0, r1, r2⟩, ⟨f0, f1, f2⟩, hz⟩ := box3v HB1.out
  obtain ⟨xs, xg, xl⟩ := X
  go_wp2_with fail
  refine bodyPost_ret (v := vv xs xg N3 n3 c3) (by simp [results, Tryz.results39, go_sem, r0, r1, r2, hz]) rfl ?_
  exact v_stored HB1.out HV3.out HWX.out E.out HG.out
theorem M.mEval_wide {m : List M.Fn} {t : M.Tm} (h : (M.mEval m t).2.2.length ≤ 40 + 50 * M.kcnt t) : (M.mEval m t).2.2.length ≤ 20050 := by
 by_cases hk : M.kIs t = true
 ·have h1 := hk
  unfold M.kIs at h1
  rw [Bool.and_eq_true, decide_eq_true_iff] at h1
  have := h1.1
  omega
 ·unfold M.mEval
  rw [if_neg hk]
  exact Nat.zero_le _
set_option maxHeartbeats 4000000 in
theorem eval_vU {U : Nat} (hU : 40 ≤ U) (hU2 : U ≤ 70000) {m : List M.Fn} {t : M.Tm} {mv v : Value} {w : World} (hm : StrInW w m mv) (hno : ∀ f ∈ m, M.fnWd U f ∨ M.kHas f.sg.name t = false) (ht : IsTm w t v) (hf : M.kfew t = true) (hT : Tab w) : Calls Tryz.prog 14 #[v, mv] w (GivesVW w (M.mEval m t) (U + 50 * M.kcnt t)) := by
 have HRD := hid (show ∀ w', Ext w w' → Calls Tryz.prog 38 #[mv] w' (fun e w'' => ∃ u, e = .returned u ∧ FnList w' (M.mRead m) u ∧ Ext w' w'') from fun w' e => read_v (hm.list.up e) fun f hf => (hm.fw f hf).2.1)
 have HW := hid (show ∀ w' u, Ext w w' → FnList w' (M.mRead m) u → Calls Tryz.prog 39 #[u, v] w' (GivesVW w' (M.mEval m t) (U + 50 * M.kcnt t)) from fun w' u e hu => worth_v hU hU2 (hm.read hu) (fun f hf => hno f (M.mRead_mem hf)) (ht.up e) hf (hT.up e))
 obtain ⟨X, hX⟩ : ∃ X, M.mEval m t = X := ⟨_, rfl⟩
 rw [hX] at HW ⊢
 obtain ⟨MA, mc, rfl⟩ := hm.list.shape
 obtain ⟨mn, hmn⟩ : ∃ n, m.length = n := ⟨_, rfl⟩
 rw [hmn] at HRD ⊢
 obtain ⟨N, nn, nc, A, c, rfl, -, -⟩ := ht
 obtain ⟨o1, ho1⟩ : ∃ o, t.op = o := ⟨_, rfl⟩
 obtain ⟨o2, ho2⟩ : ∃ o, t.g = o := ⟨_, rfl⟩
 obtain ⟨o3, ho3⟩ : ∃ o, t.name = o := ⟨_, rfl⟩
 obtain ⟨o4, ho4⟩ : ∃ o, t.sort = o := ⟨_, rfl⟩
 obtain ⟨o5, ho5⟩ : ∃ o, t.kids.length = o := ⟨_, rfl⟩
 rw [ho1, ho2, ho3, ho4, ho5] at HW ⊢
 have HB0 := hid (show Box ((w.alloc (.cells #[.int .i64 o1, .bool o2, .slice N nn nc, str o3, .int .i64 o4, .slice A o5 c] 27)).alloc (.cells zero3v 38)) w.heap.size #[.int .i64 o1, .bool o2, .slice N nn nc, str o3, .int .i64 o4, .slice A o5 c] 27 from (Box.new w _ _).alloc _)
 have HB1 := hid (show Box ((w.alloc (.cells #[.int .i64 o1, .bool o2, .slice N nn nc, str o3, .int .i64 o4, .slice A o5 c] 27)).alloc (.cells zero3v 38)) (w.heap.size + 1) zero3v 38 from Box.at_ (w := w.alloc (.cells #[.int .i64 o1, .bool o2, .slice N nn nc, str o3, .int .i64 o4, .slice A o5 c] 27)) _ _ (by simp))
 have E0 := hid (alloc_two w (.cells #[.int .i64 o1, .bool o2, .slice N nn nc, str o3, .int .i64 o4, .slice A o5 c] 27) (.cells zero3v 38))
 clear hm hf hT hX hmn ho1 ho2 ho3 ho4 ho5
 go_enter Tryz.func14, Tryz.ntmps14
 go_upto_region 1 with (fail)
 refine vwp_at (fun W => Box W w.heap.size #[.int .i64 o1, .bool o2, .slice N nn nc, str o3, .int .i64 o4, .slice A o5 c] 27 ∧ Box W (w.heap.size + 1) zero3v 38 ∧ Ext w W) ⟨HB0.out, HB1.out, E0.out⟩ ?_
 clear HB0 HB1 E0
 intro W ⟨hb0, hb1, he⟩
 obtain ⟨g0, hg0⟩ : ∃ g, w.heap.size = g := ⟨_, rfl⟩
 have HG := hid (show w.heap.size ≤ g0 + 1 by omega)
 rw [hg0] at hb0 hb1 ⊢
 have HB0 := hid hb0
 have HB1 := hid hb1
 have E := hid he
 clear hb0 hb1 he hg0
 refine wp_region_D [(0, 0), (2, 0), (1, 1), (3, 1), (4, 4)] fun wd hb => ?_
 replace E := hid (E.out.trans hb)
 replace HB0 := hid (HB0.out.up hb)
 replace HB1 := hid (HB1.out.up hb)
 clear hb
 refine WE.p 5 (.slice MA mn mc) ?_
 simp only [pX]
 refine WE.q 7 (kv o1 o2 N nn nc o3 o4 A o5 c) rfl (fun w' hk => by obtain ⟨⟨x0, x1, x2, x3, x4, x5⟩, -, -⟩ := boxF6 (HB0.out.up hk); go_simp) ?_
 simp only [pX]
 refine WE.c 6 ((HRD.out _ E.out).mono ?_)
 rintro e w1 ⟨u, rfl, hu, hb⟩
 refine ⟨_, rfl, hb, ?_⟩
 replace E := hid (E.out.trans hb)
 replace HB1 := hid (HB1.out.up hb)
 have HC := hid (HW.out _ u E.out (hu.up hb))
 obtain ⟨B, c2, rfl⟩ := hu.shape
 clear hb hu HRD HW HB0
 simp only [pX]
 refine WE.c 8 (HC.out.mono ?_)
 rintro e w3 ⟨v3, rfl, hv3, hb, hwd⟩
 refine ⟨_, rfl, hb, ?_⟩
 have HV3 := hid hv3
 obtain ⟨N3, n3, c3, rfl, -⟩ := hv3
 replace E := hid (E.out.trans hb)
 replace HB1 := hid (HB1.out.up hb)
 have HWX := hid hwd
 clear hb HC hwd
 obtain ⟨⟨r0, r1, r2⟩, ⟨f0, f1, f2⟩, hz⟩ := box3v HB1.out
 obtain ⟨xs, xg, xl⟩ := X
 simp only [pX]
 refine WE.store (w' := put3v w3 (g0 + 1) (.int .i64 xs) (.bool xg) (.slice N3 n3 c3)) rfl rfl (by rfl) (by go_simp) (by simp) ?_
 refine WE.done ?_
 have HP := hid (show GivesVW w (xs, xg, xl) (U + 50 * M.kcnt t) (.returned (vv xs xg N3 n3 c3)) (put3v w3 (g0 + 1) (.int .i64 xs) (.bool xg) (.slice N3 n3 c3)) from v_stored HB1.out HV3.out HWX.out E.out HG.out)
 have hB2 := vput_boxV HB1.out (.int .i64 xs) (.bool xg) (.slice N3 n3 c3)
 obtain ⟨W3, hW3⟩ : ∃ W3, W3 = put3v w3 (g0 + 1) (.int .i64 xs) (.bool xg) (.slice N3 n3 c3) := ⟨_, rfl⟩
 rw [← hW3] at HP hB2 ⊢
 clear hW3 r0 r1 r2 f0 f1 f2 hz
 obtain ⟨⟨r0, r1, r2⟩, -, hz⟩ := box3v hB2
 go_wp2_with fail
 exact bodyPost_ret (v := vv xs xg N3 n3 c3) (by simp [results, Tryz.results14, go_sem, r0, r1, r2, hz]) rfl HP.out
theorem eval_vW {m : List M.Fn} {t : M.Tm} {mv v : Value} {w : World} (hm : StrInW w m mv) (hno : ∀ f ∈ m, M.fnWd 40 f ∨ M.kHas f.sg.name t = false) (ht : IsTm w t v) (hf : M.kfew t = true) (hT : Tab w) : Calls Tryz.prog 14 #[v, mv] w (GivesVW w (M.mEval m t) 20050) :=
 (eval_vU (Nat.le_refl _) (by decide) hm hno ht hf hT).mono fun _ _ ⟨v, h1, h2, h3, h4⟩ => ⟨v, h1, h2, h3, M.mEval_wide h4⟩
theorem eval_v {m : List M.Fn} {t : M.Tm} {mv v : Value} {w : World} (hm : StrIn w m mv) (ht : IsTm w t v) (hf : M.kfew t = true) (hT : Tab w) : Calls Tryz.prog 14 #[v, mv] w (GivesVW w (M.mEval m t) 20050) := eval_vW hm.wide (fun f hf => .inl (hm.wd f hf)) ht hf hT
set_option maxHeartbeats 4000000 in
theorem ofF_v {m : List M.Fn} {s : M.Sg} {vs : List M.Vl} {mv sv u : Value} {w : World} (hm : StrIn w m mv) (hs : IsSg w s sv) (hv : VList w u vs) : Calls Tryz.prog 30 #[mv, sv, u] w (GivesV w (M.mOf (M.mRead m) s vs)) := by
 have HRD := hid (show ∀ w', Ext w w' → Calls Tryz.prog 38 #[mv] w' (fun e w'' => ∃ u, e = .returned u ∧ FnList w' (M.mRead m) u ∧ Ext w' w'') from fun w' e => read_v (hm.list.up e) fun f hf => (hm.fw f hf).2.1)
 have HW := hid (show ∀ w' a, Ext w w' → FnList w' (M.mRead m) a → Calls Tryz.prog 57 #[a, sv, u] w' (GivesV w' (M.mOf (M.mRead m) s vs)) from fun w' a e ha => by
  have hk := hm.read ha
  exact of_v ha hk.asc (hs.up e) (hv.up e) hk.len fun f hf => ⟨Nat.le_trans (hk.wd f hf).1 (by decide), fun r hr => Nat.le_trans ((hk.wd f hf).2 r hr) (by decide)⟩)
 obtain ⟨X, hX⟩ : ∃ X, M.mOf (M.mRead m) s vs = X := ⟨_, rfl⟩
 rw [hX] at HW ⊢
 obtain ⟨MA, mc, rfl⟩ := hm.list.shape
 obtain ⟨mn, hmn⟩ : ∃ n, m.length = n := ⟨_, rfl⟩
 rw [hmn] at HRD ⊢
 obtain ⟨B, d, rfl, -⟩ := hs
 obtain ⟨o1, ho1⟩ : ∃ o, s.name = o := ⟨_, rfl⟩
 obtain ⟨o2, ho2⟩ : ∃ o, s.args.length = o := ⟨_, rfl⟩
 obtain ⟨o3, ho3⟩ : ∃ o, s.ret = o := ⟨_, rfl⟩
 rw [ho1, ho2, ho3] at HW ⊢
 obtain ⟨VA, vn, vc, rfl⟩ := hv.shape
 have HB0 := hid (show Box ((w.alloc (.cells #[str o1, .slice B o2 d, .int .i64 o3] 52)).alloc (.cells zero3v 38)) w.heap.size #[str o1, .slice B o2 d, .int .i64 o3] 52 from (Box.new w _ _).alloc _)
 have HB1 := hid (show Box ((w.alloc (.cells #[str o1, .slice B o2 d, .int .i64 o3] 52)).alloc (.cells zero3v 38)) (w.heap.size + 1) zero3v 38 from Box.at_ (w := w.alloc (.cells #[str o1, .slice B o2 d, .int .i64 o3] 52)) _ _ (by simp))
 have E0 := hid (alloc_two w (.cells #[str o1, .slice B o2 d, .int .i64 o3] 52) (.cells zero3v 38))
 clear hm hv hX hmn ho1 ho2 ho3
 go_enter Tryz.func30, Tryz.ntmps30
 go_upto_region 1 with (fail)
 refine vwp_at (fun W => Box W w.heap.size #[str o1, .slice B o2 d, .int .i64 o3] 52 ∧ Box W (w.heap.size + 1) zero3v 38 ∧ Ext w W) ⟨HB0.out, HB1.out, E0.out⟩ ?_
 clear HB0 HB1 E0
 intro W ⟨hb0, hb1, he⟩
 obtain ⟨g0, hg0⟩ : ∃ g, w.heap.size = g := ⟨_, rfl⟩
 have HG := hid (show w.heap.size ≤ g0 + 1 by omega)
 rw [hg0] at hb0 hb1 ⊢
 have HB0 := hid hb0
 have HB1 := hid hb1
 have E := hid he
 clear hb0 hb1 he hg0
 refine wp_region_D [(0, 0), (2, 0), (3, 0), (1, 1), (4, 1), (5, 4)] fun wd hb => ?_
 replace E := hid (E.out.trans hb)
 replace HB0 := hid (HB0.out.up hb)
 replace HB1 := hid (HB1.out.up hb)
 clear hb
 refine WE.p 7 (.slice MA mn mc) ?_
 simp only [pX]
 refine WE.q 9 (sgv o1 B o2 d o3) rfl (fun w' hk => by obtain ⟨x0, x1, x2⟩ := box3b (HB0.out.up hk); go_simp) ?_
 simp only [pX]
 refine WE.p 10 (.slice VA vn vc) ?_
 simp only [pX]
 refine WE.c 8 ((HRD.out _ E.out).mono ?_)
 rintro e w1 ⟨u, rfl, hu, hb⟩
 refine ⟨_, rfl, hb, ?_⟩
 replace E := hid (E.out.trans hb)
 replace HB1 := hid (HB1.out.up hb)
 have HC := hid (HW.out _ u E.out (hu.up hb))
 obtain ⟨U, c2, rfl⟩ := hu.shape
 clear hb hu HRD HW HB0
 simp only [pX]
 refine WE.c 11 (HC.out.mono ?_)
 rintro e w3 ⟨v3, rfl, hv3, hb⟩
 refine ⟨_, rfl, hb, ?_⟩
 have HV3 := hid hv3
 obtain ⟨N3, n3, c3, rfl, -⟩ := hv3
 replace E := hid (E.out.trans hb)
 replace HB1 := hid (HB1.out.up hb)
 clear hb HC
 obtain ⟨⟨r0, r1, r2⟩, ⟨f0, f1, f2⟩, hz⟩ := box3v HB1.out
 obtain ⟨xs, xg, xl⟩ := X
 simp only [pX]
 refine WE.store (w' := put3v w3 (g0 + 1) (.int .i64 xs) (.bool xg) (.slice N3 n3 c3)) rfl rfl (by rfl) (by go_simp) (by simp) ?_
 refine WE.done ?_
 have HP := hid (show GivesV w (xs, xg, xl) (.returned (vv xs xg N3 n3 c3)) (put3v w3 (g0 + 1) (.int .i64 xs) (.bool xg) (.slice N3 n3 c3)) from ⟨_, rfl, HV3.out.put3 HB1.out, put3v_ext E.out HG.out⟩)
 have hB2 := vput_boxV HB1.out (.int .i64 xs) (.bool xg) (.slice N3 n3 c3)
 obtain ⟨W3, hW3⟩ : ∃ W3, W3 = put3v w3 (g0 + 1) (.int .i64 xs) (.bool xg) (.slice N3 n3 c3) := ⟨_, rfl⟩
 rw [← hW3] at HP hB2 ⊢
 clear hW3 r0 r1 r2 f0 f1 f2 hz
 obtain ⟨⟨r0, r1, r2⟩, -, hz⟩ := box3v hB2
 go_wp2_with fail
 exact bodyPost_ret (v := vv xs xg N3 n3 c3) (by simp [results, Tryz.results30, go_sem, r0, r1, r2, hz]) rfl HP.out
set_option maxHeartbeats 8000000 in
theorem true_v {m : List M.Fn} {l : List M.Tm} {mv v : Value} {w : World} (hm : StrIn w m mv) (hl : Tms w l v) (hf : M.kfews l = true) (hT : Tab w) : Calls Tryz.prog 29 #[v, mv] w (GivesB w (M.mTrue m l)) := by
 have HRD := hid (show ∀ w', Ext w w' → Calls Tryz.prog 38 #[mv] w' (fun e w'' => ∃ u, e = .returned u ∧ FnList w' (M.mRead m) u ∧ Ext w' w'') from fun w' e => read_v (hm.list.up e) fun f hf => (hm.fw f hf).2.1)
 have HW := hid (show ∀ w' u, Ext w w' → FnList w' (M.mRead m) u → ∀ k t tv, l[k]? = some t → IsTm w' t tv → Calls Tryz.prog 39 #[u, tv] w' (GivesVW w' (M.mEval m t) 20050) from fun w' u e hu k t tv ht hi => (worth_v (U := 40) (Nat.le_refl _) (by decide) (hm.read hu) (fun f hf => .inl (hm.wd f (M.mRead_mem hf))) hi (M.kfews_at hf ht) (hT.up e)).mono fun _ _ ⟨v, h1, h2, h3, h4⟩ => ⟨v, h1, h2, h3, M.mEval_wide (m := m) (t := t) h4⟩)
 have HTR := hid (fun w' => truth_v true w')
 obtain ⟨R, hRR⟩ : ∃ R, M.mTrue m l = R := ⟨_, rfl⟩
 rw [hRR]
 have HRR := hid hRR
 obtain ⟨MA, mc, rfl⟩ := hm.list.shape
 obtain ⟨mn, hmn⟩ : ∃ n, m.length = n := ⟨_, rfl⟩
 rw [hmn] at HRD ⊢
 obtain ⟨A, c, rfl⟩ := hl.shape
 obtain ⟨h1, h2, h3⟩ := hl.le
 obtain ⟨n, hn⟩ : ∃ n, l.length = n := ⟨_, rfl⟩
 rw [hn] at hl h2 ⊢
 have HL := hid hl
 have HN := hid hn
 clear hm hf hT hRR hmn hl hn h1
 go_enter Tryz.func29, Tryz.ntmps29
 go_wp2_with fail
 refine (HRD.out _ (Ext.refl _)).mono ?_
 rintro e w1 ⟨u, rfl, hu, hx⟩
 replace hu := hu.up hx
 obtain ⟨U, uc, rfl⟩ := hu.shape
 obtain ⟨un, hun⟩ : ∃ n, (M.mRead m).length = n := ⟨_, rfl⟩
 rw [hun] at hu ⊢
 have HU := hid hu
 have E := hid hx
 clear hu hx hun HRD
 go_wp2_with fail
 refine (HTR.out _).mono ?_
 rintro e w2 ⟨v2, rfl, hv2, hx⟩
 have HV2 := hid hv2
 obtain ⟨N2, n2, c2', rfl, hnn⟩ := hv2
 obtain ⟨Y, hY⟩ : ∃ Y, M.vTruth true = Y := ⟨_, rfl⟩
 rw [hY] at HV2 hnn ⊢
 have HYY := hid hY
 obtain ⟨ys, yg, yl⟩ := Y
 replace E := hid (E.out.trans hx)
 replace HU := hid (HU.out.up hx)
 have HY := hid (show LNum w2 (.slice N2 n2 c2') yl from hnn)
 clear hx hnn hY HTR HV2
 go_upto_region 2 with (fail)
 refine vwp_at (fun W => Box W w2.heap.size #[.int .i64 ys, .bool yg, .slice N2 n2 c2'] 38 ∧ Ext w2 W) ⟨Box.new w2 _ _, Ext.alloc w2 _⟩ ?_
 intro W ⟨hb0, he⟩
 obtain ⟨g0, hg0⟩ : ∃ g, w2.heap.size = g := ⟨_, rfl⟩
 rw [hg0] at hb0 ⊢
 have HB := hid hb0
 replace E := hid (E.out.trans he)
 replace HU := hid (HU.out.up he)
 have HYN := hid (LNum.up HY.out he)
 clear hb0 he hg0 HY
 go_wp2_with fail
 go_loopw [14] (fun i wr => ∃ k : Nat, k ≤ n ∧ i = .int .i64 k ∧ Hid ((l.take k).all (fun t => M.vSame (M.mEval m t) (M.vTruth true)) = true ∧ Ext W wr)) (fun i _ => n - (intOf i).toNat)
 case atStart => exact ⟨0, Nat.zero_le _, rfl, by simp, Ext.refl _⟩
 case round =>
  obtain ⟨k, hk, rfl, hR⟩ := hrel
  have HS := hid hR.out.1
  have E2 := hid hR.out.2
  clear hR
  have Ew := hid (E.out.trans E2.out)
  rcases Nat.lt_or_ge k n with hlt | hge
  ·have hlt' : (k : Int) < (n : Int) := by omega
   obtain ⟨ad, t, N, nn, nc, B, d, rfl, ht, ⟨c0, c1, c2, c3, c4, c5⟩, hit⟩ := (HL.out.up Ew.out).get hlt
   have HT := hid ht
   obtain ⟨o1, ho1⟩ : ∃ o, t.op = o := ⟨_, rfl⟩
   obtain ⟨o2, ho2⟩ : ∃ o, t.g = o := ⟨_, rfl⟩
   obtain ⟨o3, ho3⟩ : ∃ o, t.name = o := ⟨_, rfl⟩
   obtain ⟨o4, ho4⟩ : ∃ o, t.sort = o := ⟨_, rfl⟩
   obtain ⟨o5, ho5⟩ : ∃ o, t.kids.length = o := ⟨_, rfl⟩
   rw [ho1] at c0 hit
   rw [ho2] at c1 hit
   rw [ho3] at c3 hit
   rw [ho4] at c4 hit
   rw [ho5] at c5 hit
   have HC := hid (show ∀ w', Ext wr w' → Calls Tryz.prog 39 #[.slice U un uc, kv o1 o2 N nn nc o3 o4 B o5 d] w' (GivesVW w' (M.mEval m t) 20050) from fun w' e => HW.out w' _ (Ew.out.trans e) (HU.out.up (E2.out.trans e)) k t _ ht (hit.up e))
   obtain ⟨X, hX⟩ : ∃ X, M.mEval m t = X := ⟨_, rfl⟩
   rw [hX] at HC
   obtain ⟨q, hq⟩ : ∃ q, M.vSame X (ys, yg, yl) = q := ⟨_, rfl⟩
   have HQ := hid (show M.vSame (M.mEval m t) (M.vTruth true) = q by rw [hX, HYY.out]; exact hq)
   have HQ2 := hid hq
   have HBt := hid (Box.new wr #[.int .i64 o1, .bool o2, .slice N nn nc, str o3, .int .i64 o4, .slice B o5 d] 27)
   have EB := hid (Ext.alloc wr (.cells #[.int .i64 o1, .bool o2, .slice N nn nc, str o3, .int .i64 o4, .slice B o5 d] 27))
   clear ht hit ho1 ho2 ho3 ho4 ho5 hX hq
   go_upto_region 5 with (fail)
   refine vwp_at (fun W' => Box W' wr.heap.size #[.int .i64 o1, .bool o2, .slice N nn nc, str o3, .int .i64 o4, .slice B o5 d] 27 ∧ Ext wr W') ⟨HBt.out, EB.out⟩ ?_
   clear HBt EB c0 c1 c2 c3 c4 c5
   intro W' ⟨hb0, he⟩
   obtain ⟨g1, hg1⟩ : ∃ g, wr.heap.size = g := ⟨_, rfl⟩
   rw [hg1] at hb0 ⊢
   have HBt := hid hb0
   have E3 := hid he
   clear hb0 he hg1
   refine wp_region_D [(0, 0), (1, 0), (3, 0), (2, 1), (4, 1), (5, 0)] fun wd hb => ?_
   replace E3 := hid (E3.out.trans hb)
   replace HBt := hid (HBt.out.up hb)
   clear hb
   refine WE.p 18 (.slice U un uc) ?_
   simp only [pX]
   refine WE.q 19 (kv o1 o2 N nn nc o3 o4 B o5 d) rfl (fun w' hk => by obtain ⟨⟨x0, x1, x2, x3, x4, x5⟩, -, -⟩ := boxF6 (HBt.out.up hk); go_simp) ?_
   simp only [pX]
   refine WE.q 21 (vv ys yg N2 n2 c2') rfl (fun w' hk => by obtain ⟨⟨x0, x1, x2⟩, -, -⟩ := box3v (HB.out.up ((E2.out.trans E3.out).trans hk)); go_simp) ?_
   simp only [pX]
   refine WE.c 20 ((HC.out _ E3.out).mono ?_)
   rintro e w4 ⟨v4, rfl, hv4, hb, -⟩
   refine ⟨_, rfl, hb, ?_⟩
   have HSM := hid (HQ2.out ▸ same_v hv4 (⟨N2, n2, c2', rfl, LNum.up HYN.out ((E2.out.trans E3.out).trans hb)⟩ : IsVl w4 (ys, yg, yl) (vv ys yg N2 n2 c2')))
   obtain ⟨N4, n4, c4, rfl, -⟩ := hv4
   replace E3 := hid (E3.out.trans hb)
   clear hb HC HBt
   simp only [pX]
   refine WE.c 22 (HSM.out.mono ?_)
   rintro e w5 ⟨rfl, hb⟩
   refine ⟨_, rfl, hb, ?_⟩
   replace E3 := hid (E3.out.trans hb)
   clear hb HSM
   simp only [pX]
   refine WE.p 23 (.bool (!q)) ?_
   simp only [pX]
   refine WE.done ?_
   cases q
   ·have HF := hid (show R = false from HRR.out.symm.trans (M.not_all HT.out HQ.out))
    go_wp2
    go_ret
    exact ⟨by rw [HF.out]; rfl, Ew.out.trans E3.out⟩
   ·simp only [Bool.not_true]
    go_wp2_with fail
    go_roundw
    case rel => exact ⟨k + 1, by omega, by simp, by rw [M.all_take HT.out, HS.out, HQ.out]; rfl, E2.out.trans E3.out⟩
    case measure => simp [intOf]; omega
  ·obtain rfl : k = n := by omega
   have HF := hid (show R = true by have h1 := HS.out; rw [← HN.out, List.take_length] at h1; exact HRR.out.symm.trans h1)
   go_wp2
   go_ret
   exact ⟨by rw [HF.out]; rfl, Ew.out⟩
theorem vcon_n (nm : List UInt8) (so : Int) (w : World) : Calls Tryz.prog 27 #[str nm, .int .i64 so] w (GivesT1 w (.mk 4 false [] nm so [])) := by
 go_enter Tryz.func27, Tryz.ntmps27
 go_wp2_with fail
 refine bodyPost_ret (v := kv 4 false none 0 0 nm so none 0 0) (by simp [results, Tryz.results27, go_sem]) rfl ?_
 exact ⟨_, rfl, ⟨none, 0, 0, none, 0, rfl, LNum.nil _, Tms.nil _⟩, Ext.alloc _ _⟩
set_option maxHeartbeats 4000000 in
theorem vnum_n {Z : Int} (h1 : -9223372036854775808 ≤ Z) (h2 : Z ≤ 9223372036854775807) (w : World) : Calls Tryz.prog 17 #[.int .i64 Z] w (GivesT1 w (M.knumT Z)) := by
 have HC := hid (show ∀ w', Calls Tryz.prog 20 #[.int .i64 Z] w' (GivesZ w' Z 3) from fun w' => rOf_z h1 h2 w')
 clear h1 h2
 go_enter Tryz.func17, Tryz.ntmps17
 go_wp2_with fail
 refine (HC.out _).mono ?_
 rintro e w1 ⟨v1, rfl, hv1, hx⟩
 obtain ⟨A1, n1, c1, rfl, hn1, hk1⟩ := hv1
 have hbx : Ext (w.alloc (.cells zero6 27)) w1 := hx
 obtain ⟨⟨r0, r1, r2, r3, r4, r5⟩, ⟨q0, q1, q2, q3, q4, q5⟩, hz⟩ := boxF6 ((Box.new w zero6 27).up hbx)
 have E := hid (show Ext w w1 from (Ext.alloc w _).trans hbx)
 have HN1 := hid hn1
 have HB := hid ((Box.new w zero6 27).up hbx)
 obtain ⟨d, hd⟩ : ∃ d, decide (Z < 0) = d := ⟨_, rfl⟩
 rw [hd]
 have HD := hid hd
 clear hx hbx hn1 hk1 hd
 go_wp2_with fail
 refine bodyPost_ret (v := kv 1 d A1 n1 c1 [] 2 none 0 0) (by simp [results, Tryz.results17, go_sem, r0, r1, r2, r3, r4, r5, hz]) rfl ?_
 refine ⟨_, rfl, ⟨A1, n1, c1, none, 0, by rw [← HD.out]; rfl, ?_, Tms.nil _⟩, put6_ext E.out (Nat.le_refl _)⟩
 exact num_put6 HN1.out HB.out rfl
theorem isVl_num {w : World} {Z : Int} {A : Option Addr} {n c : Nat} {d : Bool} (hd : decide (Z < 0) = d) (h : LNum w (.slice A n c) (M.limbs Z.natAbs)) : IsVl w (M.vz 2 Z) (vv 2 d A n c) := ⟨A, n, c, by rw [← hd]; rfl, h⟩
theorem equal_same {w : World} {g : Bool} {A A' : Option Addr} {n c n' c' : Nat} {ls : List Nat} (h : LNum w (.slice A n c) ls) (h' : LNum w (.slice A' n' c') ls) : Calls Tryz.prog 15 #[.agg #[.bool g, .slice A n c], .agg #[.bool g, .slice A' n' c']] w (GivesB w true) := by
 have := requal_n (g := g) (g' := g) h h'
 rwa [decide_eq_true (show g = g ∧ ls = ls from ⟨rfl, rfl⟩)] at this
def M.tK : M.Tm := .mk 17 false [] [] 2 [.mk 4 false [] [120] 2 [], M.knumT 2]
def M.mK : List M.Fn := [M.constF [120] (M.vz 2 (-7))]
theorem M.put_K : M.mPut (M.mRead []) (M.constF [120] (M.vz 2 (-7))) = M.mK := by kernel_rfl
theorem M.is_K : M.mIs M.mK = true := by kernel_rfl
theorem M.eval_K : M.mEval M.mK M.tK = M.vz 2 1 := by kernel_rfl
theorem M.few_K : M.kfew M.tK = true := by kernel_rfl
theorem M.true_K : M.mTrue M.mK [.mk 4 false [] [112] 1 []] = false := by kernel_rfl
theorem M.of_K : M.mOf (M.mRead M.mK) ⟨[120], [], 2⟩ [] = M.vz 2 (-7) := by kernel_rfl
theorem M.K_wd : (∀ f ∈ M.mK, M.funWd f) ∧ ∀ f ∈ M.mK, M.fnWd 40 f := by
 have h1 : (M.vz 2 (-7)).2.2.length = 1 := by decide +kernel
 constructor
 ·intro f hf
  obtain rfl : f = M.constF [120] (M.vz 2 (-7)) := by simpa [M.mK] using hf
  exact M.constF_wd (by decide) (by rw [h1]; decide)
 ·intro f hf
  obtain rfl : f = M.constF [120] (M.vz 2 (-7)) := by simpa [M.mK] using hf
  exact ⟨by show (M.vz 2 (-7)).2.2.length ≤ 40; rw [h1]; decide, fun r hr => (by cases hr)⟩
theorem M.same_K : M.vSame (M.vz 2 1) (M.vz 2 1) = true := by kernel_rfl
theorem IsVl.num2 {w : World} {x : M.Vl} {s : Int} {g : Bool} {N : Option Addr} {nn nc : Nat} (h : IsVl w x (vv s g N nn nc)) : LNum w (.slice N nn nc) x.2.2 := by
 obtain ⟨N', nn', nc', e, h⟩ := h
 simp only [vv, Value.agg.injEq, Array.mk.injEq, List.cons.injEq, and_true, Value.slice.injEq] at e
 obtain ⟨_, _, rfl, rfl, rfl⟩ := e
 exact h
theorem strIn_nil (w : World) : StrIn w [] (.slice none 0 0) := ⟨FnList.nil w, by decide, fun f hf => (by cases hf), fun f hf => (by cases hf)⟩
theorem field_vN (s : Int) (g : Bool) (N : Option Addr) (nn nc : Nat) (w : World) : (Instr.field 38 (vv s g N nn nc) 1).run Tryz.prog w = .ok (.agg #[.bool g, .slice N nn nc]) w := by kernel_rfl
set_option maxHeartbeats 16000000 in
set_option maxRecDepth 20000 in
theorem vknown_n {w : World} (hT : Tab w) : Calls Tryz.prog 7 #[] w (GivesB w true) := by
 have HT := hid (fun w' (e : Ext w w') => hT.up e)
 clear hT
 go_enter Tryz.func7, Tryz.ntmps7
 go_wp2_with fail
 refine (vcon_n [120] 2 _).mono ?_
 rintro e w1 ⟨v1, rfl, hv1, hx⟩
 have HC1 := hid hv1
 obtain ⟨N1, nn1, nc1, A1, c1, rfl, -, -⟩ := hv1
 have E := hid hx
 clear hx
 go_wp2_with fail
 refine (vnum_n (Z := 2) (by decide) (by decide) _).mono ?_
 rintro e w2 ⟨v2, rfl, hv2, hx⟩
 have HC2 := hid hv2
 replace HC1 := hid (HC1.out.up hx)
 replace E := hid (E.out.trans hx)
 obtain ⟨N2, nn2, nc2, A2, c2, rfl, -, -⟩ := hv2
 clear hx
 go_upto_region 2 with (fail)
 refine vwp_at (fun W => ∃ g1 g2, Box W g2 #[.int .i64 17, .bool false, .slice none 0 0, str [], .int .i64 2, .slice (some ⟨g1, 0, none⟩) 2 2] 27 ∧ Tms W [.mk 4 false [] [120] 2 [], M.knumT 2] (.slice (some ⟨g1, 0, none⟩) 2 2) ∧ g1 = w2.heap.size ∧ g2 = w2.heap.size + 1 ∧ Ext w W) ⟨_, _, ?b1, ?b2, rfl, rfl, ?b3⟩ ?_
 case b1 => exact Box.at_ (w := w2.alloc _) _ _ (by simp)
 case b2 => exact (tms_two (HC1.out.up (Ext.alloc w2 _)) (HC2.out.up (Ext.alloc w2 _)) (Box.new w2 _ 27)).up (Ext.alloc _ _)
 case b3 => exact (E.out.trans (Ext.alloc w2 _)).trans (Ext.alloc _ _)
 intro W ⟨g1, g2, hb2, htm, hg1, hg2, he⟩
 rw [← hg2, ← hg1]
 have HB := hid hb2
 have HTM := hid htm
 replace E := hid he
 clear hb2 htm hg1 hg2 he HC1 HC2
 go_wp2_with fail
 refine (rOf_z (n := -7) (by decide) (by decide) _).mono ?_
 rintro e w3 ⟨v3, rfl, hv3, hx⟩
 obtain ⟨A3, n3, c3, rfl, hn3, -⟩ := hv3
 replace hx : Ext W w3 := hx
 have HN3 := hid (show LNum w3 (.slice A3 n3 c3) (M.limbs (-7 : Int).natAbs) from hn3)
 replace E := hid (E.out.trans hx)
 replace HB := hid (HB.out.up hx)
 replace HTM := hid (HTM.out.up hx)
 clear hx hn3
 go_wp2_with fail
 refine (put_v (m := []) (nm := [120]) (x := M.vz 2 (-7)) (FnList.nil w3) (isVl_num rfl HN3.out) (by decide) (fun f hf => (by cases hf)) (by decide) (by have h1 : (M.vz 2 (-7)).2.2.length = 1 := (by decide +kernel); rw [h1]; decide)).mono ?_
 rintro e w4 ⟨v4, rfl, hf4, hx⟩
 rw [M.put_K] at hf4
 have hf4' := hf4.sub (gp_sub _ _)
 obtain ⟨MA, mc, rfl⟩ := hf4'.shape
 have HM := hid (show StrIn w4 M.mK (.slice MA 1 mc) from ⟨hf4', by decide, M.K_wd.1, M.K_wd.2⟩)
 replace E := hid (E.out.trans hx)
 replace HB := hid (HB.out.up hx)
 replace HTM := hid (HTM.out.up hx)
 clear hx hf4 hf4' HN3
 rw [show M.mK.length = 1 from rfl]
 obtain ⟨⟨b0, b1, b2, b3, b4, b5⟩, -, -⟩ := boxF6 HB.out
 go_wp2_with fail
 refine (eval_v (t := M.tK) HM.out (show IsTm w4 M.tK (kv 17 false none 0 0 [] 2 (some ⟨g1, 0, none⟩) 2 2) from ⟨none, 0, 0, some ⟨g1, 0, none⟩, 2, rfl, LNum.nil _, HTM.out⟩) M.few_K (HT.out _ E.out)).mono ?_
 rintro e w5 ⟨v5, rfl, hv5, hx, -⟩
 rw [M.eval_K] at hv5
 have HV5 := hid hv5
 obtain ⟨N5, n5, c5, rfl, -⟩ := hv5
 replace E := hid (E.out.trans hx)
 replace HM := hid (HM.out.up hx)
 clear hx b0 b1 b2 b3 b4 b5 HB HTM
 go_upto_region 4 with (fail)
 refine vwp_at (fun W => Box W w5.heap.size #[.int .i64 2, .bool false, .slice N5 n5 c5] 38 ∧ Ext w5 W) ⟨Box.new w5 _ _, Ext.alloc w5 _⟩ ?_
 intro W5 ⟨hb5, he⟩
 obtain ⟨g3, hg3⟩ : ∃ g, w5.heap.size = g := ⟨_, rfl⟩
 rw [hg3] at hb5 ⊢
 have HB5 := hid hb5
 replace E := hid (E.out.trans he)
 replace HM := hid (HM.out.up he)
 replace HV5 := hid (show IsVl W5 (M.vz 2 1) (vv 2 false N5 n5 c5) from HV5.out.up he)
 clear hb5 he hg3
 refine wp_region_D [(0, 0), (1, 1), (2, 0), (3, 0), (4, 0), (5, 0), (6, 0), (7, 0), (8, 0), (9, 0), (10, 0), (11, 0), (12, 0), (13, 0), (14, 0), (15, 1), (16, 1), (17, 0), (18, 0), (19, 1), (20, 0), (21, 0), (24, 0), (22, 1), (23, 1), (25, 1), (26, 0), (27, 0), (28, 0), (29, 0), (30, 0), (31, 1), (32, 0), (33, 0), (34, 0), (35, 0), (36, 0), (37, 0), (38, 0), (39, 1), (40, 0), (41, 1), (42, 1), (43, 0), (44, 0)] fun wd hb => ?_
 replace E := hid (E.out.trans hb)
 replace HM := hid (HM.out.up hb)
 replace HB5 := hid (HB5.out.up hb)
 replace HV5 := hid (HV5.out.up hb)
 clear hb
 refine WE.p 14 (.slice MA 1 mc) ?_
 simp only [pX]
 refine WE.c 15 ((is_v HM.out.list (fun f hf => (HM.out.fw f hf).2.1)).mono ?_)
 rintro e w6 ⟨rfl, hb⟩
 refine ⟨_, rfl, hb, ?_⟩
 replace E := hid (E.out.trans hb)
 replace HM := hid (HM.out.up hb)
 replace HB5 := hid (HB5.out.up hb)
 replace HV5 := hid (HV5.out.up hb)
 clear hb
 simp only [pX]
 refine WE.q 16 (.bool true) rfl (fun w' hk => by have hi := M.is_K; go_simp) ?_
 simp only [pX]
 refine WE.p 17 (.slice MA 1 mc) ?_
 simp only [pX]
 refine WE.q 18 (.int .i64 1) rfl (fun w' hk => by go_simp) ?_
 simp only [pX]
 refine WE.q 19 (.bool true) rfl (fun w' hk => by go_simp) ?_
 simp only [pX]
 refine WE.p 20 (.bool true) ?_
 simp only [pX]
 refine WE.p 21 (.bool true) ?_
 simp only [pX]
 refine WE.p 22 (.pointer (some ⟨g3, 0, none⟩)) ?_
 simp only [pX]
 refine WE.q 23 (.int .i64 2) rfl (fun w' hk => by obtain ⟨⟨x0, x1, x2⟩, -, -⟩ := box3v (HB5.out.up hk); go_simp) ?_
 simp only [pX]
 refine WE.p 24 (.bool true) ?_
 simp only [pX]
 refine WE.p 25 (.bool true) ?_
 simp only [pX]
 refine WE.p 26 (.bool true) ?_
 simp only [pX]
 refine WE.p 27 (.pointer (some ⟨g3, 1, none⟩)) ?_
 simp only [pX]
 refine WE.q 28 (.agg #[.bool false, .slice N5 n5 c5]) rfl (fun w' hk => by obtain ⟨⟨x0, x1, x2⟩, -, -⟩ := box3v (HB5.out.up hk); go_simp) ?_
 simp only [pX]
 refine WE.c 29 ((rOf_z (n := 1) (by decide) (by decide) _).mono ?_)
 rintro e w6 ⟨v7, rfl, hv7, hb⟩
 refine ⟨_, rfl, hb, ?_⟩
 obtain ⟨A7, n7, c7, rfl, hn7, -⟩ := hv7
 replace hb : Ext _ w6 := hb
 have HN7 := hid (show LNum w6 (.slice A7 n7 c7) (M.limbs (1 : Int).natAbs) from hn7)
 clear hn7
 replace E := hid (E.out.trans hb)
 replace HM := hid (HM.out.up hb)
 replace HB5 := hid (HB5.out.up hb)
 replace HV5 := hid (HV5.out.up hb)
 clear hb
 simp only [pX]
 refine WE.c 30 ((equal_same (g := false) (ls := M.limbs (1 : Int).natAbs) (HV5.out.num2) HN7.out).mono ?_)
 rintro e w6 ⟨rfl, hb⟩
 refine ⟨_, rfl, hb, ?_⟩
 replace E := hid (E.out.trans hb)
 replace HM := hid (HM.out.up hb)
 replace HB5 := hid (HB5.out.up hb)
 replace HV5 := hid (HV5.out.up hb)
 clear HN7
 clear hb
 simp only [pX]
 refine WE.p 31 (.bool true) ?_
 simp only [pX]
 refine WE.p 32 (.bool true) ?_
 simp only [pX]
 refine WE.c 33 ((true_v (m := []) (l := []) (strIn_nil _) (Tms.nil _) rfl (HT.out _ E.out)).mono ?_)
 rintro e w6 ⟨rfl, hb⟩
 refine ⟨_, rfl, hb, ?_⟩
 replace E := hid (E.out.trans hb)
 replace HM := hid (HM.out.up hb)
 replace HB5 := hid (HB5.out.up hb)
 replace HV5 := hid (HV5.out.up hb)
 clear hb
 simp only [pX]
 refine WE.q 34 (.bool true) rfl (fun w' hk => by have hi : M.mTrue [] [] = true := rfl; go_simp) ?_
 simp only [pX]
 refine WE.p 35 (.bool true) ?_
 simp only [pX]
 refine WE.p 38 (.slice MA 1 mc) ?_
 simp only [pX]
 refine WE.c 36 ((vcon_n [112] 1 _).mono ?_)
 rintro e w6 ⟨v7, rfl, hv7, hb⟩
 refine ⟨_, rfl, hb, ?_⟩
 replace E := hid (E.out.trans hb)
 replace HM := hid (HM.out.up hb)
 replace HB5 := hid (HB5.out.up hb)
 replace HV5 := hid (HV5.out.up hb)
 have HP := hid hv7
 obtain ⟨N7, nn7, nc7, A7, c7, hkv, -, -⟩ := hv7
 obtain rfl : v7 = kv 4 false N7 nn7 nc7 [112] 1 A7 0 c7 := hkv
 clear hb
 simp only [pX]
 refine WE.act (d := some 37) (v := .slice (some ⟨w6.heap.size, 0, none⟩) 1 1) (w' := w6.alloc (.cells #[.int .i64 4, .bool false, .slice N7 nn7 nc7, str [112], .int .i64 1, .slice A7 0 c7] 27)) rfl rfl (by rfl) (by go_simp) (Ext.alloc _ _) ?_
 have HPL := hid (tms_one (HP.out.up (Ext.alloc w6 _)) (Box.new w6 #[.int .i64 4, .bool false, .slice N7 nn7 nc7, str [112], .int .i64 1, .slice A7 0 c7] 27))
 have hb := Ext.alloc w6 (.cells #[.int .i64 4, .bool false, .slice N7 nn7 nc7, str [112], .int .i64 1, .slice A7 0 c7] 27)
 replace E := hid (E.out.trans hb)
 replace HM := hid (HM.out.up hb)
 replace HB5 := hid (HB5.out.up hb)
 replace HV5 := hid (HV5.out.up hb)
 clear hb
 clear HP
 simp only [pX]
 refine WE.c 39 ((true_v (l := [.mk 4 false [] [112] 1 []]) HM.out HPL.out (by kernel_rfl) (HT.out _ E.out)).mono ?_)
 rintro e w6 ⟨rfl, hb⟩
 refine ⟨_, rfl, hb, ?_⟩
 replace E := hid (E.out.trans hb)
 replace HM := hid (HM.out.up hb)
 replace HB5 := hid (HB5.out.up hb)
 replace HV5 := hid (HV5.out.up hb)
 clear HPL
 clear hb
 simp only [pX]
 refine WE.q 40 (.bool true) rfl (fun w' hk => by have hi := M.true_K; go_simp) ?_
 simp only [pX]
 refine WE.p 41 (.bool true) ?_
 simp only [pX]
 refine WE.p 42 (.bool true) ?_
 simp only [pX]
 refine WE.q 43 (vv 2 false N5 n5 c5) rfl (fun w' hk => by obtain ⟨⟨x0, x1, x2⟩, -, -⟩ := box3v (HB5.out.up hk); go_simp) ?_
 simp only [pX]
 refine WE.q 44 (vv 2 false N5 n5 c5) rfl (fun w' hk => by obtain ⟨⟨x0, x1, x2⟩, -, -⟩ := box3v (HB5.out.up hk); go_simp) ?_
 simp only [pX]
 refine WE.c 45 ((same_v (x := M.vz 2 1) (y := M.vz 2 1) HV5.out HV5.out).mono ?_)
 rintro e w6 ⟨rfl, hb⟩
 refine ⟨_, rfl, hb, ?_⟩
 replace E := hid (E.out.trans hb)
 replace HM := hid (HM.out.up hb)
 replace HB5 := hid (HB5.out.up hb)
 replace HV5 := hid (HV5.out.up hb)
 clear hb
 simp only [pX]
 refine WE.q 46 (.bool true) rfl (fun w' hk => by have hi := M.same_K; go_simp) ?_
 simp only [pX]
 refine WE.p 47 (.bool true) ?_
 simp only [pX]
 refine WE.p 48 (.slice MA 1 mc) ?_
 simp only [pX]
 refine WE.p 49 (.slice MA 1 mc) ?_
 simp only [pX]
 obtain ⟨ad, A1, n1, c1, B1, m1, d1, N1, nn1, nc1, hMA, ⟨⟨k0, k1, k2⟩, -⟩, hi1, -⟩ := HM.out.list.get (k := 0) (f := M.constF [120] (M.vz 2 (-7))) rfl
 subst hMA
 rw [Nat.zero_mul, Addr.add_zero'] at k0 k1 k2
 obtain rfl : n1 = 0 := hi1.le.1
 have HK := hid (show World.cell? _ ad = some (str [120]) ∧ World.cell? _ ⟨ad.block, ad.off + 1, none⟩ = some (.slice A1 0 c1) ∧ World.cell? _ ⟨ad.block, ad.off + 2, none⟩ = some (.int .i64 2) from And.intro k0 (And.intro k1 k2))
 have HSG := hid (show IsSg _ ⟨[120], [], 2⟩ (sgv [120] A1 0 c1 2) from ⟨A1, c1, rfl, hi1⟩)
 clear k0 k1 k2 hi1
 refine WE.q 50 (.pointer (some ad)) rfl (fun w' hk => by go_simp) ?_
 simp only [pX]
 refine WE.p 51 (.pointer (some ad)) ?_
 simp only [pX]
 refine WE.q 52 (sgv [120] A1 0 c1 2) rfl (fun w' hk => by have x0 := hk.cell HK.out.1; have x1 := hk.cell HK.out.2.1; have x2 := hk.cell HK.out.2.2; go_simp) ?_
 simp only [pX]
 refine WE.c 53 ((ofF_v (vs := []) HM.out HSG.out (VList.nil _ 0 (by decide) none)).mono ?_)
 rintro e w6 ⟨v8, rfl, hv8, hb⟩
 refine ⟨_, rfl, hb, ?_⟩
 replace E := hid (E.out.trans hb)
 replace HM := hid (HM.out.up hb)
 replace HB5 := hid (HB5.out.up hb)
 replace HV5 := hid (HV5.out.up hb)
 rw [M.of_K] at hv8
 obtain ⟨N8, n8, c8, hkv, hn8'⟩ := hv8
 obtain rfl : v8 = vv 2 true N8 n8 c8 := hkv
 have HN8 := hid (show LNum w6 (.slice N8 n8 c8) (M.limbs (-7 : Int).natAbs) from hn8')
 clear hn8' HSG HK
 clear hb
 simp only [pX]
 refine WE.q 54 (.agg #[.bool true, .slice N8 n8 c8]) rfl (fun w' hk => by have hf := fun w' => field_vN 2 true N8 n8 c8 w'; go_simp) ?_
 simp only [pX]
 refine WE.c 55 ((rOf_z (n := -7) (by decide) (by decide) _).mono ?_)
 rintro e w6 ⟨v7, rfl, hv7, hb⟩
 refine ⟨_, rfl, hb, ?_⟩
 obtain ⟨A7, n7, c7, rfl, hn7, -⟩ := hv7
 replace hb : Ext _ w6 := hb
 have HN7 := hid (show LNum w6 (.slice A7 n7 c7) (M.limbs (-7 : Int).natAbs) from hn7)
 clear hn7
 replace E := hid (E.out.trans hb)
 replace HM := hid (HM.out.up hb)
 replace HB5 := hid (HB5.out.up hb)
 replace HV5 := hid (HV5.out.up hb)
 replace HN8 := hid (LNum.up HN8.out hb)
 clear hb
 simp only [pX]
 refine WE.c 56 ((equal_same (g := true) (ls := M.limbs (-7 : Int).natAbs) HN8.out HN7.out).mono ?_)
 rintro e w6 ⟨rfl, hb⟩
 refine ⟨_, rfl, hb, ?_⟩
 replace E := hid (E.out.trans hb)
 replace HM := hid (HM.out.up hb)
 replace HB5 := hid (HB5.out.up hb)
 replace HV5 := hid (HV5.out.up hb)
 clear hb
 simp only [pX]
 refine WE.p 57 (.bool true) ?_
 simp only [pX]
 refine WE.p 0 (.bool true) ?_
 simp only [pX]
 refine WE.done ?_
 go_wp2
 go_ret
 exact ⟨rfl, E.out⟩
end Go.Proofs.YtkhmgdfhggejaaaGreatDoor.Q
