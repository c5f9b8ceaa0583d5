/-
  WHAT: a tree's words are read as it, one behind the other as well; without the last one a parenthesis lacks (TreeBack).
  FOR EVERY INPUT: no condition.
-/
import Derived.Test.YtceplnfjlncekaaQTOpen
import Derived.Test.YtceplnfjlncekaaQTFew
import Derived.Test.YtceplnfjlncekaaQUKnown
namespace Go.Proofs.Ytceplnfjlncekaa
set_option linter.unusedSimpArgs false
set_option linter.unusedVariables false
open Go.ChangeShapes Go.WideShapes Go.ChangeAt Go.RowKit

theorem appTs_run {base : Nat} {w : World} {v x' : Value} {ts us : List M.Tok} (hown : OwnT base w v ts) (hl : TList w x' us) (hne : us ≠ []) (hlen : ts.length + us.length ≤ 1000000000) (hbase : base ≤ w.heap.size) (ty : TypeId) :
 ∃ v' w', (Builtin.append_ #[22, 22] ty #[v, x']).run Try.prog w = .ok v' w' ∧ OwnT base w' v' (ts ++ us) ∧ w.grownBy w' v.ownBlock := by
 obtain ⟨i0, hi, hz0, hz1, hz2⟩ := info_parts info_Token
 obtain ⟨A, n, c, rfl, hn, _, _, h5⟩ := hl
 obtain ⟨ad, rfl, hb, hc⟩ := h5 hne
 obtain ⟨v', w', hrun, ho', hg, _, _⟩ := run_append_own_at (P := Try.prog) w base 22 ty 33 i0 _ 2 24 Try.underlying22 hi hz0 hz1 hz2 rfl (by decide) v ts.length _ hown ad n c (M.cells us) (by rw [M.cells_len, hn]) (by
  intro j u hj
  obtain ⟨k, t, h1, h2⟩ := M.cells_get hj
  obtain ⟨c0, c1⟩ := hc k t h1
  rcases h2 with ⟨rfl, rfl⟩ | ⟨rfl, rfl⟩
  ·exact c0
  ·rw [← Addr.add_add]; exact c1) (fun u hu => M.cells_one hu) (by unfold maxLen; omega) (by omega) hbase
 refine ⟨v', w', hrun, ?_, hg⟩
 unfold OwnT
 rw [List.length_append, M.cells_app, ← hn]
 exact ho'
theorem OwnT.low {base : Nat} {w : World} {v : Value} {ts : List M.Tok} (h : OwnT base w v ts) {w' : World} (hb : w.grownBy w' v.ownBlock) (hbase : base ≤ w.heap.size) : Below base w w' :=
 (Below.refl _ _).grown hb hbase fun k hk => (World.ownsRow.lt h k hk).1
set_option maxHeartbeats 16000000 in
set_option maxRecDepth 100000 in
theorem treeBack_walk (W : World) {v v' : Value} (t : M.T) (ht : IsT W t v) (u : M.T) (hu : IsT W u v') : Calls Try.prog 5 #[v, v'] W (GivesB W true) := by
 obtain ⟨A1, d1, rfl, hk1⟩ := ht
 obtain ⟨A2, d2, rfl, hk2⟩ := hu
 have HT1 : Hid (∀ w', Ext W w' → IsT w' t (tv t.list t.tok A1 t.kids.length d1)) := hid fun w' e => ⟨A1, d1, rfl, hk1.up e⟩
 have HT2 : Hid (∀ w', Ext W w' → IsT w' u (tv u.list u.tok A2 u.kids.length d2)) := hid fun w' e => ⟨A2, d2, rfl, hk2.up e⟩
 obtain ⟨L1, hL1⟩ : ∃ L, t.list = L := ⟨_, rfl⟩
 obtain ⟨TK1, hTK1⟩ : ∃ x, t.tok = x := ⟨_, rfl⟩
 obtain ⟨K1, hK1⟩ : ∃ x, t.kids.length = x := ⟨_, rfl⟩
 obtain ⟨L2, hL2⟩ : ∃ L, u.list = L := ⟨_, rfl⟩
 obtain ⟨TK2, hTK2⟩ : ∃ x, u.tok = x := ⟨_, rfl⟩
 obtain ⟨K2, hK2⟩ : ∃ x, u.kids.length = x := ⟨_, rfl⟩
 rw [hL1, hTK1, hK1] at HT1 ⊢
 rw [hL2, hTK2, hK2] at HT2 ⊢
 have HE1 := hid (show ∀ B e, tv t.list t.tok B t.kids.length e = tv L1 TK1 B K1 e from fun B e => by rw [hL1, hTK1, hK1])
 have HE2 := hid (show ∀ B e, tv u.list u.tok B u.kids.length e = tv L2 TK2 B K2 e from fun B e => by rw [hL2, hTK2, hK2])
 have HL1 := hid hL1
 clear hk1 hk2 hL1 hTK1 hK1 hL2 hTK2 hK2
 have HB0 := hid (alloc_two W (.cells #[.bool L1, .int .i64 TK1.1, str TK1.2, .slice A1 K1 d1] 35) (.cells #[.bool L2, .int .i64 TK2.1, str TK2.2, .slice A2 K2 d2] 35))
 obtain ⟨f1, hf1⟩ : ∃ f, M.fewN t 70 = f := ⟨_, rfl⟩
 have HF1 := hid (show ∀ w', Ext (boxed2 W L1 TK1 A1 K1 d1 L2 TK2 A2 K2 d2) w' → Calls Try.prog 14 #[tv L1 TK1 A1 K1 d1, .int .i64 70] w' (GivesB w' f1) from fun w' e => by have := fewTree_n t (HT1.out w' (HB0.out.trans e)) (m := 70) (by omega); rwa [hf1] at this)
 obtain ⟨f2, hf2⟩ : ∃ f, M.fewN u 70 = f := ⟨_, rfl⟩
 have HF2 := hid (show ∀ w', Ext (boxed2 W L1 TK1 A1 K1 d1 L2 TK2 A2 K2 d2) w' → Calls Try.prog 14 #[tv L2 TK2 A2 K2 d2, .int .i64 70] w' (GivesB w' f2) from fun w' e => by have := fewTree_n u (HT2.out w' (HB0.out.trans e)) (m := 70) (by omega); rwa [hf2] at this)
 have HFV1 := hid hf1
 have HFV2 := hid hf2
 clear hf1 hf2
 cases f1
 ·skip
  go_enter Try.func5, Try.ntmps5
  go_wp2_with fail
  refine (known9_n _).mono ?_
  rintro e w1 ⟨rfl, hx⟩
  have E := hid hx
  obtain ⟨⟨b0, b1, b2, b3⟩, p0, p1, p2, p3⟩ := box44 hx
  clear hx
  go_wp2_with fail
  refine (HF1.out _ E.out).mono ?_
  rintro e w' ⟨rfl, hx⟩
  replace E := hid (E.out.trans hx)
  replace b0 := hx.cell b0
  replace b1 := hx.cell b1
  replace b2 := hx.cell b2
  replace b3 := hx.cell b3
  replace p0 := hx.cell p0
  replace p1 := hx.cell p1
  replace p2 := hx.cell p2
  replace p3 := hx.cell p3
  clear hx
  go_wp2_with fail
  go_ret
  exact ⟨rfl, (alloc_two W _ _).trans E.out⟩
 cases f2
 ·skip
  go_enter Try.func5, Try.ntmps5
  go_wp2_with fail
  refine (known9_n _).mono ?_
  rintro e w1 ⟨rfl, hx⟩
  have E := hid hx
  obtain ⟨⟨b0, b1, b2, b3⟩, p0, p1, p2, p3⟩ := box44 hx
  clear hx
  go_wp2_with fail
  refine (HF1.out _ E.out).mono ?_
  rintro e w' ⟨rfl, hx⟩
  replace E := hid (E.out.trans hx)
  replace b0 := hx.cell b0
  replace b1 := hx.cell b1
  replace b2 := hx.cell b2
  replace b3 := hx.cell b3
  replace p0 := hx.cell p0
  replace p1 := hx.cell p1
  replace p2 := hx.cell p2
  replace p3 := hx.cell p3
  clear hx
  go_wp2_with fail
  refine (HF2.out _ E.out).mono ?_
  rintro e w' ⟨rfl, hx⟩
  replace E := hid (E.out.trans hx)
  replace b0 := hx.cell b0
  replace b1 := hx.cell b1
  replace b2 := hx.cell b2
  replace b3 := hx.cell b3
  replace p0 := hx.cell p0
  replace p1 := hx.cell p1
  replace p2 := hx.cell p2
  replace p3 := hx.cell p3
  clear hx
  go_wp2_with fail
  go_ret
  exact ⟨rfl, (alloc_two W _ _).trans E.out⟩
 obtain ⟨z1, hz1⟩ : ∃ z, M.isU t = z := ⟨_, rfl⟩
 have HI1 := hid (show ∀ w', Ext (boxed2 W L1 TK1 A1 K1 d1 L2 TK2 A2 K2 d2) w' → Calls Try.prog 15 #[tv L1 TK1 A1 K1 d1] w' (GivesB w' z1) from fun w' e => by have := is_t t (HT1.out w' (HB0.out.trans e)) (M.txtN_few t HFV1.out); rwa [hz1] at this)
 obtain ⟨z2, hz2⟩ : ∃ z, M.isU u = z := ⟨_, rfl⟩
 have HI2 := hid (show ∀ w', Ext (boxed2 W L1 TK1 A1 K1 d1 L2 TK2 A2 K2 d2) w' → Calls Try.prog 15 #[tv L2 TK2 A2 K2 d2] w' (GivesB w' z2) from fun w' e => by have := is_t u (HT2.out w' (HB0.out.trans e)) (M.txtN_few u HFV2.out); rwa [hz2] at this)
 have HZ1 := hid hz1
 have HZ2 := hid hz2
 clear hz1 hz2
 cases z1
 ·skip
  go_enter Try.func5, Try.ntmps5
  go_wp2_with fail
  refine (known9_n _).mono ?_
  rintro e w1 ⟨rfl, hx⟩
  have E := hid hx
  obtain ⟨⟨b0, b1, b2, b3⟩, p0, p1, p2, p3⟩ := box44 hx
  clear hx
  go_wp2_with fail
  refine (HF1.out _ E.out).mono ?_
  rintro e w' ⟨rfl, hx⟩
  replace E := hid (E.out.trans hx)
  replace b0 := hx.cell b0
  replace b1 := hx.cell b1
  replace b2 := hx.cell b2
  replace b3 := hx.cell b3
  replace p0 := hx.cell p0
  replace p1 := hx.cell p1
  replace p2 := hx.cell p2
  replace p3 := hx.cell p3
  clear hx
  go_wp2_with fail
  refine (HF2.out _ E.out).mono ?_
  rintro e w' ⟨rfl, hx⟩
  replace E := hid (E.out.trans hx)
  replace b0 := hx.cell b0
  replace b1 := hx.cell b1
  replace b2 := hx.cell b2
  replace b3 := hx.cell b3
  replace p0 := hx.cell p0
  replace p1 := hx.cell p1
  replace p2 := hx.cell p2
  replace p3 := hx.cell p3
  clear hx
  go_wp2_with fail
  refine (HI1.out _ E.out).mono ?_
  rintro e w' ⟨rfl, hx⟩
  replace E := hid (E.out.trans hx)
  replace b0 := hx.cell b0
  replace b1 := hx.cell b1
  replace b2 := hx.cell b2
  replace b3 := hx.cell b3
  replace p0 := hx.cell p0
  replace p1 := hx.cell p1
  replace p2 := hx.cell p2
  replace p3 := hx.cell p3
  clear hx
  go_wp2_with fail
  go_ret
  exact ⟨rfl, (alloc_two W _ _).trans E.out⟩
 cases z2
 ·skip
  go_enter Try.func5, Try.ntmps5
  go_wp2_with fail
  refine (known9_n _).mono ?_
  rintro e w1 ⟨rfl, hx⟩
  have E := hid hx
  obtain ⟨⟨b0, b1, b2, b3⟩, p0, p1, p2, p3⟩ := box44 hx
  clear hx
  go_wp2_with fail
  refine (HF1.out _ E.out).mono ?_
  rintro e w' ⟨rfl, hx⟩
  replace E := hid (E.out.trans hx)
  replace b0 := hx.cell b0
  replace b1 := hx.cell b1
  replace b2 := hx.cell b2
  replace b3 := hx.cell b3
  replace p0 := hx.cell p0
  replace p1 := hx.cell p1
  replace p2 := hx.cell p2
  replace p3 := hx.cell p3
  clear hx
  go_wp2_with fail
  refine (HF2.out _ E.out).mono ?_
  rintro e w' ⟨rfl, hx⟩
  replace E := hid (E.out.trans hx)
  replace b0 := hx.cell b0
  replace b1 := hx.cell b1
  replace b2 := hx.cell b2
  replace b3 := hx.cell b3
  replace p0 := hx.cell p0
  replace p1 := hx.cell p1
  replace p2 := hx.cell p2
  replace p3 := hx.cell p3
  clear hx
  go_wp2_with fail
  refine (HI1.out _ E.out).mono ?_
  rintro e w' ⟨rfl, hx⟩
  replace E := hid (E.out.trans hx)
  replace b0 := hx.cell b0
  replace b1 := hx.cell b1
  replace b2 := hx.cell b2
  replace b3 := hx.cell b3
  replace p0 := hx.cell p0
  replace p1 := hx.cell p1
  replace p2 := hx.cell p2
  replace p3 := hx.cell p3
  clear hx
  go_wp2_with fail
  refine (HI2.out _ E.out).mono ?_
  rintro e w' ⟨rfl, hx⟩
  replace E := hid (E.out.trans hx)
  replace b0 := hx.cell b0
  replace b1 := hx.cell b1
  replace b2 := hx.cell b2
  replace b3 := hx.cell b3
  replace p0 := hx.cell p0
  replace p1 := hx.cell p1
  replace p2 := hx.cell p2
  replace p3 := hx.cell p3
  clear hx
  go_wp2_with fail
  go_ret
  exact ⟨rfl, (alloc_two W _ _).trans E.out⟩
 have hw1 := M.wds_le HZ1.out
 have hw2 := M.wds_le HZ2.out
 have HW1 := hid (show ∀ w', Ext (boxed2 W L1 TK1 A1 K1 d1 L2 TK2 A2 K2 d2) w' → Calls Try.prog 22 #[tv L1 TK1 A1 K1 d1] w' (GivesTs w' (M.wds t)) from fun w' e => words_t t (HT1.out w' (HB0.out.trans e)) (by omega))
 have HW2 := hid (show ∀ w', Ext (boxed2 W L1 TK1 A1 K1 d1 L2 TK2 A2 K2 d2) w' → Calls Try.prog 22 #[tv L2 TK2 A2 K2 d2] w' (GivesTs w' (M.wds u)) from fun w' e => words_t u (HT2.out w' (HB0.out.trans e)) (by omega))
 have HN1 := hid (show (M.wds t).length ≤ 800 from hw1)
 have HN2 := hid (show (M.wds u).length ≤ 800 from hw2)
 clear hw1 hw2
 go_enter Try.func5, Try.ntmps5
 go_wp2_with fail
 refine (known9_n _).mono ?_
 rintro e w1 ⟨rfl, hx⟩
 have E := hid hx
 obtain ⟨⟨b0, b1, b2, b3⟩, p0, p1, p2, p3⟩ := box44 hx
 clear hx
 go_wp2_with fail
 refine (HF1.out _ E.out).mono ?_
 rintro e w' ⟨rfl, hx⟩
 replace E := hid (E.out.trans hx)
 replace b0 := hx.cell b0
 replace b1 := hx.cell b1
 replace b2 := hx.cell b2
 replace b3 := hx.cell b3
 replace p0 := hx.cell p0
 replace p1 := hx.cell p1
 replace p2 := hx.cell p2
 replace p3 := hx.cell p3
 clear hx
 go_wp2_with fail
 refine (HF2.out _ E.out).mono ?_
 rintro e w' ⟨rfl, hx⟩
 replace E := hid (E.out.trans hx)
 replace b0 := hx.cell b0
 replace b1 := hx.cell b1
 replace b2 := hx.cell b2
 replace b3 := hx.cell b3
 replace p0 := hx.cell p0
 replace p1 := hx.cell p1
 replace p2 := hx.cell p2
 replace p3 := hx.cell p3
 clear hx
 go_wp2_with fail
 refine (HI1.out _ E.out).mono ?_
 rintro e w' ⟨rfl, hx⟩
 replace E := hid (E.out.trans hx)
 replace b0 := hx.cell b0
 replace b1 := hx.cell b1
 replace b2 := hx.cell b2
 replace b3 := hx.cell b3
 replace p0 := hx.cell p0
 replace p1 := hx.cell p1
 replace p2 := hx.cell p2
 replace p3 := hx.cell p3
 clear hx
 go_wp2_with fail
 refine (HI2.out _ E.out).mono ?_
 rintro e w' ⟨rfl, hx⟩
 replace E := hid (E.out.trans hx)
 replace b0 := hx.cell b0
 replace b1 := hx.cell b1
 replace b2 := hx.cell b2
 replace b3 := hx.cell b3
 replace p0 := hx.cell p0
 replace p1 := hx.cell p1
 replace p2 := hx.cell p2
 replace p3 := hx.cell p3
 clear hx
 go_wp2_with fail
 refine (HW1.out _ E.out).mono ?_
 rintro e w2 ⟨vW, rfl, hvW, hx⟩
 replace E := hid (E.out.trans hx)
 replace b0 := hx.cell b0
 replace b1 := hx.cell b1
 replace b2 := hx.cell b2
 replace b3 := hx.cell b3
 replace p0 := hx.cell p0
 replace p1 := hx.cell p1
 replace p2 := hx.cell p2
 replace p3 := hx.cell p3
 clear hx
 obtain ⟨AW, cW, rfl⟩ := hvW.shape
 obtain ⟨N1, hN1⟩ : ∃ N1, (M.wds t).length = N1 := ⟨_, rfl⟩
 rw [hN1] at hvW ⊢
 have HVW := hid hvW
 have HNN1 := hid hN1
 have hcW : cW ≤ 9223372036854775807 ∧ N1 ≤ cW := by
  obtain ⟨A', n', c', e, h2, h3, h4, _⟩ := hvW
  injection e with e1 e2 e3
  subst e3
  unfold maxLen at h4
  omega
 obtain ⟨hcW9, hcWN⟩ := hcW
 have hN0 : 0 < N1 := by
  rw [← hN1]
  exact List.length_pos_iff.2 (M.wds_ne t)
 clear hvW hN1
 obtain ⟨g1, hg1⟩ : ∃ g1, W.heap.size = g1 := ⟨_, rfl⟩
 obtain ⟨g2, hg2⟩ : ∃ g2, W.heap.size + 1 = g2 := ⟨_, rfl⟩
 rw [hg1] at b0 b1 b2 b3
 rw [hg2] at p0 p1 p2 p3
 have HG1 := hid hg1
 have HG2 := hid hg2
 clear hg1 hg2
 go_wp2_with fail
 rw [HG2.out, HG1.out]
 refine wp_region_K [] [(0, 0), (2, 0), (1, 1), (3, 1), (4, 3), (5, 2)] fun wd hb => ?_
 have Ed := hid hb
 clear hb
 refine WK.p 35 (.slice AW N1 cW) ?_
 simp only [Act.put, pA, pB, pC]
 refine WK.q 37 (tv L2 TK2 A2 K2 d2) rfl (fun w' hk => by have x0 := hk.ext.cell (Ed.out.cell p0); have x1 := hk.ext.cell (Ed.out.cell p1); have x2 := hk.ext.cell (Ed.out.cell p2); have x3 := hk.ext.cell (Ed.out.cell p3); go_simp) ?_
 simp only [Act.put, pA, pB, pC]
 obtain ⟨v36, w3, hrun3, ho3, hg3⟩ := appTs_run (OwnT.nil wd.heap.size wd) (HVW.out.up Ed.out) (M.wds_ne t) (by have := HN1.out; simp; omega) (Nat.le_refl _) 22
 have hE3 : Ext wd w3 := ho3.up (Ext.refl _) |> fun _ => (OwnT.nil wd.heap.size wd).low hg3 (Nat.le_refl _)
 have HO3 := hid ho3
 have E3 := hid hE3
 refine WK.act 36 rfl (exec_app (.const (.slice none 0 0)) (.tmp 35) rfl rfl rfl hrun3) (hE3.kept _) ?_
 clear hrun3 ho3 hg3 hE3
 simp only [Act.put, pA, pB, pC]
 refine WK.c 38 ((HW2.out _ (E.out.trans (Ed.out.trans E3.out))).mono ?_)
 rintro e w4 ⟨v38, rfl, hv38, hx4⟩
 refine ⟨_, rfl, hx4.kept _, ?_⟩
 have E4 := hid hx4
 simp only [Act.put, pA, pB, pC]
 obtain ⟨vL, w5, hrun5, ho5, hg5⟩ := appTs_run (HO3.out.up E4.out) hv38 (M.wds_ne u) (by have := HN1.out; have := HN2.out; simp; omega) (by have := E3.out.size; have := E4.out.size; omega) 22
 have hE5 : Below wd.heap.size w4 w5 := (HO3.out.up E4.out).low hg5 (by have := E3.out.size; have := E4.out.size; omega)
 have E5 := hid (show Ext wd w5 from Below.trans (B := wd.heap.size) (E3.out.trans E4.out) hE5)
 obtain ⟨AL, cL, hvL⟩ := ho5.list.shape
 subst hvL
 have HO5 := hid ho5
 refine WK.late 39 rfl (exec_app (.tmp 36) (.tmp 38) rfl rfl rfl hrun5) ?_
 clear hrun5 ho5 hg5 hE5 hx4 hv38
 simp only [Act.put, pA, pB, pC]
 obtain ⟨N, hN⟩ : ∃ N, ([] ++ M.wds t ++ M.wds u).length = N := ⟨_, rfl⟩
 rw [hN]
 refine WK.y 6 (.slice AL N cL) ?_
 simp only [Act.put, pA, pB, pC]
 refine WK.done ?_
 have hlist : TList w5 (.slice AL N cL) (M.wds t ++ M.wds u) := by
  have h1 := HO5.out.list
  rw [hN, List.nil_append] at h1
  exact h1
 have hrd : M.readM (M.wds t ++ M.wds u) = ([t, u], N, 0) := by
  have h1 := M.readM_rows (ks := [t, u]) (by intro x hx; simp at hx; rcases hx with rfl | rfl; exact HZ1.out; exact HZ2.out)
  have h2 : M.wdss [t, u] = M.wds t ++ M.wds u := by simp [M.wdss]
  rw [h2] at h1
  rw [h1, ← hN, List.nil_append]
 have hN16 : N ≤ 1600 := by
  have h1 := HN1.out
  have h2 := HN2.out
  rw [← hN]; simp; omega
 have hcL : cL ≤ 9223372036854775807 ∧ N ≤ cL := by
  obtain ⟨A', n', c', e, h2, h3, h4, _⟩ := hlist
  injection e with e1 e2 e3
  subst e3
  unfold maxLen at h4
  omega
 obtain ⟨hcL9, hcLN⟩ := hcL
 have HRD := hid (read_t hlist (by have h1 := HN1.out; have h2 := HN2.out; simp; omega))
 rw [hrd] at HRD
 replace E := hid (E.out.trans (Ed.out.trans E5.out))
 have hx : Ext w2 w5 := Ed.out.trans E5.out
 replace b0 := hx.cell b0
 replace b1 := hx.cell b1
 replace b2 := hx.cell b2
 replace b3 := hx.cell b3
 replace p0 := hx.cell p0
 replace p1 := hx.cell p1
 replace p2 := hx.cell p2
 replace p3 := hx.cell p3
 clear hx
 replace HVW := hid (HVW.out.up (Ed.out.trans E5.out))
 have HNX := hid hN
 clear hlist hrd hN HO5 HO3 E3 E4 E5 Ed
 go_wp2_with fail
 refine HRD.out.mono ?_
 rintro e w7 ⟨vR, rfl, hvR, hx⟩
 obtain ⟨AR, cR, hvRe⟩ := hvR.shape
 replace hvRe : vR = .slice AR 2 cR := hvRe
 subst hvRe
 obtain ⟨hr1, hr2, hr3⟩ := hvR.le
 have hcR9 : cR ≤ 9223372036854775807 := by unfold maxLen at hr3; omega
 obtain ⟨ad, u0, B1, e1, rfl, hu0, r0, r1, r2, r3, hR1⟩ := hvR.get (k := 0) (by omega)
 obtain rfl : u0 = t := by simpa using hu0.symm
 obtain ⟨ad', u1, B2, e2, had, hu1, q0, q1, q2, q3, hR2⟩ := hvR.get (k := 1) (by omega)
 injection had with had
 subst had
 obtain rfl : u1 = u := by simpa using hu1.symm
 rw [Nat.zero_mul, Addr.add_zero'] at r0 r1 r2 r3
 rw [Nat.one_mul] at q0 q1 q2 q3
 have hR1' := HE1.out B1 e1
 have hR2' := HE2.out B2 e2
 rw [hR1'] at hR1
 rw [hR2'] at hR2
 have hh1 := hR1'
 unfold tv at hh1
 injection hh1 with hh1
 have hh2 := hR2'
 unfold tv at hh2
 injection hh2 with hh2
 have hv1 : Value.bool u0.list = .bool L1 ∧ Value.int .i64 u0.tok.1 = .int .i64 TK1.1 ∧ str u0.tok.2 = str TK1.2 ∧ Value.slice B1 u0.kids.length e1 = .slice B1 K1 e1 := by simpa using hh1
 have hv2 : Value.bool u1.list = .bool L2 ∧ Value.int .i64 u1.tok.1 = .int .i64 TK2.1 ∧ str u1.tok.2 = str TK2.2 ∧ Value.slice B2 u1.kids.length e2 = .slice B2 K2 e2 := by simpa using hh2
 rw [hv1.1] at r0
 rw [hv1.2.1] at r1
 rw [hv1.2.2.1] at r2
 rw [hv1.2.2.2] at r3
 rw [hv2.1] at q0
 rw [hv2.2.1] at q1
 rw [hv2.2.2.1] at q2
 rw [hv2.2.2.2] at q3
 replace q0 : w7.cell? ⟨ad.block, ad.off + 4, none⟩ = some (.bool L2) := q0
 replace q1 : w7.cell? ⟨ad.block, ad.off + 4 + 1, none⟩ = some (.int .i64 TK2.1) := q1
 replace q2 : w7.cell? ⟨ad.block, ad.off + 4 + 2, none⟩ = some (str TK2.2) := q2
 replace q3 : w7.cell? ⟨ad.block, ad.off + 4 + 3, none⟩ = some (.slice B2 K2 e2) := q3
 have HS1 := hid (show ∀ w', Ext w7 w' → Calls Try.prog 24 #[tv L1 TK1 B1 K1 e1, tv L1 TK1 A1 K1 d1] w' (GivesB w' true) from fun w' e => by have := same_t _ (hR1.up e) (HT1.out w' (HB0.out.trans ((E.out.trans hx).trans e))); rwa [(M.sameT_iff _ _).2 rfl] at this)
 have HS2 := hid (show ∀ w', Ext w7 w' → Calls Try.prog 24 #[tv L2 TK2 B2 K2 e2, tv L2 TK2 A2 K2 d2] w' (GivesB w' true) from fun w' e => by have := same_t _ (hR2.up e) (HT2.out w' (HB0.out.trans ((E.out.trans hx).trans e))); rwa [(M.sameT_iff _ _).2 rfl] at this)
 replace E := hid (E.out.trans hx)
 replace HVW := hid (HVW.out.up hx)
 replace b0 := hx.cell b0
 replace b1 := hx.cell b1
 replace b2 := hx.cell b2
 replace b3 := hx.cell b3
 replace p0 := hx.cell p0
 replace p1 := hx.cell p1
 replace p2 := hx.cell p2
 replace p3 := hx.cell p3
 clear hx
 clear hvR hr1 hr2 hr3 hu0 hu1 hR1 hR2 hR1' hR2' hh1 hh2 hv1 hv2 HRD
 have hN0i : ((N1 : Int) == 0) = false := by simp; omega
 go_wp2_with fail
 refine wp_region_D [(0, 0), (1, 0), (2, 0), (3, 0), (4, 0), (5, 0), (6, 0), (7, 0), (8, 0), (9, 0), (10, 0), (11, 0), (12, 0), (13, 0), (14, 0), (15, 0), (16, 0), (17, 0), (18, 1), (19, 0), (20, 0), (21, 0), (22, 0), (23, 0), (24, 0), (25, 0), (26, 1), (27, 0), (28, 0), (29, 0), (30, 0), (31, 0), (32, 0), (33, 0)] fun wd hb => ?_
 have E6 := hid hb
 clear hb
 refine WE.p 46 (.int .i64 0) ?_
 simp only [Act.put, pA, pB, pC]
 refine WE.p 47 (.bool false) ?_
 simp only [Act.put, pA, pB, pC]
 refine WE.p 48 (.bool false) ?_
 simp only [Act.put, pA, pB, pC]
 refine WE.p 49 (.int .i64 (N : Int)) ?_
 simp only [Act.put, pA, pB, pC]
 refine WE.p 50 (.slice AL N cL) ?_
 simp only [Act.put, pA, pB, pC]
 refine WE.p 51 (.int .i64 (N : Int)) ?_
 simp only [Act.put, pA, pB, pC]
 refine WE.p 52 (.bool false) ?_
 simp only [Act.put, pA, pB, pC]
 refine WE.p 53 (.bool false) ?_
 simp only [Act.put, pA, pB, pC]
 refine WE.p 54 (.bool false) ?_
 simp only [Act.put, pA, pB, pC]
 refine WE.p 55 (.slice (some ad) 2 cR) ?_
 simp only [Act.put, pA, pB, pC]
 refine WE.p 56 (.int .i64 2) ?_
 simp only [Act.put, pA, pB, pC]
 refine WE.p 57 (.bool false) ?_
 simp only [Act.put, pA, pB, pC]
 refine WE.p 58 (.bool false) ?_
 simp only [Act.put, pA, pB, pC]
 refine WE.p 59 (.bool false) ?_
 simp only [Act.put, pA, pB, pC]
 refine WE.p 60 (.slice (some ad) 2 cR) ?_
 simp only [Act.put, pA, pB, pC]
 refine WE.p 61 (.pointer (some ad)) ?_
 simp only [Act.put, pA, pB, pC]
 refine WE.q 62 (tv L1 TK1 B1 K1 e1) rfl (fun w' hk => by have x0 := hk.cell (E6.out.cell r0); have x1 := hk.cell (E6.out.cell r1); have x2 := hk.cell (E6.out.cell r2); have x3 := hk.cell (E6.out.cell r3); go_simp) ?_
 simp only [Act.put, pA, pB, pC]
 refine WE.q 63 (tv L1 TK1 A1 K1 d1) rfl (fun w' hk => by have x0 := hk.cell (E6.out.cell b0); have x1 := hk.cell (E6.out.cell b1); have x2 := hk.cell (E6.out.cell b2); have x3 := hk.cell (E6.out.cell b3); go_simp) ?_
 simp only [Act.put, pA, pB, pC]
 refine WE.c 64 ((HS1.out _ E6.out).mono ?_)
 rintro e w6 ⟨rfl, hb6⟩
 refine ⟨_, rfl, hb6, ?_⟩
 replace E6 := hid (E6.out.trans hb6)
 clear hb6
 simp only [Act.put, pA, pB, pC]
 refine WE.p 65 (.bool false) ?_
 simp only [Act.put, pA, pB, pC]
 refine WE.p 66 (.bool false) ?_
 simp only [Act.put, pA, pB, pC]
 refine WE.p 67 (.bool false) ?_
 simp only [Act.put, pA, pB, pC]
 refine WE.p 68 (.slice (some ad) 2 cR) ?_
 simp only [Act.put, pA, pB, pC]
 refine WE.p 69 (.pointer (some (ad.add 4))) ?_
 simp only [Act.put, pA, pB, pC]
 refine WE.q 70 (tv L2 TK2 B2 K2 e2) rfl (fun w' hk => by have x0 := hk.cell (E6.out.cell q0); have x1 := hk.cell (E6.out.cell q1); have x2 := hk.cell (E6.out.cell q2); have x3 := hk.cell (E6.out.cell q3); go_simp) ?_
 simp only [Act.put, pA, pB, pC]
 refine WE.q 71 (tv L2 TK2 A2 K2 d2) rfl (fun w' hk => by have x0 := hk.cell (E6.out.cell p0); have x1 := hk.cell (E6.out.cell p1); have x2 := hk.cell (E6.out.cell p2); have x3 := hk.cell (E6.out.cell p3); go_simp) ?_
 simp only [Act.put, pA, pB, pC]
 refine WE.c 72 ((HS2.out _ E6.out).mono ?_)
 rintro e w6 ⟨rfl, hb6⟩
 refine ⟨_, rfl, hb6, ?_⟩
 replace E6 := hid (E6.out.trans hb6)
 clear hb6
 simp only [Act.put, pA, pB, pC]
 refine WE.p 73 (.bool false) ?_
 simp only [Act.put, pA, pB, pC]
 refine WE.p 74 (.bool false) ?_
 simp only [Act.put, pA, pB, pC]
 refine WE.p 75 (.bool false) ?_
 simp only [Act.put, pA, pB, pC]
 refine WE.p 76 (.slice AW N1 cW) ?_
 simp only [Act.put, pA, pB, pC]
 refine WE.p 77 (.int .i64 (N1 : Int)) ?_
 simp only [Act.put, pA, pB, pC]
 refine WE.p 78 (.bool false) ?_
 simp only [Act.put, pA, pB, pC]
 refine WE.p 79 (.bool false) ?_
 simp only [Act.put, pA, pB, pC]
 refine WE.done ?_
 replace b0 := E6.out.cell b0
 replace HVW := hid (HVW.out.up E6.out)
 replace E := hid (E.out.trans E6.out)
 clear b1 b2 b3 p0 p1 p2 p3 r0 r1 r2 r3 q0 q1 q2 q3 HS1 HS2
 have hc0 : (cW = 0) = False := eq_false (by omega)
 cases L1
 ·have h1 := M.wds_leaf HL1.out
  have h2 := HNN1.out
  rw [h1] at h2
  obtain rfl : 1 = N1 := h2
  go_wp2_with fail
  go_ret
  exact ⟨rfl, HB0.out.trans E.out⟩
 ·obtain ⟨y, hy⟩ : ∃ y, N1 - 1 = y := ⟨_, rfl⟩
  have hyi : (N1 : Int) - 1 = (y : Int) := by omega
  have hyc : (y : Int) ≤ (cW : Int) := by omega
  have hyc' : y ≤ cW := by omega
  have hrs : M.readM ((M.wds u0).take y) = ([], y, 13) := by
   have he : M.T.mk true u0.tok u0.kids = u0 := by
    have := M.T.eta u0
    rw [show u0.list = true from HL1.out] at this
    exact this.symm
   have h1 := M.readM_short (tk := u0.tok) (ks := u0.kids) (by rw [he]; exact HZ1.out)
   rw [he, HNN1.out, hy, List.dropLast_eq_take, HNN1.out, hy] at h1
   exact h1
  have HRS := hid (read_t (HVW.out.take_ (k := y) (by omega)) (by rw [List.length_take]; have := HN1.out; omega))
  rw [hrs] at HRS
  clear hrs hy
  go_wp2_with fail
  refine HRS.out.mono ?_
  rintro e w9 ⟨v9, rfl, -, hx⟩
  replace E := hid (E.out.trans hx)
  clear hx
  go_wp2_with fail
  go_ret
  exact ⟨rfl, HB0.out.trans E.out⟩

set_option maxRecDepth 100000 in
theorem treeBack_lifted (os : Os) (started : os.Started) (H : Type) (enc : TypeId × Value → H) :
 ReturnsInHanded {} Try.checked os 5 .any (Rows.treeBackSpec.pre6 enc Try.prog Try.f5 Rows.treeBackRow.domain false) (Rows.treeBackSpec.post enc Try.prog Try.f5 false true false false) := by
 refine returnsInHanded_of_change (C := Try.checked) own started (by kernel_rfl) Try.func5
  (ChangeSpec.witness6 (enc := enc) (C := Try.checked) false ⟨#[], #[.agg #[.bool false, .int .i64 0, .string ⟨#[]⟩, .slice none 0 0], .agg #[.bool false, .int .i64 0, .string ⟨#[]⟩, .slice none 0 0]], []⟩ 8 (by kernel_rfl) (by kernel_rfl) (by kernel_rfl) (by kernel_rfl)) ?_
 intro W base args ds gs before hval0 hW _ _
 have hval : ∀ (j : Nat) t v, Try.f5.params[j]? = some t → args[j]? = some v → Value.okWide Try.prog W .any base t v := hval0
 have hW' := hW
 obtain ⟨p, q, hA0, hV, rfl, hfz, hnd⟩ := hW
 have hA : DataW.TrodAll enc Try.prog W 0 (fun _ => true) true Try.f5.params.toList args.toList ds p := hA0
 rw [Try.params5] at hA hval
 obtain ⟨v0, vs0, d0, ds0, p0, q0, hargs, rfl, rfl, h0, r0⟩ := trodAll_cons hA
 obtain ⟨v1, vs1, d1, ds1, p1, q1, rfl, rfl, rfl, h1, r1⟩ := trodAll_cons r0
 obtain ⟨rfl, rfl, rfl⟩ := trodAll_nil r1
 obtain rfl : args = #[v0, v1] := by cases args; simp_all
 obtain ⟨rfl, rfl⟩ := trodVars_none hV
 obtain ⟨t0, e0⟩ := open_Tree (hval 0 35 _ rfl rfl) h0
 obtain ⟨t1, e1⟩ := open_Tree (hval 1 35 _ rfl rfl) h1
 clear hA0 hval0
 refine (treeBack_walk W t0 e0 t1 e1).mono fun e W' ⟨he, hg⟩ => ?_
 subst he
 exact ⟨_, rfl, law_post hW' rfl rfl (by kernel_rfl) (by kernel_rfl) hg⟩

theorem treeBack_over : Rows.treeBackRow.holds Try.pinned (OpenSpec.ofChange Rows.treeBackSpec) :=
 OpenClaim.holds_of_wide 5 Try.f5 rfl rfl rfl rfl rfl rfl rfl ⟨rfl, rfl, rfl, rfl, rfl⟩ rfl rfl rfl rfl rfl (by kernel_rfl) Try.func5 (by kernel_rfl)
  (of_decide_eq_true (by kernel_rfl)) (by unfold Func.isWrapper; first | (rw [if_pos (by decide +kernel)]; kernel_rfl) | (rw [if_neg (by decide +kernel)]; exact ⟨rfl, rfl⟩))
  (fun os started H enc _ => treeBack_lifted os started H enc)

theorem treeBack_proved : Rows.TreeBackSaid := treeBack_over

end Go.Proofs.Ytceplnfjlncekaa
