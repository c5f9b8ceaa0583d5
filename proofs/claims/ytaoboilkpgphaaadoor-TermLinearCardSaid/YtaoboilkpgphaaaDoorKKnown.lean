/-
  Layer 10, the laws' known.
-/
import Derived.Test.YtaoboilkpgphaaaDoorJKF
namespace Go.Proofs.YtaoboilkpgphaaaDoor.Q
set_option linter.unusedSimpArgs false
set_option linter.unusedVariables false
open Go.RowKit

/-- What known asks of the package's calls. -/
structure FaceK (T : World → Prop) : Prop where
 up_ : ∀ {w w' : World}, T w → Ext w w' → T w'
 make_ : ∀ {op : Int} {l : List M.Tm} {v : Value} {w : World}, T w → Tms w l v → M.kfewL l = true → Calls Tryd.prog 20 #[.int .i64 op, v] w (GivesTm w (M.kmake op l))
 app_ : ∀ {s : M.Sg} {l : List M.Tm} {v v' : Value} {w : World}, T w → IsSg w s v' → M.kfewS s = true → Tms w l v → M.kfewL l = true → Calls Tryd.prog 25 #[v', v] w (GivesTm w (M.kapp s l))
 sig_ : ∀ {s : M.Sg} {v : Value} {w : World}, IsSg w s v → M.kfewS s = true → Calls Tryd.prog 29 #[v] w (GivesB w (M.ksig s))
 num_ : ∀ {Z : Int} {v : Value} {w : World}, Worth w v Z 3 → Calls Tryd.prog 27 #[v] w (GivesT1 w (M.knumT Z))
 bool_ : ∀ (b : Bool) (w : World), Calls Tryd.prog 28 #[.bool b] w (GivesT1 w (.mk (if b = true then 2 else 3) false [] [] 1 []))
 is_ : ∀ {t : M.Tm} {v : Value} {w : World}, T w → IsTm w t v → M.kfewT t = true → Calls Tryd.prog 13 #[v] w (GivesB w (M.kIs t))
 count_ : ∀ {t : M.Tm} {v : Value} {w : World}, IsTm w t v → M.kfewT t = true → Calls Tryd.prog 14 #[v] w (GivesI w ((min (M.kcnt t) 401 : Nat) : Int))
 same_ : ∀ {t t' : M.Tm} {v v' : Value} {w : World}, IsTm w t v → IsTm w t' v' → M.kfewT t = true → M.kfewT t' = true → Calls Tryd.prog 16 #[v, v'] w (GivesB w (M.ksame t t'))
 sigs_ : ∀ {t : M.Tm} {v : Value} {w : World}, T w → IsTm w t v → M.kfewT t = true → Calls Tryd.prog 12 #[v] w (GivesSgs w (if M.kIs t = true then M.kSigs t else ([], true)))
theorem GivesTm.to {w w' : World} {r : M.Tm × Int} {t : M.Tm} {z : Int} {e : Ending} (h : GivesTm w r e w') (hr : r = (t, z)) : ∃ v, e = .returned (.tuple #[v, .int .i64 z]) ∧ IsTm w' t v ∧ Ext w w' := by
 subst hr; exact h
theorem GivesTm.code {w w' : World} {r : M.Tm × Int} {z : Int} {e : Ending} (h : GivesTm w r e w') (hr : r.2 = z) : ∃ v, e = .returned (.tuple #[v, .int .i64 z]) ∧ IsTm w' r.1 v ∧ Ext w w' := by
 subst hr; exact h
set_option maxHeartbeats 16000000 in
set_option maxRecDepth 100000 in
theorem known_n {T : World → Prop} (F : FaceK T) {w : World} (hT0 : T w) : Calls Tryd.prog 8 #[] w (GivesB w true) := by
 have HOF := hid (show ∀ w', Calls Tryd.prog 21 #[.int .i64 3] w' (GivesZ w' 3 3) from fun w' => rOf_z (by decide) (by decide) w')
 have HTB := hid (show ∀ w', Ext w w' → T w' from fun w' e => F.up_ hT0 e)
 have E := hid (Ext.refl w)
 clear hT0
 go_enter Tryd.func8, Tryd.ntmps8
 go_wp2_with fail
 refine (F.app_ (HTB.out _ E.out) (s := M.sT) (l := []) (v := .slice none 0 0) ⟨none, 0, rfl, ⟨none, 0, 0, rfl, rfl, Nat.le_refl _, Nat.zero_le _, fun h => absurd rfl h⟩⟩ M.kfewS_x (Tms.nil _) rfl).mono ?_
 intro e w1 hh
 obtain ⟨v, rfl, hT, hb⟩ := hh.to M.kapp_x
 obtain ⟨Nx, nnx, ncx, Ax, nx, cx, rfl, -, -, -, -, -, -⟩ := hT.shape
 obtain ⟨opx, hx⟩ : ∃ x, (M.xT).op = x := ⟨_, rfl⟩
 rw [hx] at hT ⊢
 have HOPx := hid hx
 clear hx
 obtain ⟨gx, hx⟩ : ∃ x, (M.xT).g = x := ⟨_, rfl⟩
 rw [hx] at hT ⊢
 clear hx
 obtain ⟨nmx, hx⟩ : ∃ x, (M.xT).name = x := ⟨_, rfl⟩
 rw [hx] at hT ⊢
 clear hx
 obtain ⟨sox, hx⟩ : ∃ x, (M.xT).sort = x := ⟨_, rfl⟩
 rw [hx] at hT ⊢
 have HSOx := hid hx
 clear hx
 replace E := hid (E.out.trans hb)
 have HTx := hid (hT.up (Ext.alloc w1 (.cells #[.int .i64 opx, .bool gx, .slice Nx nnx ncx, str nmx, .int .i64 sox, .slice Ax nx cx] 27)))
 have HBx := hid (Box.new w1 #[.int .i64 opx, .bool gx, .slice Nx nnx ncx, str nmx, .int .i64 sox, .slice Ax nx cx] 27)
 replace E := hid (E.out.trans (Ext.alloc w1 (.cells #[.int .i64 opx, .bool gx, .slice Nx nnx ncx, str nmx, .int .i64 sox, .slice Ax nx cx] 27)))
 clear hT hb hh
 obtain ⟨⟨a0, a1, a2, a3, a4, a5⟩, -, -⟩ := boxF6 HBx.out
 go_wp2_with fail
 refine wp_region_L [(0, 0), (1, 2), (2, 2), (3, 2), (4, 2), (5, 0), (6, 0), (7, 5), (8, 3), (9, 4), (10, 5)] 27 #[.int .i64 0, .bool false, .slice none 0 0, .string ⟨#[]⟩, .int .i64 0, .slice none 0 0] fun wd hb => ?_
 clear a0 a1 a2 a3 a4 a5
 replace E := hid (E.out.trans hb)
 replace HBx := hid (HBx.out.up hb)
 replace HTx := hid (HTx.out.up hb)
 have HWD := hid E.out.size
 have HLx := hid HBx.out.lt
 clear hb
 refine WE.q 21 (kv opx gx Nx nnx ncx nmx sox Ax nx cx) rfl (fun w' hk => by obtain ⟨⟨x0, x1, x2, x3, x4, x5⟩, -, -⟩ := boxF6 (HBx.out.up hk); go_simp) ?_
 simp only [Act.put, pA, pB, pC]
 refine WE.callR (d := some 22) rfl rfl (by rfl) (fun w => by go_simp) fun wa hea => ((HOF.out wa).mono ?_)
 rintro e w2 ⟨v2, rfl, hz2, hb⟩
 refine ⟨_, rfl, hb, ?_⟩
 replace E := hid (E.out.trans (hea.trans hb))
 have HZ2 := hid hz2
 replace HBx := hid (HBx.out.up (hea.trans hb))
 replace HTx := hid (HTx.out.up (hea.trans hb))
 clear hb hea hz2
 simp only [Act.put, pA, pB, pC]
 refine WE.callR (d := some 23) rfl rfl (by rfl) (fun w => by go_simp) fun wa hea => ((F.num_ (worth_up (HZ2.out.worth) hea)).mono ?_)
 intro e w3 hh
 obtain ⟨v3, rfl, hT, hb⟩ := hh
 rw [M.knumT3] at hT
 refine ⟨_, rfl, hb, ?_⟩
 obtain ⟨Nm, nnm, ncm, Am, nm, cm, rfl, -, -, -, -, -, -⟩ := hT.shape
 obtain ⟨opm, hx⟩ : ∃ x, (M.n3T).op = x := ⟨_, rfl⟩
 rw [hx] at hT ⊢
 clear hx
 obtain ⟨gm, hx⟩ : ∃ x, (M.n3T).g = x := ⟨_, rfl⟩
 rw [hx] at hT ⊢
 clear hx
 obtain ⟨nmm, hx⟩ : ∃ x, (M.n3T).name = x := ⟨_, rfl⟩
 rw [hx] at hT ⊢
 clear hx
 obtain ⟨som, hx⟩ : ∃ x, (M.n3T).sort = x := ⟨_, rfl⟩
 rw [hx] at hT ⊢
 clear hx
 replace E := hid (E.out.trans (hea.trans hb))
 have HTm := hid hT
 replace HBx := hid (HBx.out.up (hea.trans hb))
 replace HTx := hid (HTx.out.up (hea.trans hb))
 clear hb hea hT
 simp only [Act.put, pA, pB, pC]
 refine WE.newR (d := some 24) (cs := #[.int .i64 opx, .bool gx, .slice Nx nnx ncx, str nmx, .int .i64 sox, .slice Ax nx cx, .int .i64 opm, .bool gm, .slice Nm nnm ncm, str nmm, .int .i64 som, .slice Am nm cm]) (t := 27) (v := fun g => .slice (some ⟨g, 0, none⟩) 2 2) rfl rfl (by rfl) (fun w => by go_simp) fun gr w4 hb hbx _ => ?_
 replace E := hid (E.out.trans hb)
 replace HBx := hid (HBx.out.up hb)
 replace HTx := hid (HTx.out.up hb)
 replace HTm := hid (HTm.out.up hb)
 have HR := hid hbx
 clear hb hbx
 simp only [Act.put, pA, pB, pC]
 refine WE.callR (d := some 25) rfl rfl (by rfl) (fun w => by go_simp) fun wa hea => ((F.make_ (HTB.out _ (E.out.trans hea)) (op := 19) (tms_two (HTx.out.up hea) (HTm.out.up hea) (HR.out.up hea)) (M.kfewL_2 M.kfewT_x M.kfewT_3)).mono ?_)
 intro e w5 hh
 obtain ⟨v5, rfl, hT, hb⟩ := hh.to M.kmake_le
 refine ⟨_, rfl, hb, ?_⟩
 obtain ⟨Nt, nnt, nct, At, nt, ct, rfl, -, -, -, -, -, -⟩ := hT.shape
 obtain ⟨opt, hx⟩ : ∃ x, (M.leT).op = x := ⟨_, rfl⟩
 rw [hx] at hT ⊢
 have HOPt := hid hx
 clear hx
 obtain ⟨gt, hx⟩ : ∃ x, (M.leT).g = x := ⟨_, rfl⟩
 rw [hx] at hT ⊢
 clear hx
 obtain ⟨nmt, hx⟩ : ∃ x, (M.leT).name = x := ⟨_, rfl⟩
 rw [hx] at hT ⊢
 clear hx
 obtain ⟨sot, hx⟩ : ∃ x, (M.leT).sort = x := ⟨_, rfl⟩
 rw [hx] at hT ⊢
 have HSOt := hid hx
 clear hx
 replace E := hid (E.out.trans (hea.trans hb))
 have HTt := hid hT
 replace HBx := hid (HBx.out.up (hea.trans hb))
 replace HTx := hid (HTx.out.up (hea.trans hb))
 clear hb hea hT hh
 simp only [Act.put, pA, pB, pC]
 refine WE.p 20 (.tuple #[kv opt gt Nt nnt nct nmt sot At nt ct, .int .i64 0]) ?_
 simp only [Act.put, pA, pB, pC]
 refine WE.p 26 (kv opt gt Nt nnt nct nmt sot At nt ct) ?_
 simp only [Act.put, pA, pB, pC]
 refine WE.y 27 (.int .i64 0) ?_
 simp only [Act.put, pA, pB, pC]
 refine WE.var (d := some 3) rfl fun gtv w6 hb hbx hge hng => ?_
 replace E := hid (E.out.trans hb)
 replace HTt := hid (HTt.out.up hb)
 replace HBx := hid (HBx.out.up hb)
 replace HTx := hid (HTx.out.up hb)
 have a0 := hbx.free 0
 have a1 := hbx.free 1
 have a2 := hbx.free 2
 have a3 := hbx.free 3
 have a4 := hbx.free 4
 have a5 := hbx.free 5
 have hk6 := hbx.lt
 have z0 := hbx.k 0
 have z1 := hbx.k 1
 have z2 := hbx.k 2
 have z3 := hbx.k 3
 have z4 := hbx.k 4
 have z5 := hbx.k 5
 simp only [Act.put, pA, pB, pC]
 refine WE.store (w' := put6 w6 gtv (.int .i64 opt) (.bool gt) (.slice Nt nnt nct) (str nmt) (.int .i64 sot) (.slice At nt ct)) rfl rfl (by rfl) (by go_simp) (by simp) ?_
 refine WE.y 4 (.int .i64 0) ?_
 simp only [Act.put, pA, pB, pC]
 refine WE.done ?_
 have HG := hid (show w.heap.size ≤ gtv from Nat.le_trans HWD.out hge)
 have HZ := hid (show Box w6 gtv zero6 27 from hbx)
 obtain ⟨w7, hW⟩ : ∃ W, W = put6 w6 gtv (.int .i64 opt) (.bool gt) (.slice Nt nnt nct) (str nmt) (.int .i64 sot) (.slice At nt ct) := ⟨_, rfl⟩
 rw [← hW]
 replace E := hid (show Ext w w7 by rw [hW]; exact put6_ext E.out HG.out)
 replace HBx := hid (show Box w7 _ _ _ by rw [hW]; exact HBx.out.kept put6_kept (by have := HLx.out; simp; omega))
 replace HTx := hid (show IsTm w7 _ _ by rw [hW]; exact isTm_put HZ.out M.kis_x HTx.out)
 replace HTt := hid (show IsTm w7 _ _ by rw [hW]; exact isTm_put HZ.out M.kis_le HTt.out)
 have HBt := hid (show Box w7 gtv #[.int .i64 opt, .bool gt, .slice Nt nnt nct, str nmt, .int .i64 sot, .slice At nt ct] 27 by rw [hW]; exact (((((HZ.out.setAt 0 _).setAt 1 _).setAt 2 _).setAt 3 _).setAt 4 _).setAt 5 _)
 clear hW hb hbx hge hng a0 a1 a2 a3 a4 a5 hk6 z0 z1 z2 z3 z4 z5 HZ HWD HTm HR
 clear HLx
 obtain ⟨⟨a0, a1, a2, a3, a4, a5⟩, -, -⟩ := boxF6 HBx.out
 go_wp2_with fail
 refine (F.make_ (HTB.out _ (E.out.alloc' _)) (op := 15) (tms_two (HTx.out.up (Ext.alloc _ _)) (HTx.out.up (Ext.alloc _ _)) (Box.new _ _ _)) (M.kfewL_2 M.kfewT_x M.kfewT_x)).mono ?_
 intro e w8 hh
 obtain ⟨v, rfl, hT, hb⟩ := hh.code M.kmake_mul
 clear a0 a1 a2 a3 a4 a5
 replace hb := (Ext.alloc _ _).trans hb
 obtain ⟨Ne, nne, nce, Ae, ne, ce, rfl, -, -, -, -, -, -⟩ := hT.shape
 obtain ⟨ope, hx⟩ : ∃ x, ((M.kmake 15 [M.xT, M.xT]).1).op = x := ⟨_, rfl⟩
 rw [hx] at hT ⊢
 have HOPe := hid hx
 clear hx
 obtain ⟨ge, hx⟩ : ∃ x, ((M.kmake 15 [M.xT, M.xT]).1).g = x := ⟨_, rfl⟩
 rw [hx] at hT ⊢
 clear hx
 obtain ⟨nme, hx⟩ : ∃ x, ((M.kmake 15 [M.xT, M.xT]).1).name = x := ⟨_, rfl⟩
 rw [hx] at hT ⊢
 clear hx
 obtain ⟨soe, hx⟩ : ∃ x, ((M.kmake 15 [M.xT, M.xT]).1).sort = x := ⟨_, rfl⟩
 rw [hx] at hT ⊢
 have HSOe := hid hx
 clear hx
 replace E := hid (E.out.trans hb)
 replace HBx := hid (HBx.out.up hb)
 replace HTx := hid (HTx.out.up hb)
 replace HBt := hid (HBt.out.up hb)
 replace HTt := hid (HTt.out.up hb)
 have HTe := hid (hT.up (Ext.alloc w8 (.cells #[.int .i64 ope, .bool ge, .slice Ne nne nce, str nme, .int .i64 soe, .slice Ae ne ce] 27)))
 have HBe := hid (Box.new w8 #[.int .i64 ope, .bool ge, .slice Ne nne nce, str nme, .int .i64 soe, .slice Ae ne ce] 27)
 replace E := hid (E.out.trans (Ext.alloc w8 (.cells #[.int .i64 ope, .bool ge, .slice Ne nne nce, str nme, .int .i64 soe, .slice Ae ne ce] 27)))
 replace HBx := hid (HBx.out.up (Ext.alloc w8 (.cells #[.int .i64 ope, .bool ge, .slice Ne nne nce, str nme, .int .i64 soe, .slice Ae ne ce] 27)))
 replace HTx := hid (HTx.out.up (Ext.alloc w8 (.cells #[.int .i64 ope, .bool ge, .slice Ne nne nce, str nme, .int .i64 soe, .slice Ae ne ce] 27)))
 replace HBt := hid (HBt.out.up (Ext.alloc w8 (.cells #[.int .i64 ope, .bool ge, .slice Ne nne nce, str nme, .int .i64 soe, .slice Ae ne ce] 27)))
 replace HTt := hid (HTt.out.up (Ext.alloc w8 (.cells #[.int .i64 ope, .bool ge, .slice Ne nne nce, str nme, .int .i64 soe, .slice Ae ne ce] 27)))
 clear hT hb hh
 clear HTe HBe
 go_wp2_with fail
 refine wp_region_L [(0, 0), (1, 2), (2, 2), (3, 2), (4, 0), (5, 0), (6, 5), (7, 3), (8, 4), (9, 5)] 27 #[.int .i64 0, .bool false, .slice none 0 0, .string ⟨#[]⟩, .int .i64 0, .slice none 0 0] fun wd hb => ?_
 replace E := hid (E.out.trans hb)
 replace HBx := hid (HBx.out.up hb)
 replace HTx := hid (HTx.out.up hb)
 replace HBt := hid (HBt.out.up hb)
 replace HTt := hid (HTt.out.up hb)
 have HWD := hid E.out.size
 have HLx := hid HBx.out.lt
 have HLt := hid HBt.out.lt
 clear hb
 refine WE.q 36 (kv opx gx Nx nnx ncx nmx sox Ax nx cx) rfl (fun w' hk => by obtain ⟨⟨x0, x1, x2, x3, x4, x5⟩, -, -⟩ := boxF6 (HBx.out.up hk); go_simp) ?_
 simp only [Act.put, pA, pB, pC]
 refine WE.callR (d := some 37) rfl rfl (by rfl) (fun w => by go_simp) fun wa hea => ((num_n (Z := 0) (by decide) (by decide) wa).mono ?_)
 intro e w3 hh
 obtain ⟨v3, rfl, hT, hb⟩ := hh
 rw [M.knumT0] at hT
 refine ⟨_, rfl, hb, ?_⟩
 obtain ⟨Nm, nnm, ncm, Am, nm, cm, rfl, -, -, -, -, -, -⟩ := hT.shape
 obtain ⟨opm, hx⟩ : ∃ x, (M.n0T).op = x := ⟨_, rfl⟩
 rw [hx] at hT ⊢
 clear hx
 obtain ⟨gm, hx⟩ : ∃ x, (M.n0T).g = x := ⟨_, rfl⟩
 rw [hx] at hT ⊢
 clear hx
 obtain ⟨nmm, hx⟩ : ∃ x, (M.n0T).name = x := ⟨_, rfl⟩
 rw [hx] at hT ⊢
 clear hx
 obtain ⟨som, hx⟩ : ∃ x, (M.n0T).sort = x := ⟨_, rfl⟩
 rw [hx] at hT ⊢
 clear hx
 replace E := hid (E.out.trans (hea.trans hb))
 have HTm := hid hT
 replace HBx := hid (HBx.out.up (hea.trans hb))
 replace HTx := hid (HTx.out.up (hea.trans hb))
 replace HBt := hid (HBt.out.up (hea.trans hb))
 replace HTt := hid (HTt.out.up (hea.trans hb))
 clear hb hea hT
 simp only [Act.put, pA, pB, pC]
 refine WE.newR (d := some 38) (cs := #[.int .i64 opx, .bool gx, .slice Nx nnx ncx, str nmx, .int .i64 sox, .slice Ax nx cx, .int .i64 opm, .bool gm, .slice Nm nnm ncm, str nmm, .int .i64 som, .slice Am nm cm]) (t := 27) (v := fun g => .slice (some ⟨g, 0, none⟩) 2 2) rfl rfl (by rfl) (fun w => by go_simp) fun gr w4 hb hbx _ => ?_
 replace E := hid (E.out.trans hb)
 replace HBx := hid (HBx.out.up hb)
 replace HTx := hid (HTx.out.up hb)
 replace HBt := hid (HBt.out.up hb)
 replace HTt := hid (HTt.out.up hb)
 replace HTm := hid (HTm.out.up hb)
 have HR := hid hbx
 clear hb hbx
 simp only [Act.put, pA, pB, pC]
 refine WE.callR (d := some 39) rfl rfl (by rfl) (fun w => by go_simp) fun wa hea => ((F.make_ (HTB.out _ (E.out.trans hea)) (op := 16) (tms_two (HTx.out.up hea) (HTm.out.up hea) (HR.out.up hea)) (M.kfewL_2 M.kfewT_x M.kfewT_0)).mono ?_)
 intro e w5 hh
 obtain ⟨v5, rfl, hT, hb⟩ := hh.code M.kmake_div
 refine ⟨_, rfl, hb, ?_⟩
 obtain ⟨Nd, nnd, ncd, Ad, nd, cd, rfl, -, -, -, -, -, -⟩ := hT.shape
 obtain ⟨opd, hx⟩ : ∃ x, ((M.kmake 16 [M.xT, M.n0T]).1).op = x := ⟨_, rfl⟩
 rw [hx] at hT ⊢
 have HOPd := hid hx
 clear hx
 obtain ⟨gd, hx⟩ : ∃ x, ((M.kmake 16 [M.xT, M.n0T]).1).g = x := ⟨_, rfl⟩
 rw [hx] at hT ⊢
 clear hx
 obtain ⟨nmd, hx⟩ : ∃ x, ((M.kmake 16 [M.xT, M.n0T]).1).name = x := ⟨_, rfl⟩
 rw [hx] at hT ⊢
 clear hx
 obtain ⟨sod, hx⟩ : ∃ x, ((M.kmake 16 [M.xT, M.n0T]).1).sort = x := ⟨_, rfl⟩
 rw [hx] at hT ⊢
 have HSOd := hid hx
 clear hx
 replace E := hid (E.out.trans (hea.trans hb))
 have HTd := hid hT
 replace HBx := hid (HBx.out.up (hea.trans hb))
 replace HTx := hid (HTx.out.up (hea.trans hb))
 replace HBt := hid (HBt.out.up (hea.trans hb))
 replace HTt := hid (HTt.out.up (hea.trans hb))
 clear hb hea hT hh
 simp only [Act.put, pA, pB, pC]
 refine WE.p 35 (.tuple #[kv opd gd Nd nnd ncd nmd sod Ad nd cd, .int .i64 12]) ?_
 simp only [Act.put, pA, pB, pC]
 refine WE.p 40 (kv opd gd Nd nnd ncd nmd sod Ad nd cd) ?_
 simp only [Act.put, pA, pB, pC]
 refine WE.y 41 (.int .i64 12) ?_
 simp only [Act.put, pA, pB, pC]
 refine WE.var (d := some 7) rfl fun gdv w6 hb hbx hge hng => ?_
 replace E := hid (E.out.trans hb)
 replace HTd := hid (HTd.out.up hb)
 replace HBx := hid (HBx.out.up hb)
 replace HTx := hid (HTx.out.up hb)
 replace HBt := hid (HBt.out.up hb)
 replace HTt := hid (HTt.out.up hb)
 have a0 := hbx.free 0
 have a1 := hbx.free 1
 have a2 := hbx.free 2
 have a3 := hbx.free 3
 have a4 := hbx.free 4
 have a5 := hbx.free 5
 have hk6 := hbx.lt
 have z0 := hbx.k 0
 have z1 := hbx.k 1
 have z2 := hbx.k 2
 have z3 := hbx.k 3
 have z4 := hbx.k 4
 have z5 := hbx.k 5
 simp only [Act.put, pA, pB, pC]
 refine WE.store (w' := put6 w6 gdv (.int .i64 opd) (.bool gd) (.slice Nd nnd ncd) (str nmd) (.int .i64 sod) (.slice Ad nd cd)) rfl rfl (by rfl) (by go_simp) (by simp) ?_
 refine WE.y 8 (.int .i64 12) ?_
 simp only [Act.put, pA, pB, pC]
 refine WE.done ?_
 have HG := hid (show w.heap.size ≤ gdv from Nat.le_trans HWD.out hge)
 have HZ := hid (show Box w6 gdv zero6 27 from hbx)
 obtain ⟨w9, hW⟩ : ∃ W, W = put6 w6 gdv (.int .i64 opd) (.bool gd) (.slice Nd nnd ncd) (str nmd) (.int .i64 sod) (.slice Ad nd cd) := ⟨_, rfl⟩
 rw [← hW]
 replace E := hid (show Ext w w9 by rw [hW]; exact put6_ext E.out HG.out)
 replace HBx := hid (show Box w9 _ _ _ by rw [hW]; exact HBx.out.kept put6_kept (by have := HLx.out; simp; omega))
 replace HTx := hid (show IsTm w9 _ _ by rw [hW]; exact isTm_put HZ.out M.kis_x HTx.out)
 replace HBt := hid (show Box w9 _ _ _ by rw [hW]; exact HBt.out.kept put6_kept (by have := HLt.out; simp; omega))
 replace HTt := hid (show IsTm w9 _ _ by rw [hW]; exact isTm_put HZ.out M.kis_le HTt.out)
 clear hW hb hbx hge hng a0 a1 a2 a3 a4 a5 hk6 z0 z1 z2 z3 z4 z5 HZ HWD HTm HR
 clear HLx
 clear HLt
 clear HTd
 obtain ⟨⟨a0, a1, a2, a3, a4, a5⟩, -, -⟩ := boxF6 HBx.out
 go_wp2_with fail
 refine (F.make_ (HTB.out _ (E.out.alloc' _)) (op := 5) (tms_one (HTx.out.up (Ext.alloc _ _)) (Box.new _ _ _)) (M.kfewL_1 M.kfewT_x)).mono ?_
 intro e w10 hh
 obtain ⟨v, rfl, hT, hb⟩ := hh.code M.kmake_not
 clear a0 a1 a2 a3 a4 a5
 replace hb := (Ext.alloc _ _).trans hb
 obtain ⟨Nf, nnf, ncf, Af, nf, cf, rfl, -, -, -, -, -, -⟩ := hT.shape
 obtain ⟨opf, hx⟩ : ∃ x, ((M.kmake 5 [M.xT]).1).op = x := ⟨_, rfl⟩
 rw [hx] at hT ⊢
 have HOPf := hid hx
 clear hx
 obtain ⟨gf, hx⟩ : ∃ x, ((M.kmake 5 [M.xT]).1).g = x := ⟨_, rfl⟩
 rw [hx] at hT ⊢
 clear hx
 obtain ⟨nmf, hx⟩ : ∃ x, ((M.kmake 5 [M.xT]).1).name = x := ⟨_, rfl⟩
 rw [hx] at hT ⊢
 clear hx
 obtain ⟨sof, hx⟩ : ∃ x, ((M.kmake 5 [M.xT]).1).sort = x := ⟨_, rfl⟩
 rw [hx] at hT ⊢
 have HSOf := hid hx
 clear hx
 replace E := hid (E.out.trans hb)
 replace HBx := hid (HBx.out.up hb)
 replace HTx := hid (HTx.out.up hb)
 replace HBt := hid (HBt.out.up hb)
 replace HTt := hid (HTt.out.up hb)
 have HTf := hid (hT.up (Ext.alloc w10 (.cells #[.int .i64 opf, .bool gf, .slice Nf nnf ncf, str nmf, .int .i64 sof, .slice Af nf cf] 27)))
 have HBf := hid (Box.new w10 #[.int .i64 opf, .bool gf, .slice Nf nnf ncf, str nmf, .int .i64 sof, .slice Af nf cf] 27)
 replace E := hid (E.out.trans (Ext.alloc w10 (.cells #[.int .i64 opf, .bool gf, .slice Nf nnf ncf, str nmf, .int .i64 sof, .slice Af nf cf] 27)))
 replace HBx := hid (HBx.out.up (Ext.alloc w10 (.cells #[.int .i64 opf, .bool gf, .slice Nf nnf ncf, str nmf, .int .i64 sof, .slice Af nf cf] 27)))
 replace HTx := hid (HTx.out.up (Ext.alloc w10 (.cells #[.int .i64 opf, .bool gf, .slice Nf nnf ncf, str nmf, .int .i64 sof, .slice Af nf cf] 27)))
 replace HBt := hid (HBt.out.up (Ext.alloc w10 (.cells #[.int .i64 opf, .bool gf, .slice Nf nnf ncf, str nmf, .int .i64 sof, .slice Af nf cf] 27)))
 replace HTt := hid (HTt.out.up (Ext.alloc w10 (.cells #[.int .i64 opf, .bool gf, .slice Nf nnf ncf, str nmf, .int .i64 sof, .slice Af nf cf] 27)))
 clear hT hb hh
 clear HTf HBf
 go_wp2_with fail
 refine (F.make_ (HTB.out _ E.out) (op := 5) (Tms.nil _) (rfl)).mono ?_
 intro e w11 hh
 obtain ⟨v, rfl, hT, hb⟩ := hh.code M.kmake_none
 obtain ⟨Nh, nnh, nch, Ah, nh, ch, rfl, -, -, -, -, -, -⟩ := hT.shape
 obtain ⟨oph, hx⟩ : ∃ x, ((M.kmake 5 []).1).op = x := ⟨_, rfl⟩
 rw [hx] at hT ⊢
 have HOPh := hid hx
 clear hx
 obtain ⟨gh, hx⟩ : ∃ x, ((M.kmake 5 []).1).g = x := ⟨_, rfl⟩
 rw [hx] at hT ⊢
 clear hx
 obtain ⟨nmh, hx⟩ : ∃ x, ((M.kmake 5 []).1).name = x := ⟨_, rfl⟩
 rw [hx] at hT ⊢
 clear hx
 obtain ⟨soh, hx⟩ : ∃ x, ((M.kmake 5 []).1).sort = x := ⟨_, rfl⟩
 rw [hx] at hT ⊢
 have HSOh := hid hx
 clear hx
 replace E := hid (E.out.trans hb)
 replace HBx := hid (HBx.out.up hb)
 replace HTx := hid (HTx.out.up hb)
 replace HBt := hid (HBt.out.up hb)
 replace HTt := hid (HTt.out.up hb)
 have HTh := hid (hT.up (Ext.alloc w11 (.cells #[.int .i64 oph, .bool gh, .slice Nh nnh nch, str nmh, .int .i64 soh, .slice Ah nh ch] 27)))
 have HBh := hid (Box.new w11 #[.int .i64 oph, .bool gh, .slice Nh nnh nch, str nmh, .int .i64 soh, .slice Ah nh ch] 27)
 replace E := hid (E.out.trans (Ext.alloc w11 (.cells #[.int .i64 oph, .bool gh, .slice Nh nnh nch, str nmh, .int .i64 soh, .slice Ah nh ch] 27)))
 replace HBx := hid (HBx.out.up (Ext.alloc w11 (.cells #[.int .i64 oph, .bool gh, .slice Nh nnh nch, str nmh, .int .i64 soh, .slice Ah nh ch] 27)))
 replace HTx := hid (HTx.out.up (Ext.alloc w11 (.cells #[.int .i64 oph, .bool gh, .slice Nh nnh nch, str nmh, .int .i64 soh, .slice Ah nh ch] 27)))
 replace HBt := hid (HBt.out.up (Ext.alloc w11 (.cells #[.int .i64 oph, .bool gh, .slice Nh nnh nch, str nmh, .int .i64 soh, .slice Ah nh ch] 27)))
 replace HTt := hid (HTt.out.up (Ext.alloc w11 (.cells #[.int .i64 oph, .bool gh, .slice Nh nnh nch, str nmh, .int .i64 soh, .slice Ah nh ch] 27)))
 clear hT hb hh
 clear HTh HBh
 obtain ⟨⟨b0, b1, b2, b3, b4, b5⟩, -, -⟩ := boxF6 HBt.out
 go_wp2_with fail
 refine (F.sigs_ (HTB.out _ E.out) HTt.out M.kfewT_le).mono ?_
 rintro e w13 ⟨v9, rfl, hS, hb⟩
 rw [M.kIs_le, if_pos rfl, M.kSigs_le] at hS ⊢
 clear b0 b1 b2 b3 b4 b5
 replace E := hid (E.out.trans hb)
 replace HBx := hid (HBx.out.up hb)
 replace HTx := hid (HTx.out.up hb)
 replace HBt := hid (HBt.out.up hb)
 replace HTt := hid (HTt.out.up hb)
 clear hb
 replace hS : Sgs w13 [M.sT] v9 := hS
 obtain ⟨A9, c9, rfl⟩ := hS.shape
 replace hS : Sgs w13 [M.sT] (.slice A9 1 c9) := hS
 obtain ⟨h91, h92, h93⟩ := hS.le
 obtain ⟨ad, s9, B9, d9, rfl, hs9, ⟨k0, k1, k2⟩, hi9⟩ := hS.get (k := 0) (by decide)
 obtain rfl : M.sT = s9 := by simpa using hs9
 have HC0 := hid (show w13.cell? ad = some (str [120]) from k0)
 have HC1 := hid (show w13.cell? ⟨ad.block, ad.off + 1, none⟩ = some (.slice B9 0 d9) from k1)
 have HC2 := hid (show w13.cell? ⟨ad.block, ad.off + 2, none⟩ = some (.int .i64 2) from k2)
 have HSG := hid (show ∀ w', Ext w13 w' → Calls Tryd.prog 29 #[sgv [120] B9 0 d9 2] w' (GivesB w' true) from fun w' e => M.ksig_x ▸ F.sig_ (s := M.sT) (hi9.up e) M.kfewS_x)
 have HCT := hid (show ∀ w', Ext w13 w' → Calls Tryd.prog 14 #[kv opt gt Nt nnt nct nmt sot At nt ct] w' (GivesI w' 3) from fun w' e => by
  have := F.count_ (HTt.out.up e) M.kfewT_le
  rw [M.kcnt_le] at this
  exact this)
 have HIT := hid (show ∀ w', Ext w13 w' → Calls Tryd.prog 13 #[kv opt gt Nt nnt nct nmt sot At nt ct] w' (GivesB w' true) from fun w' e => M.kIs_le ▸ F.is_ (HTB.out _ (E.out.trans e)) (HTt.out.up e) M.kfewT_le)
 have HIK := hid (show ∀ w', Ext w13 w' → Calls Tryd.prog 13 #[kv 0 false none 0 0 [] 0 none 0 0] w' (GivesB w' false) from fun w' e => M.kIs_K0 ▸ F.is_ (HTB.out _ (E.out.trans e)) (IsTm.zero w') M.kfewT_K0)
 have HST := hid (show ∀ w', Ext w13 w' → Calls Tryd.prog 16 #[kv opt gt Nt nnt nct nmt sot At nt ct, kv opt gt Nt nnt nct nmt sot At nt ct] w' (GivesB w' true) from fun w' e => M.ksame_refl M.leT ▸ F.same_ (HTt.out.up e) (HTt.out.up e) M.kfewT_le M.kfewT_le)
 have HS1 := hid (show sot = 1 from HSOt.out.symm)
 clear hS hs9 k0 k1 k2 hi9 h91
 go_wp2_with fail
 refine wp_region_D [(0, 0), (1, 0), (2, 0), (3, 0), (4, 0), (5, 0), (6, 0), (7, 0), (8, 1), (9, 1), (10, 0), (11, 0), (12, 0), (13, 0), (14, 0), (15, 0), (16, 0), (17, 0), (18, 1), (19, 0), (20, 0), (21, 0), (22, 0), (23, 0), (24, 0), (25, 0), (26, 0), (27, 0), (28, 0), (29, 0), (30, 0), (31, 0), (32, 0), (33, 0), (34, 0), (35, 0), (36, 0), (37, 0), (38, 0), (39, 0), (40, 0), (41, 0), (42, 0), (43, 0), (44, 0), (45, 0), (46, 0), (47, 1), (48, 0), (49, 0), (50, 0), (51, 1), (52, 0), (53, 0), (54, 0), (55, 0), (56, 0), (57, 1), (58, 0), (59, 0), (60, 1), (61, 0), (62, 0), (63, 0), (64, 0), (65, 0), (66, 0), (67, 0), (68, 1), (69, 0), (70, 0)] fun wd hb => ?_
 have E0 := hid hb
 replace E := hid (E.out.trans hb)
 clear hb
 refine WE.p 57 (.int .i64 0) ?_
 simp only [Act.put, pA, pB, pC]
 refine WE.p 58 (.bool true) ?_
 simp only [Act.put, pA, pB, pC]
 refine WE.p 59 (.bool true) ?_
 simp only [Act.put, pA, pB, pC]
 refine WE.p 60 (.int .i64 0) ?_
 simp only [Act.put, pA, pB, pC]
 refine WE.p 61 (.bool true) ?_
 simp only [Act.put, pA, pB, pC]
 refine WE.p 62 (.bool true) ?_
 simp only [Act.put, pA, pB, pC]
 refine WE.p 63 (.bool true) ?_
 simp only [Act.put, pA, pB, pC]
 refine WE.q 64 (kv opx gx Nx nnx ncx nmx sox Ax nx cx) rfl (fun w' hk => by obtain ⟨⟨x0, x1, x2, x3, x4, x5⟩, -, -⟩ := boxF6 (HBx.out.up (E0.out.trans hk)); go_simp) ?_
 simp only [Act.put, pA, pB, pC]
 refine WE.c 65 ((con_n [120] 2 _).mono ?_)
 rintro e w12 ⟨v65, rfl, hT, hb6⟩
 refine ⟨_, rfl, hb6, ?_⟩
 replace E := hid (E.out.trans hb6)
 replace E0 := hid (E0.out.trans hb6)
 have H65 := hid hT
 clear hb6 hT
 simp only [Act.put, pA, pB, pC]
 refine WE.c 66 ((rkSame_t (HTx.out.up E0.out) H65.out).mono ?_)
 rintro e w12 ⟨rfl, hb6⟩
 refine ⟨_, rfl, hb6, ?_⟩
 replace E := hid (E.out.trans hb6)
 replace E0 := hid (E0.out.trans hb6)
 clear hb6
 simp only [Act.put, pA, pB, pC]
 refine WE.p 67 (.bool true) ?_
 simp only [Act.put, pA, pB, pC]
 refine WE.p 68 (.bool true) ?_
 simp only [Act.put, pA, pB, pC]
 refine WE.p 69 (.pointer (some ⟨gtv, 4, none⟩)) ?_
 simp only [Act.put, pA, pB, pC]
 refine WE.q 70 (.int .i64 sot) rfl (fun w' hk => by obtain ⟨⟨x0, x1, x2, x3, x4, x5⟩, -, -⟩ := boxF6 (HBt.out.up (E0.out.trans hk)); go_simp) ?_
 simp only [Act.put, pA, pB, pC]
 refine WE.q 71 (.bool true) rfl (fun w' hk => by have hf := HS1.out; go_simp) ?_
 simp only [Act.put, pA, pB, pC]
 refine WE.p 72 (.bool true) ?_
 simp only [Act.put, pA, pB, pC]
 refine WE.p 73 (.bool true) ?_
 simp only [Act.put, pA, pB, pC]
 refine WE.q 74 (kv opt gt Nt nnt nct nmt sot At nt ct) rfl (fun w' hk => by obtain ⟨⟨x0, x1, x2, x3, x4, x5⟩, -, -⟩ := boxF6 (HBt.out.up (E0.out.trans hk)); go_simp) ?_
 simp only [Act.put, pA, pB, pC]
 refine WE.c 75 ((HCT.out _ E0.out).mono ?_)
 rintro e w12 ⟨rfl, hb6⟩
 refine ⟨_, rfl, hb6, ?_⟩
 replace E := hid (E.out.trans hb6)
 replace E0 := hid (E0.out.trans hb6)
 clear hb6
 simp only [Act.put, pA, pB, pC]
 refine WE.p 76 (.bool true) ?_
 simp only [Act.put, pA, pB, pC]
 refine WE.p 77 (.bool true) ?_
 simp only [Act.put, pA, pB, pC]
 refine WE.p 78 (.bool true) ?_
 simp only [Act.put, pA, pB, pC]
 refine WE.p 79 (.int .i64 19) ?_
 simp only [Act.put, pA, pB, pC]
 refine WE.p 80 (.bool true) ?_
 simp only [Act.put, pA, pB, pC]
 refine WE.p 81 (.bool true) ?_
 simp only [Act.put, pA, pB, pC]
 refine WE.p 82 (.bool true) ?_
 simp only [Act.put, pA, pB, pC]
 refine WE.p 83 (.int .i64 12) ?_
 simp only [Act.put, pA, pB, pC]
 refine WE.p 84 (.bool true) ?_
 simp only [Act.put, pA, pB, pC]
 refine WE.p 85 (.bool true) ?_
 simp only [Act.put, pA, pB, pC]
 refine WE.p 86 (.bool true) ?_
 simp only [Act.put, pA, pB, pC]
 refine WE.p 87 (.int .i64 17) ?_
 simp only [Act.put, pA, pB, pC]
 refine WE.p 88 (.bool true) ?_
 simp only [Act.put, pA, pB, pC]
 refine WE.p 89 (.bool true) ?_
 simp only [Act.put, pA, pB, pC]
 refine WE.p 90 (.bool true) ?_
 simp only [Act.put, pA, pB, pC]
 refine WE.p 91 (.int .i64 18) ?_
 simp only [Act.put, pA, pB, pC]
 refine WE.p 92 (.bool true) ?_
 simp only [Act.put, pA, pB, pC]
 refine WE.p 93 (.bool true) ?_
 simp only [Act.put, pA, pB, pC]
 refine WE.p 94 (.bool true) ?_
 simp only [Act.put, pA, pB, pC]
 refine WE.p 95 (.bool true) ?_
 simp only [Act.put, pA, pB, pC]
 refine WE.p 96 (.bool true) ?_
 simp only [Act.put, pA, pB, pC]
 refine WE.p 97 (.bool true) ?_
 simp only [Act.put, pA, pB, pC]
 refine WE.p 98 (.slice (some ad) 1 c9) ?_
 simp only [Act.put, pA, pB, pC]
 refine WE.p 99 (.int .i64 1) ?_
 simp only [Act.put, pA, pB, pC]
 refine WE.p 100 (.bool true) ?_
 simp only [Act.put, pA, pB, pC]
 refine WE.p 101 (.bool true) ?_
 simp only [Act.put, pA, pB, pC]
 refine WE.p 102 (.bool true) ?_
 simp only [Act.put, pA, pB, pC]
 refine WE.q 103 (kv opt gt Nt nnt nct nmt sot At nt ct) rfl (fun w' hk => by obtain ⟨⟨x0, x1, x2, x3, x4, x5⟩, -, -⟩ := boxF6 (HBt.out.up (E0.out.trans hk)); go_simp) ?_
 simp only [Act.put, pA, pB, pC]
 refine WE.c 104 ((HIT.out _ E0.out).mono ?_)
 rintro e w12 ⟨rfl, hb6⟩
 refine ⟨_, rfl, hb6, ?_⟩
 replace E := hid (E.out.trans hb6)
 replace E0 := hid (E0.out.trans hb6)
 clear hb6
 simp only [Act.put, pA, pB, pC]
 refine WE.p 105 (.bool true) ?_
 simp only [Act.put, pA, pB, pC]
 refine WE.p 106 (.bool true) ?_
 simp only [Act.put, pA, pB, pC]
 refine WE.p 107 (kv 0 false none 0 0 [] 0 none 0 0) ?_
 simp only [Act.put, pA, pB, pC]
 refine WE.c 108 ((HIK.out _ E0.out).mono ?_)
 rintro e w12 ⟨rfl, hb6⟩
 refine ⟨_, rfl, hb6, ?_⟩
 replace E := hid (E.out.trans hb6)
 replace E0 := hid (E0.out.trans hb6)
 clear hb6
 simp only [Act.put, pA, pB, pC]
 refine WE.p 109 (.bool true) ?_
 simp only [Act.put, pA, pB, pC]
 refine WE.p 110 (.bool true) ?_
 simp only [Act.put, pA, pB, pC]
 refine WE.p 111 (.bool true) ?_
 simp only [Act.put, pA, pB, pC]
 refine WE.q 112 (kv opt gt Nt nnt nct nmt sot At nt ct) rfl (fun w' hk => by obtain ⟨⟨x0, x1, x2, x3, x4, x5⟩, -, -⟩ := boxF6 (HBt.out.up (E0.out.trans hk)); go_simp) ?_
 simp only [Act.put, pA, pB, pC]
 refine WE.q 113 (kv opt gt Nt nnt nct nmt sot At nt ct) rfl (fun w' hk => by obtain ⟨⟨x0, x1, x2, x3, x4, x5⟩, -, -⟩ := boxF6 (HBt.out.up (E0.out.trans hk)); go_simp) ?_
 simp only [Act.put, pA, pB, pC]
 refine WE.c 114 ((HST.out _ E0.out).mono ?_)
 rintro e w12 ⟨rfl, hb6⟩
 refine ⟨_, rfl, hb6, ?_⟩
 replace E := hid (E.out.trans hb6)
 replace E0 := hid (E0.out.trans hb6)
 clear hb6
 simp only [Act.put, pA, pB, pC]
 refine WE.p 115 (.bool true) ?_
 simp only [Act.put, pA, pB, pC]
 refine WE.p 116 (.bool true) ?_
 simp only [Act.put, pA, pB, pC]
 refine WE.c 117 ((F.bool_ true _).mono ?_)
 rintro e w12 ⟨v60, rfl, hT, hb6⟩
 refine ⟨_, rfl, hb6, ?_⟩
 replace E := hid (E.out.trans hb6)
 replace E0 := hid (E0.out.trans hb6)
 rw [if_pos rfl] at hT
 obtain ⟨Nb, nnb, ncb, Ab, nb, cb, rfl, -, -, -, -, -, -⟩ := hT.shape
 obtain ⟨opb, hx⟩ : ∃ x, (M.Tm.mk 2 false [] [] 1 []).op = x := ⟨_, rfl⟩
 rw [hx] at hT ⊢
 have HOPb := hid (show opb = 2 from hx.symm)
 clear hx
 obtain ⟨gb, hx⟩ : ∃ x, ((M.Tm.mk 2 false [] [] 1 [])).g = x := ⟨_, rfl⟩
 rw [hx] at hT ⊢
 clear hx
 obtain ⟨nmb, hx⟩ : ∃ x, ((M.Tm.mk 2 false [] [] 1 [])).name = x := ⟨_, rfl⟩
 rw [hx] at hT ⊢
 clear hx
 obtain ⟨sob, hx⟩ : ∃ x, ((M.Tm.mk 2 false [] [] 1 [])).sort = x := ⟨_, rfl⟩
 rw [hx] at hT ⊢
 clear hx
 clear hb6 hT
 simp only [Act.put, pA, pB, pC]
 refine WE.q 118 (.int .i64 opb) rfl (fun w' hk => by have hf : ∀ w, (Instr.field 27 (kv opb gb Nb nnb ncb nmb sob Ab nb cb) 0).run Tryd.prog w = .ok (.int .i64 opb) w := (fun w => by kernel_rfl); go_simp) ?_
 simp only [Act.put, pA, pB, pC]
 refine WE.q 119 (.bool true) rfl (fun w' hk => by have hf := HOPb.out; go_simp) ?_
 simp only [Act.put, pA, pB, pC]
 refine WE.p 120 (.bool true) ?_
 simp only [Act.put, pA, pB, pC]
 refine WE.p 121 (.bool true) ?_
 simp only [Act.put, pA, pB, pC]
 refine WE.p 122 (.slice (some ad) 1 c9) ?_
 simp only [Act.put, pA, pB, pC]
 refine WE.p 123 (.pointer (some ad)) ?_
 simp only [Act.put, pA, pB, pC]
 refine WE.q 124 (sgv [120] B9 0 d9 2) rfl (fun w' hk => by have x0 := hk.cell (E0.out.cell HC0.out); have x1 := hk.cell (E0.out.cell HC1.out); have x2 := hk.cell (E0.out.cell HC2.out); go_simp) ?_
 simp only [Act.put, pA, pB, pC]
 refine WE.c 125 ((HSG.out _ E0.out).mono ?_)
 rintro e w12 ⟨rfl, hb6⟩
 refine ⟨_, rfl, hb6, ?_⟩
 replace E := hid (E.out.trans hb6)
 replace E0 := hid (E0.out.trans hb6)
 clear hb6
 simp only [Act.put, pA, pB, pC]
 refine WE.p 126 (.bool true) ?_
 simp only [Act.put, pA, pB, pC]
 refine WE.p 0 (.bool true) ?_
 simp only [Act.put, pA, pB, pC]
 refine WE.done ?_
 go_wp2_with fail
 go_ret
 exact ⟨rfl, E.out⟩
end Go.Proofs.YtaoboilkpgphaaaDoor.Q
