/-
  WholeOrders: whatever three integers, or what is none: true, and the input reads as it did. No conditions.
-/
import Derived.Test.YtjmonmbgfihgmaaZKnown
namespace Go.Proofs.Ytjmonmbgfihgmaa
open Go.ChangeShapes Go.WideShapes Go.ChangeAt Go.RowKit
set_option linter.unusedSimpArgs false
set_option linter.unusedVariables false

set_option maxRecDepth 100000 in
set_option maxHeartbeats 8000000 in
theorem wholeOrders_ge (W : World) (ga : Bool) (Aa : Option Addr) (na ca : Nat) (la : List Nat) (ha : Num W W.heap.size (.slice Aa na ca) la) (gb : Bool) (Ab : Option Addr) (nb cb : Nat) (lb : List Nat) (hb : Num W W.heap.size (.slice Ab nb cb) lb) (gc : Bool) (Ac : Option Addr) (nc cc : Nat) (lc : List Nat) (hc : Num W W.heap.size (.slice Ac nc cc) lc) (fa : Hid (decide (la.length ≤ 8) = true)) (fb : Hid (decide (lb.length ≤ 8) = true)) (fc : Hid (decide (lc.length ≤ 8) = true)) (ia : Hid (M.isZ ga la = true)) (ib : Hid (M.isZ gb lb = true)) (ic : Hid (M.isZ gc lc = true)) (x : Int) (HX : Hid (x = M.zv ga la)) (y : Int) (HY : Hid (y = M.zv gb lb)) (z : Int) (HZ : Hid (z = M.zv gc lc)) (hcond : Hid (0 ≤ M.zcmp x y)) :
    Calls Try.prog 7 #[.agg #[.bool ga, .slice Aa na ca], .agg #[.bool gb, .slice Ab nb cb], .agg #[.bool gc, .slice Ac nc cc]] W (fun e w' => e = .returned (.bool true) ∧ Ext W w') := by
  obtain ⟨u0, hu0⟩ : ∃ s : Int, M.zcmp x y = s := ⟨_, rfl⟩
  obtain ⟨u1, hu1⟩ : ∃ s : Int, M.zcmp y x = s := ⟨_, rfl⟩
  obtain ⟨cm, hcm⟩ : ∃ s : Int, M.zcmp (x * z) (y * z) = s := ⟨_, rfl⟩
  obtain ⟨sc, hsc⟩ : ∃ s : Int, z.sign = s := ⟨_, rfl⟩
  obtain ⟨b0, hb0⟩ : ∃ b : Bool, decide (x = y) = b := ⟨_, rfl⟩
  have HC0 := hid hu0
  have HC1 := hid hu1
  have HC4 := hid hcm
  have HSC := hid hsc
  have HB0 := hid hb0
  have HNEG := hid (show u1 = -u0 by rw [← hu0, ← hu1]; exact M.zcmp_swap x y)
  have hr0 := M.zcmp_range x y
  have hr1 := M.zcmp_range y x
  rw [hu0] at hr0
  rw [hu1] at hr1
  have HW0 := hid (show IntKind.i64.wrap u0 = u0 by rw [IntKind.wrap_i64]; omega)
  have HW1 := hid (show IntKind.i64.wrap u1 = u1 by rw [IntKind.wrap_i64]; omega)
  have HC2 := hid (show M.zcmp (-x) (-y) = u1 by rw [← hu1]; unfold M.zcmp; congr 1; omega)
  have HC3 := hid (show M.zcmp (x + z) (y + z) = u0 by rw [← hu0]; unfold M.zcmp; congr 1; omega)
  have hz0 : (u0 == 0) = b0 := by rw [← hu0, ← hb0, Bool.eq_iff_iff]; simp [M.zcmp_eq]
  have hwm : IntKind.i64.wrap (u0 * sc) = cm := by rw [← hu0, ← hsc, ← hcm, side_mul (by rw [hu0]; exact hr0.1) (by rw [hu0]; exact hr0.2) (side_of z).1 (side_of z).2]; unfold M.zcmp; rw [← Int.sign_mul, Int.sub_mul]
  have hg0 : decide (0 ≤ u0) = true := by rw [← hu0]; simpa using hcond.out
  clear hu0 hu1 hcm hsc hb0 hr0 hr1
  have Na := hid ha
  have Nb := hid hb
  have Nc := hid hc
  have Ra := hid (worth_of ha (of_decide_eq_true fa.out) HX.out)
  have Rb := hid (worth_of hb (of_decide_eq_true fb.out) HY.out)
  have Rc := hid (worth_of hc (of_decide_eq_true fc.out) HZ.out)
  clear ha hb hc
  go_enter Try.func7, Try.ntmps7
  go_upto_region 1 with (fail)
  have E := hid ((((Ext.refl W).alloc' (.cells #[.bool ga, .slice Aa na ca] 24)).alloc' (.cells #[.bool gb, .slice Ab nb cb] 24)).alloc' (.cells #[.bool gc, .slice Ac nc cc] 24))
  have Ba : Hid (Box (((W.alloc (.cells #[.bool ga, .slice Aa na ca] 24)).alloc (.cells #[.bool gb, .slice Ab nb cb] 24)).alloc (.cells #[.bool gc, .slice Ac nc cc] 24)) (W.heap.size) #[.bool ga, .slice Aa na ca] 24) := hid (((Box.at_ (w := W) #[.bool ga, .slice Aa na ca] 24 (by simp)).alloc (.cells #[.bool gb, .slice Ab nb cb] 24)).alloc (.cells #[.bool gc, .slice Ac nc cc] 24))
  have Bb : Hid (Box (((W.alloc (.cells #[.bool ga, .slice Aa na ca] 24)).alloc (.cells #[.bool gb, .slice Ab nb cb] 24)).alloc (.cells #[.bool gc, .slice Ac nc cc] 24)) (W.heap.size + 1) #[.bool gb, .slice Ab nb cb] 24) := hid ((Box.at_ (w := (W.alloc (.cells #[.bool ga, .slice Aa na ca] 24))) #[.bool gb, .slice Ab nb cb] 24 (by simp)).alloc (.cells #[.bool gc, .slice Ac nc cc] 24))
  have Bc : Hid (Box (((W.alloc (.cells #[.bool ga, .slice Aa na ca] 24)).alloc (.cells #[.bool gb, .slice Ab nb cb] 24)).alloc (.cells #[.bool gc, .slice Ac nc cc] 24)) (W.heap.size + 2) #[.bool gc, .slice Ac nc cc] 24) := hid (Box.at_ (w := ((W.alloc (.cells #[.bool ga, .slice Aa na ca] 24)).alloc (.cells #[.bool gb, .slice Ab nb cb] 24))) #[.bool gc, .slice Ac nc cc] 24 (by simp))
  replace Na := hid (Na.out.up E.out)
  replace Nb := hid (Nb.out.up E.out)
  replace Nc := hid (Nc.out.up E.out)
  replace Ra := hid (Ra.out.up E.out)
  replace Rb := hid (Rb.out.up E.out)
  replace Rc := hid (Rc.out.up E.out)
  go_upto_region 1 with (fail)
  refine wp_region_T [(0, 1), (1, 0)] (by kernel_rfl) fun wd hb => ?_
  replace E := hid (E.out.trans hb)
  replace Ba := hid (Ba.out.up hb)
  replace Bb := hid (Bb.out.up hb)
  replace Bc := hid (Bc.out.up hb)
  replace Na := hid (Na.out.up hb)
  replace Nb := hid (Nb.out.up hb)
  replace Nc := hid (Nc.out.up hb)
  replace Ra := hid (Ra.out.up hb)
  replace Rb := hid (Rb.out.up hb)
  replace Rc := hid (Rc.out.up hb)
  clear hb
  refine WE.call (d := some 8) rfl rfl (by rfl) (f := 11) (args := #[]) (by go_simp) ?_
  refine (known2 _).mono ?_
  rintro e wn ⟨rfl, hb⟩
  refine ⟨_, rfl, hb, ?_⟩
  replace E := hid (E.out.trans hb)
  replace Ba := hid (Ba.out.up hb)
  replace Bb := hid (Bb.out.up hb)
  replace Bc := hid (Bc.out.up hb)
  replace Na := hid (Na.out.up hb)
  replace Nb := hid (Nb.out.up hb)
  replace Nc := hid (Nc.out.up hb)
  replace Ra := hid (Ra.out.up hb)
  replace Rb := hid (Rb.out.up hb)
  replace Rc := hid (Rc.out.up hb)
  clear hb
  simp only [Act.put, List.setIfInBounds_toArray, List.set_cons_zero, List.set_cons_succ]
  refine WE.pure (d := some 9) rfl rfl (by rfl) (v := (.bool false)) (fun w' hk => ?_) ?_
  · go_simp
  simp only [Act.put, List.setIfInBounds_toArray, List.set_cons_zero, List.set_cons_succ]
  refine WE.done ?_
  go_upto_region 3 with (fail)
  refine wp_region_T [(0, 0), (1, 1), (2, 0), (3, 0), (4, 0), (5, 1), (6, 0), (7, 0), (8, 0), (9, 0), (10, 1), (11, 0), (12, 0), (13, 0), (14, 0), (15, 1), (16, 0), (17, 0), (18, 0), (19, 0), (20, 1), (21, 0), (22, 0), (23, 0), (24, 0), (25, 1), (26, 0), (27, 0)] (by kernel_rfl) fun wd hb => ?_
  replace E := hid (E.out.trans hb)
  replace Ba := hid (Ba.out.up hb)
  replace Bb := hid (Bb.out.up hb)
  replace Bc := hid (Bc.out.up hb)
  replace Na := hid (Na.out.up hb)
  replace Nb := hid (Nb.out.up hb)
  replace Nc := hid (Nc.out.up hb)
  replace Ra := hid (Ra.out.up hb)
  replace Rb := hid (Rb.out.up hb)
  replace Rc := hid (Rc.out.up hb)
  clear hb
  refine WE.pure (d := some 10) rfl rfl (by rfl) (v := (.agg #[.bool ga, .slice Aa na ca])) (fun w' hk => ?_) ?_
  · have c0 := hk.cell (Ba.out.cell (o := 0) (v := .bool ga) rfl); have c1 := hk.cell (Ba.out.cell (o := 1) (v := .slice Aa na ca) rfl); go_simp
  simp only [Act.put, List.setIfInBounds_toArray, List.set_cons_zero, List.set_cons_succ]
  refine WE.call (d := some 11) rfl rfl (by rfl) (f := 12) (args := #[(.agg #[.bool ga, .slice Aa na ca])]) (by go_simp) ?_
  refine (few_z Na.out fa.out).mono ?_
  rintro e wn ⟨rfl, hb⟩
  refine ⟨_, rfl, hb, ?_⟩
  replace E := hid (E.out.trans hb)
  replace Ba := hid (Ba.out.up hb)
  replace Bb := hid (Bb.out.up hb)
  replace Bc := hid (Bc.out.up hb)
  replace Na := hid (Na.out.up hb)
  replace Nb := hid (Nb.out.up hb)
  replace Nc := hid (Nc.out.up hb)
  replace Ra := hid (Ra.out.up hb)
  replace Rb := hid (Rb.out.up hb)
  replace Rc := hid (Rc.out.up hb)
  clear hb
  simp only [Act.put, List.setIfInBounds_toArray, List.set_cons_zero, List.set_cons_succ]
  refine WE.pure (d := some 12) rfl rfl (by rfl) (v := (.bool false)) (fun w' hk => ?_) ?_
  · go_simp
  simp only [Act.put, List.setIfInBounds_toArray, List.set_cons_zero, List.set_cons_succ]
  refine WE.pure (d := some 13) rfl rfl (by rfl) (v := (.bool false)) (fun w' hk => ?_) ?_
  · go_simp
  simp only [Act.put, List.setIfInBounds_toArray, List.set_cons_zero, List.set_cons_succ]
  refine WE.pure (d := some 14) rfl rfl (by rfl) (v := (.agg #[.bool gb, .slice Ab nb cb])) (fun w' hk => ?_) ?_
  · have c0 := hk.cell (Bb.out.cell (o := 0) (v := .bool gb) rfl); have c1 := hk.cell (Bb.out.cell (o := 1) (v := .slice Ab nb cb) rfl); go_simp
  simp only [Act.put, List.setIfInBounds_toArray, List.set_cons_zero, List.set_cons_succ]
  refine WE.call (d := some 15) rfl rfl (by rfl) (f := 12) (args := #[(.agg #[.bool gb, .slice Ab nb cb])]) (by go_simp) ?_
  refine (few_z Nb.out fb.out).mono ?_
  rintro e wn ⟨rfl, hb⟩
  refine ⟨_, rfl, hb, ?_⟩
  replace E := hid (E.out.trans hb)
  replace Ba := hid (Ba.out.up hb)
  replace Bb := hid (Bb.out.up hb)
  replace Bc := hid (Bc.out.up hb)
  replace Na := hid (Na.out.up hb)
  replace Nb := hid (Nb.out.up hb)
  replace Nc := hid (Nc.out.up hb)
  replace Ra := hid (Ra.out.up hb)
  replace Rb := hid (Rb.out.up hb)
  replace Rc := hid (Rc.out.up hb)
  clear hb
  simp only [Act.put, List.setIfInBounds_toArray, List.set_cons_zero, List.set_cons_succ]
  refine WE.pure (d := some 16) rfl rfl (by rfl) (v := (.bool false)) (fun w' hk => ?_) ?_
  · go_simp
  simp only [Act.put, List.setIfInBounds_toArray, List.set_cons_zero, List.set_cons_succ]
  refine WE.pure (d := some 17) rfl rfl (by rfl) (v := (.bool false)) (fun w' hk => ?_) ?_
  · go_simp
  simp only [Act.put, List.setIfInBounds_toArray, List.set_cons_zero, List.set_cons_succ]
  refine WE.pure (d := some 18) rfl rfl (by rfl) (v := (.bool false)) (fun w' hk => ?_) ?_
  · go_simp
  simp only [Act.put, List.setIfInBounds_toArray, List.set_cons_zero, List.set_cons_succ]
  refine WE.pure (d := some 19) rfl rfl (by rfl) (v := (.agg #[.bool gc, .slice Ac nc cc])) (fun w' hk => ?_) ?_
  · have c0 := hk.cell (Bc.out.cell (o := 0) (v := .bool gc) rfl); have c1 := hk.cell (Bc.out.cell (o := 1) (v := .slice Ac nc cc) rfl); go_simp
  simp only [Act.put, List.setIfInBounds_toArray, List.set_cons_zero, List.set_cons_succ]
  refine WE.call (d := some 20) rfl rfl (by rfl) (f := 12) (args := #[(.agg #[.bool gc, .slice Ac nc cc])]) (by go_simp) ?_
  refine (few_z Nc.out fc.out).mono ?_
  rintro e wn ⟨rfl, hb⟩
  refine ⟨_, rfl, hb, ?_⟩
  replace E := hid (E.out.trans hb)
  replace Ba := hid (Ba.out.up hb)
  replace Bb := hid (Bb.out.up hb)
  replace Bc := hid (Bc.out.up hb)
  replace Na := hid (Na.out.up hb)
  replace Nb := hid (Nb.out.up hb)
  replace Nc := hid (Nc.out.up hb)
  replace Ra := hid (Ra.out.up hb)
  replace Rb := hid (Rb.out.up hb)
  replace Rc := hid (Rc.out.up hb)
  clear hb
  simp only [Act.put, List.setIfInBounds_toArray, List.set_cons_zero, List.set_cons_succ]
  refine WE.pure (d := some 21) rfl rfl (by rfl) (v := (.bool false)) (fun w' hk => ?_) ?_
  · go_simp
  simp only [Act.put, List.setIfInBounds_toArray, List.set_cons_zero, List.set_cons_succ]
  refine WE.pure (d := some 22) rfl rfl (by rfl) (v := (.bool false)) (fun w' hk => ?_) ?_
  · go_simp
  simp only [Act.put, List.setIfInBounds_toArray, List.set_cons_zero, List.set_cons_succ]
  refine WE.pure (d := some 23) rfl rfl (by rfl) (v := (.bool false)) (fun w' hk => ?_) ?_
  · go_simp
  simp only [Act.put, List.setIfInBounds_toArray, List.set_cons_zero, List.set_cons_succ]
  refine WE.pure (d := some 24) rfl rfl (by rfl) (v := (.agg #[.bool ga, .slice Aa na ca])) (fun w' hk => ?_) ?_
  · have c0 := hk.cell (Ba.out.cell (o := 0) (v := .bool ga) rfl); have c1 := hk.cell (Ba.out.cell (o := 1) (v := .slice Aa na ca) rfl); go_simp
  simp only [Act.put, List.setIfInBounds_toArray, List.set_cons_zero, List.set_cons_succ]
  refine WE.call (d := some 25) rfl rfl (by rfl) (f := 19) (args := #[(.agg #[.bool ga, .slice Aa na ca])]) (by go_simp) ?_
  refine (wIs_any Na.out ia.out).mono ?_
  rintro e wn ⟨rfl, hb⟩
  refine ⟨_, rfl, hb, ?_⟩
  replace E := hid (E.out.trans hb)
  replace Ba := hid (Ba.out.up hb)
  replace Bb := hid (Bb.out.up hb)
  replace Bc := hid (Bc.out.up hb)
  replace Na := hid (Na.out.up hb)
  replace Nb := hid (Nb.out.up hb)
  replace Nc := hid (Nc.out.up hb)
  replace Ra := hid (Ra.out.up hb)
  replace Rb := hid (Rb.out.up hb)
  replace Rc := hid (Rc.out.up hb)
  clear hb
  simp only [Act.put, List.setIfInBounds_toArray, List.set_cons_zero, List.set_cons_succ]
  refine WE.pure (d := some 26) rfl rfl (by rfl) (v := (.bool false)) (fun w' hk => ?_) ?_
  · go_simp
  simp only [Act.put, List.setIfInBounds_toArray, List.set_cons_zero, List.set_cons_succ]
  refine WE.pure (d := some 27) rfl rfl (by rfl) (v := (.bool false)) (fun w' hk => ?_) ?_
  · go_simp
  simp only [Act.put, List.setIfInBounds_toArray, List.set_cons_zero, List.set_cons_succ]
  refine WE.pure (d := some 28) rfl rfl (by rfl) (v := (.bool false)) (fun w' hk => ?_) ?_
  · go_simp
  simp only [Act.put, List.setIfInBounds_toArray, List.set_cons_zero, List.set_cons_succ]
  refine WE.pure (d := some 29) rfl rfl (by rfl) (v := (.agg #[.bool gb, .slice Ab nb cb])) (fun w' hk => ?_) ?_
  · have c0 := hk.cell (Bb.out.cell (o := 0) (v := .bool gb) rfl); have c1 := hk.cell (Bb.out.cell (o := 1) (v := .slice Ab nb cb) rfl); go_simp
  simp only [Act.put, List.setIfInBounds_toArray, List.set_cons_zero, List.set_cons_succ]
  refine WE.call (d := some 30) rfl rfl (by rfl) (f := 19) (args := #[(.agg #[.bool gb, .slice Ab nb cb])]) (by go_simp) ?_
  refine (wIs_any Nb.out ib.out).mono ?_
  rintro e wn ⟨rfl, hb⟩
  refine ⟨_, rfl, hb, ?_⟩
  replace E := hid (E.out.trans hb)
  replace Ba := hid (Ba.out.up hb)
  replace Bb := hid (Bb.out.up hb)
  replace Bc := hid (Bc.out.up hb)
  replace Na := hid (Na.out.up hb)
  replace Nb := hid (Nb.out.up hb)
  replace Nc := hid (Nc.out.up hb)
  replace Ra := hid (Ra.out.up hb)
  replace Rb := hid (Rb.out.up hb)
  replace Rc := hid (Rc.out.up hb)
  clear hb
  simp only [Act.put, List.setIfInBounds_toArray, List.set_cons_zero, List.set_cons_succ]
  refine WE.pure (d := some 31) rfl rfl (by rfl) (v := (.bool false)) (fun w' hk => ?_) ?_
  · go_simp
  simp only [Act.put, List.setIfInBounds_toArray, List.set_cons_zero, List.set_cons_succ]
  refine WE.pure (d := some 32) rfl rfl (by rfl) (v := (.bool false)) (fun w' hk => ?_) ?_
  · go_simp
  simp only [Act.put, List.setIfInBounds_toArray, List.set_cons_zero, List.set_cons_succ]
  refine WE.pure (d := some 33) rfl rfl (by rfl) (v := (.bool false)) (fun w' hk => ?_) ?_
  · go_simp
  simp only [Act.put, List.setIfInBounds_toArray, List.set_cons_zero, List.set_cons_succ]
  refine WE.pure (d := some 34) rfl rfl (by rfl) (v := (.agg #[.bool gc, .slice Ac nc cc])) (fun w' hk => ?_) ?_
  · have c0 := hk.cell (Bc.out.cell (o := 0) (v := .bool gc) rfl); have c1 := hk.cell (Bc.out.cell (o := 1) (v := .slice Ac nc cc) rfl); go_simp
  simp only [Act.put, List.setIfInBounds_toArray, List.set_cons_zero, List.set_cons_succ]
  refine WE.call (d := some 35) rfl rfl (by rfl) (f := 19) (args := #[(.agg #[.bool gc, .slice Ac nc cc])]) (by go_simp) ?_
  refine (wIs_any Nc.out ic.out).mono ?_
  rintro e wn ⟨rfl, hb⟩
  refine ⟨_, rfl, hb, ?_⟩
  replace E := hid (E.out.trans hb)
  replace Ba := hid (Ba.out.up hb)
  replace Bb := hid (Bb.out.up hb)
  replace Bc := hid (Bc.out.up hb)
  replace Na := hid (Na.out.up hb)
  replace Nb := hid (Nb.out.up hb)
  replace Nc := hid (Nc.out.up hb)
  replace Ra := hid (Ra.out.up hb)
  replace Rb := hid (Rb.out.up hb)
  replace Rc := hid (Rc.out.up hb)
  clear hb
  simp only [Act.put, List.setIfInBounds_toArray, List.set_cons_zero, List.set_cons_succ]
  refine WE.pure (d := some 36) rfl rfl (by rfl) (v := (.bool false)) (fun w' hk => ?_) ?_
  · go_simp
  simp only [Act.put, List.setIfInBounds_toArray, List.set_cons_zero, List.set_cons_succ]
  refine WE.pure (d := some 37) rfl rfl (by rfl) (v := (.bool false)) (fun w' hk => ?_) ?_
  · go_simp
  simp only [Act.put, List.setIfInBounds_toArray, List.set_cons_zero, List.set_cons_succ]
  refine WE.done ?_
  go_upto_region 5 with (fail)
  refine wp_region_T [(0, 0), (1, 0), (2, 1), (3, 0)] (by kernel_rfl) fun wd hb => ?_
  replace E := hid (E.out.trans hb)
  replace Ba := hid (Ba.out.up hb)
  replace Bb := hid (Bb.out.up hb)
  replace Bc := hid (Bc.out.up hb)
  replace Na := hid (Na.out.up hb)
  replace Nb := hid (Nb.out.up hb)
  replace Nc := hid (Nc.out.up hb)
  replace Ra := hid (Ra.out.up hb)
  replace Rb := hid (Rb.out.up hb)
  replace Rc := hid (Rc.out.up hb)
  clear hb
  refine WE.pure (d := some 38) rfl rfl (by rfl) (v := (.agg #[.bool ga, .slice Aa na ca])) (fun w' hk => ?_) ?_
  · have c0 := hk.cell (Ba.out.cell (o := 0) (v := .bool ga) rfl); have c1 := hk.cell (Ba.out.cell (o := 1) (v := .slice Aa na ca) rfl); go_simp
  simp only [Act.put, List.setIfInBounds_toArray, List.set_cons_zero, List.set_cons_succ]
  refine WE.pure (d := some 39) rfl rfl (by rfl) (v := (.agg #[.bool gb, .slice Ab nb cb])) (fun w' hk => ?_) ?_
  · have c0 := hk.cell (Bb.out.cell (o := 0) (v := .bool gb) rfl); have c1 := hk.cell (Bb.out.cell (o := 1) (v := .slice Ab nb cb) rfl); go_simp
  simp only [Act.put, List.setIfInBounds_toArray, List.set_cons_zero, List.set_cons_succ]
  refine WE.call (d := some 40) rfl rfl (by rfl) (f := 26) (args := #[(.agg #[.bool ga, .slice Aa na ca]), (.agg #[.bool gb, .slice Ab nb cb])]) (by go_simp) ?_
  refine (cmp_w Ra.out Rb.out (z := u0) (HC0.out)).mono ?_
  rintro e wn ⟨rfl, hb⟩
  refine ⟨_, rfl, hb, ?_⟩
  replace E := hid (E.out.trans hb)
  replace Ba := hid (Ba.out.up hb)
  replace Bb := hid (Bb.out.up hb)
  replace Bc := hid (Bc.out.up hb)
  replace Na := hid (Na.out.up hb)
  replace Nb := hid (Nb.out.up hb)
  replace Nc := hid (Nc.out.up hb)
  replace Ra := hid (Ra.out.up hb)
  replace Rb := hid (Rb.out.up hb)
  replace Rc := hid (Rc.out.up hb)
  clear hb
  simp only [Act.put, List.setIfInBounds_toArray, List.set_cons_zero, List.set_cons_succ]
  refine WE.pure (d := some 7) rfl rfl (by rfl) (v := (.int .i64 u0)) (fun w' hk => ?_) ?_
  · go_simp
  simp only [Act.put, List.setIfInBounds_toArray, List.set_cons_zero, List.set_cons_succ]
  refine WE.done ?_
  go_upto_region 6 with (fail)
  refine wp_region_E [(0, 0), (1, 0), (2, 0), (3, 1), (4, 0), (5, 0), (6, 0), (7, 0), (9, 0), (12, 0), (13, 0), (8, 1), (10, 1), (11, 1), (14, 0), (15, 0), (16, 0), (17, 0), (18, 0), (20, 0), (21, 0), (24, 0), (19, 1), (22, 1), (23, 1), (25, 0), (26, 0), (27, 0), (28, 0), (29, 0), (31, 0), (32, 0), (30, 1), (33, 0), (34, 0)] (fun _ => (0, #[])) rfl (by kernel_rfl) (by intro j hj; cases hj) (fun _ _ d _ _ => by cases d <;> exact Iff.rfl) fun wd hb => ?_
  replace E := hid (E.out.trans hb)
  replace Ba := hid (Ba.out.up hb)
  replace Bb := hid (Bb.out.up hb)
  replace Bc := hid (Bc.out.up hb)
  replace Na := hid (Na.out.up hb)
  replace Nb := hid (Nb.out.up hb)
  replace Nc := hid (Nc.out.up hb)
  replace Ra := hid (Ra.out.up hb)
  replace Rb := hid (Rb.out.up hb)
  replace Rc := hid (Rc.out.up hb)
  clear hb
  refine WE.pure (d := some 41) rfl rfl (by rfl) (v := (.int .i64 u0)) (fun w' hk => ?_) ?_
  · go_simp
  simp only [Act.put, List.setIfInBounds_toArray, List.set_cons_zero, List.set_cons_succ]
  refine WE.pure (d := some 42) rfl rfl (by rfl) (v := (.agg #[.bool gb, .slice Ab nb cb])) (fun w' hk => ?_) ?_
  · have c0 := hk.cell (Bb.out.cell (o := 0) (v := .bool gb) rfl); have c1 := hk.cell (Bb.out.cell (o := 1) (v := .slice Ab nb cb) rfl); go_simp
  simp only [Act.put, List.setIfInBounds_toArray, List.set_cons_zero, List.set_cons_succ]
  refine WE.pure (d := some 43) rfl rfl (by rfl) (v := (.agg #[.bool ga, .slice Aa na ca])) (fun w' hk => ?_) ?_
  · have c0 := hk.cell (Ba.out.cell (o := 0) (v := .bool ga) rfl); have c1 := hk.cell (Ba.out.cell (o := 1) (v := .slice Aa na ca) rfl); go_simp
  simp only [Act.put, List.setIfInBounds_toArray, List.set_cons_zero, List.set_cons_succ]
  refine WE.call (d := some 44) rfl rfl (by rfl) (f := 26) (args := #[(.agg #[.bool gb, .slice Ab nb cb]), (.agg #[.bool ga, .slice Aa na ca])]) (by go_simp) ?_
  refine (cmp_w Rb.out Ra.out (z := u1) (HC1.out)).mono ?_
  rintro e wn ⟨rfl, hb⟩
  refine ⟨_, rfl, hb, ?_⟩
  replace E := hid (E.out.trans hb)
  replace Ba := hid (Ba.out.up hb)
  replace Bb := hid (Bb.out.up hb)
  replace Bc := hid (Bc.out.up hb)
  replace Na := hid (Na.out.up hb)
  replace Nb := hid (Nb.out.up hb)
  replace Nc := hid (Nc.out.up hb)
  replace Ra := hid (Ra.out.up hb)
  replace Rb := hid (Rb.out.up hb)
  replace Rc := hid (Rc.out.up hb)
  clear hb
  simp only [Act.put, List.setIfInBounds_toArray, List.set_cons_zero, List.set_cons_succ]
  refine WE.pure (d := some 45) rfl rfl (by rfl) (v := (.int .i64 u0)) (fun w' hk => ?_) ?_
  · have r2 : -u1 = u0 := (by have := HNEG.out; omega); have r3 : IntKind.i64.wrap u0 = u0 := HW0.out; go_simp
  simp only [Act.put, List.setIfInBounds_toArray, List.set_cons_zero, List.set_cons_succ]
  refine WE.pure (d := some 46) rfl rfl (by rfl) (v := (.bool false)) (fun w' hk => ?_) ?_
  · go_simp
  simp only [Act.put, List.setIfInBounds_toArray, List.set_cons_zero, List.set_cons_succ]
  refine WE.pure (d := some 47) rfl rfl (by rfl) (v := (.bool false)) (fun w' hk => ?_) ?_
  · go_simp
  simp only [Act.put, List.setIfInBounds_toArray, List.set_cons_zero, List.set_cons_succ]
  refine WE.pure (d := some 48) rfl rfl (by rfl) (v := (.agg #[.bool ga, .slice Aa na ca])) (fun w' hk => ?_) ?_
  · have c0 := hk.cell (Ba.out.cell (o := 0) (v := .bool ga) rfl); have c1 := hk.cell (Ba.out.cell (o := 1) (v := .slice Aa na ca) rfl); go_simp
  simp only [Act.put, List.setIfInBounds_toArray, List.set_cons_zero, List.set_cons_succ]
  refine WE.pure (d := some 50) rfl rfl (by rfl) (v := (.agg #[.bool gb, .slice Ab nb cb])) (fun w' hk => ?_) ?_
  · have c0 := hk.cell (Bb.out.cell (o := 0) (v := .bool gb) rfl); have c1 := hk.cell (Bb.out.cell (o := 1) (v := .slice Ab nb cb) rfl); go_simp
  simp only [Act.put, List.setIfInBounds_toArray, List.set_cons_zero, List.set_cons_succ]
  refine WE.pure (d := some 53) rfl rfl (by rfl) (v := (.int .i64 u0)) (fun w' hk => ?_) ?_
  · go_simp
  simp only [Act.put, List.setIfInBounds_toArray, List.set_cons_zero, List.set_cons_succ]
  refine WE.pure (d := some 54) rfl rfl (by rfl) (v := (.int .i64 u1)) (fun w' hk => ?_) ?_
  · have r2 : -u0 = u1 := (by have := HNEG.out; omega); have r3 : IntKind.i64.wrap u1 = u1 := HW1.out; go_simp
  simp only [Act.put, List.setIfInBounds_toArray, List.set_cons_zero, List.set_cons_succ]
  refine WE.call (d := some 49) rfl rfl (by rfl) (f := 30) (args := #[(.agg #[.bool ga, .slice Aa na ca])]) (by go_simp) ?_
  refine (neg_w Ra.out (by omega)).mono ?_
  rintro e wn ⟨v1, rfl, x1, hb⟩
  obtain ⟨g1, A1, n1, c1, rfl⟩ := x1.shape
  refine ⟨_, rfl, hb, ?_⟩
  replace E := hid (E.out.trans hb)
  replace Ba := hid (Ba.out.up hb)
  replace Bb := hid (Bb.out.up hb)
  replace Bc := hid (Bc.out.up hb)
  replace Na := hid (Na.out.up hb)
  replace Nb := hid (Nb.out.up hb)
  replace Nc := hid (Nc.out.up hb)
  replace Ra := hid (Ra.out.up hb)
  replace Rb := hid (Rb.out.up hb)
  replace Rc := hid (Rc.out.up hb)
  have Q1 := hid x1
  clear hb x1
  simp only [Act.put, List.setIfInBounds_toArray, List.set_cons_zero, List.set_cons_succ]
  refine WE.call (d := some 51) rfl rfl (by rfl) (f := 30) (args := #[(.agg #[.bool gb, .slice Ab nb cb])]) (by go_simp) ?_
  refine (neg_w Rb.out (by omega)).mono ?_
  rintro e wn ⟨v1, rfl, x1, hb⟩
  obtain ⟨g2, A2, n2, c2, rfl⟩ := x1.shape
  refine ⟨_, rfl, hb, ?_⟩
  replace E := hid (E.out.trans hb)
  replace Ba := hid (Ba.out.up hb)
  replace Bb := hid (Bb.out.up hb)
  replace Bc := hid (Bc.out.up hb)
  replace Na := hid (Na.out.up hb)
  replace Nb := hid (Nb.out.up hb)
  replace Nc := hid (Nc.out.up hb)
  replace Ra := hid (Ra.out.up hb)
  replace Rb := hid (Rb.out.up hb)
  replace Rc := hid (Rc.out.up hb)
  replace Q1 := hid (Q1.out.up hb)
  have Q2 := hid x1
  clear hb x1
  simp only [Act.put, List.setIfInBounds_toArray, List.set_cons_zero, List.set_cons_succ]
  refine WE.call (d := some 52) rfl rfl (by rfl) (f := 26) (args := #[(.agg #[.bool g1, .slice A1 n1 c1]), (.agg #[.bool g2, .slice A2 n2 c2])]) (by go_simp) ?_
  refine (cmp_w Q1.out.worth Q2.out.worth (z := u1) (HC2.out)).mono ?_
  rintro e wn ⟨rfl, hb⟩
  refine ⟨_, rfl, hb, ?_⟩
  replace E := hid (E.out.trans hb)
  replace Ba := hid (Ba.out.up hb)
  replace Bb := hid (Bb.out.up hb)
  replace Bc := hid (Bc.out.up hb)
  replace Na := hid (Na.out.up hb)
  replace Nb := hid (Nb.out.up hb)
  replace Nc := hid (Nc.out.up hb)
  replace Ra := hid (Ra.out.up hb)
  replace Rb := hid (Rb.out.up hb)
  replace Rc := hid (Rc.out.up hb)
  replace Q1 := hid (Q1.out.up hb)
  replace Q2 := hid (Q2.out.up hb)
  clear hb
  simp only [Act.put, List.setIfInBounds_toArray, List.set_cons_zero, List.set_cons_succ]
  clear Q1
  clear Q2
  refine WE.pure (d := some 55) rfl rfl (by rfl) (v := (.bool false)) (fun w' hk => ?_) ?_
  · go_simp
  simp only [Act.put, List.setIfInBounds_toArray, List.set_cons_zero, List.set_cons_succ]
  refine WE.pure (d := some 56) rfl rfl (by rfl) (v := (.bool false)) (fun w' hk => ?_) ?_
  · go_simp
  simp only [Act.put, List.setIfInBounds_toArray, List.set_cons_zero, List.set_cons_succ]
  refine WE.pure (d := some 57) rfl rfl (by rfl) (v := (.bool false)) (fun w' hk => ?_) ?_
  · go_simp
  simp only [Act.put, List.setIfInBounds_toArray, List.set_cons_zero, List.set_cons_succ]
  refine WE.pure (d := some 58) rfl rfl (by rfl) (v := (.agg #[.bool ga, .slice Aa na ca])) (fun w' hk => ?_) ?_
  · have c0 := hk.cell (Ba.out.cell (o := 0) (v := .bool ga) rfl); have c1 := hk.cell (Ba.out.cell (o := 1) (v := .slice Aa na ca) rfl); go_simp
  simp only [Act.put, List.setIfInBounds_toArray, List.set_cons_zero, List.set_cons_succ]
  refine WE.pure (d := some 59) rfl rfl (by rfl) (v := (.agg #[.bool gc, .slice Ac nc cc])) (fun w' hk => ?_) ?_
  · have c0 := hk.cell (Bc.out.cell (o := 0) (v := .bool gc) rfl); have c1 := hk.cell (Bc.out.cell (o := 1) (v := .slice Ac nc cc) rfl); go_simp
  simp only [Act.put, List.setIfInBounds_toArray, List.set_cons_zero, List.set_cons_succ]
  refine WE.pure (d := some 61) rfl rfl (by rfl) (v := (.agg #[.bool gb, .slice Ab nb cb])) (fun w' hk => ?_) ?_
  · have c0 := hk.cell (Bb.out.cell (o := 0) (v := .bool gb) rfl); have c1 := hk.cell (Bb.out.cell (o := 1) (v := .slice Ab nb cb) rfl); go_simp
  simp only [Act.put, List.setIfInBounds_toArray, List.set_cons_zero, List.set_cons_succ]
  refine WE.pure (d := some 62) rfl rfl (by rfl) (v := (.agg #[.bool gc, .slice Ac nc cc])) (fun w' hk => ?_) ?_
  · have c0 := hk.cell (Bc.out.cell (o := 0) (v := .bool gc) rfl); have c1 := hk.cell (Bc.out.cell (o := 1) (v := .slice Ac nc cc) rfl); go_simp
  simp only [Act.put, List.setIfInBounds_toArray, List.set_cons_zero, List.set_cons_succ]
  refine WE.pure (d := some 65) rfl rfl (by rfl) (v := (.int .i64 u0)) (fun w' hk => ?_) ?_
  · go_simp
  simp only [Act.put, List.setIfInBounds_toArray, List.set_cons_zero, List.set_cons_succ]
  refine WE.call (d := some 60) rfl rfl (by rfl) (f := 34) (args := #[(.agg #[.bool ga, .slice Aa na ca]), (.agg #[.bool gc, .slice Ac nc cc])]) (by go_simp) ?_
  refine (add_w Ra.out Rc.out (by omega) (by omega)).mono ?_
  rintro e wn ⟨v1, rfl, x1, hb⟩
  obtain ⟨g3, A3, n3, c3, rfl⟩ := x1.shape
  refine ⟨_, rfl, hb, ?_⟩
  replace E := hid (E.out.trans hb)
  replace Ba := hid (Ba.out.up hb)
  replace Bb := hid (Bb.out.up hb)
  replace Bc := hid (Bc.out.up hb)
  replace Na := hid (Na.out.up hb)
  replace Nb := hid (Nb.out.up hb)
  replace Nc := hid (Nc.out.up hb)
  replace Ra := hid (Ra.out.up hb)
  replace Rb := hid (Rb.out.up hb)
  replace Rc := hid (Rc.out.up hb)
  have Q3 := hid x1
  clear hb x1
  simp only [Act.put, List.setIfInBounds_toArray, List.set_cons_zero, List.set_cons_succ]
  refine WE.call (d := some 63) rfl rfl (by rfl) (f := 34) (args := #[(.agg #[.bool gb, .slice Ab nb cb]), (.agg #[.bool gc, .slice Ac nc cc])]) (by go_simp) ?_
  refine (add_w Rb.out Rc.out (by omega) (by omega)).mono ?_
  rintro e wn ⟨v1, rfl, x1, hb⟩
  obtain ⟨g4, A4, n4, c4, rfl⟩ := x1.shape
  refine ⟨_, rfl, hb, ?_⟩
  replace E := hid (E.out.trans hb)
  replace Ba := hid (Ba.out.up hb)
  replace Bb := hid (Bb.out.up hb)
  replace Bc := hid (Bc.out.up hb)
  replace Na := hid (Na.out.up hb)
  replace Nb := hid (Nb.out.up hb)
  replace Nc := hid (Nc.out.up hb)
  replace Ra := hid (Ra.out.up hb)
  replace Rb := hid (Rb.out.up hb)
  replace Rc := hid (Rc.out.up hb)
  replace Q3 := hid (Q3.out.up hb)
  have Q4 := hid x1
  clear hb x1
  simp only [Act.put, List.setIfInBounds_toArray, List.set_cons_zero, List.set_cons_succ]
  refine WE.call (d := some 64) rfl rfl (by rfl) (f := 26) (args := #[(.agg #[.bool g3, .slice A3 n3 c3]), (.agg #[.bool g4, .slice A4 n4 c4])]) (by go_simp) ?_
  refine (cmp_w Q3.out.worth Q4.out.worth (z := u0) (HC3.out)).mono ?_
  rintro e wn ⟨rfl, hb⟩
  refine ⟨_, rfl, hb, ?_⟩
  replace E := hid (E.out.trans hb)
  replace Ba := hid (Ba.out.up hb)
  replace Bb := hid (Bb.out.up hb)
  replace Bc := hid (Bc.out.up hb)
  replace Na := hid (Na.out.up hb)
  replace Nb := hid (Nb.out.up hb)
  replace Nc := hid (Nc.out.up hb)
  replace Ra := hid (Ra.out.up hb)
  replace Rb := hid (Rb.out.up hb)
  replace Rc := hid (Rc.out.up hb)
  replace Q3 := hid (Q3.out.up hb)
  replace Q4 := hid (Q4.out.up hb)
  clear hb
  simp only [Act.put, List.setIfInBounds_toArray, List.set_cons_zero, List.set_cons_succ]
  clear Q3
  clear Q4
  refine WE.pure (d := some 66) rfl rfl (by rfl) (v := (.bool false)) (fun w' hk => ?_) ?_
  · go_simp
  simp only [Act.put, List.setIfInBounds_toArray, List.set_cons_zero, List.set_cons_succ]
  refine WE.pure (d := some 67) rfl rfl (by rfl) (v := (.bool false)) (fun w' hk => ?_) ?_
  · go_simp
  simp only [Act.put, List.setIfInBounds_toArray, List.set_cons_zero, List.set_cons_succ]
  refine WE.pure (d := some 68) rfl rfl (by rfl) (v := (.bool false)) (fun w' hk => ?_) ?_
  · go_simp
  simp only [Act.put, List.setIfInBounds_toArray, List.set_cons_zero, List.set_cons_succ]
  refine WE.pure (d := some 69) rfl rfl (by rfl) (v := (.agg #[.bool ga, .slice Aa na ca])) (fun w' hk => ?_) ?_
  · have c0 := hk.cell (Ba.out.cell (o := 0) (v := .bool ga) rfl); have c1 := hk.cell (Ba.out.cell (o := 1) (v := .slice Aa na ca) rfl); go_simp
  simp only [Act.put, List.setIfInBounds_toArray, List.set_cons_zero, List.set_cons_succ]
  refine WE.pure (d := some 70) rfl rfl (by rfl) (v := (.agg #[.bool gb, .slice Ab nb cb])) (fun w' hk => ?_) ?_
  · have c0 := hk.cell (Bb.out.cell (o := 0) (v := .bool gb) rfl); have c1 := hk.cell (Bb.out.cell (o := 1) (v := .slice Ab nb cb) rfl); go_simp
  simp only [Act.put, List.setIfInBounds_toArray, List.set_cons_zero, List.set_cons_succ]
  refine WE.pure (d := some 72) rfl rfl (by rfl) (v := (.int .i64 u0)) (fun w' hk => ?_) ?_
  · go_simp
  simp only [Act.put, List.setIfInBounds_toArray, List.set_cons_zero, List.set_cons_succ]
  refine WE.pure (d := some 73) rfl rfl (by rfl) (v := (.bool b0)) (fun w' hk => ?_) ?_
  · go_simp
  simp only [Act.put, List.setIfInBounds_toArray, List.set_cons_zero, List.set_cons_succ]
  refine WE.call (d := some 71) rfl rfl (by rfl) (f := 28) (args := #[(.agg #[.bool ga, .slice Aa na ca]), (.agg #[.bool gb, .slice Ab nb cb])]) (by go_simp) ?_
  refine (same_w Ra.out Rb.out (b := b0) (HB0.out)).mono ?_
  rintro e wn ⟨rfl, hb⟩
  refine ⟨_, rfl, hb, ?_⟩
  replace E := hid (E.out.trans hb)
  replace Ba := hid (Ba.out.up hb)
  replace Bb := hid (Bb.out.up hb)
  replace Bc := hid (Bc.out.up hb)
  replace Na := hid (Na.out.up hb)
  replace Nb := hid (Nb.out.up hb)
  replace Nc := hid (Nc.out.up hb)
  replace Ra := hid (Ra.out.up hb)
  replace Rb := hid (Rb.out.up hb)
  replace Rc := hid (Rc.out.up hb)
  clear hb
  simp only [Act.put, List.setIfInBounds_toArray, List.set_cons_zero, List.set_cons_succ]
  refine WE.pure (d := some 74) rfl rfl (by rfl) (v := (.bool false)) (fun w' hk => ?_) ?_
  · go_simp
  simp only [Act.put, List.setIfInBounds_toArray, List.set_cons_zero, List.set_cons_succ]
  refine WE.pure (d := some 75) rfl rfl (by rfl) (v := (.bool false)) (fun w' hk => ?_) ?_
  · go_simp
  simp only [Act.put, List.setIfInBounds_toArray, List.set_cons_zero, List.set_cons_succ]
  refine WE.done ?_
  go_upto_region 8 with (fail)
  refine wp_region_E [(0, 0), (1, 0), (3, 0), (4, 0), (7, 0), (8, 0), (2, 1), (5, 1), (6, 1), (9, 1), (10, 0), (11, 0), (12, 0), (13, 0), (14, 0), (15, 0), (16, 0), (17, 0), (18, 1), (19, 0), (20, 0), (21, 0), (22, 0), (23, 0), (24, 1), (25, 0), (26, 0), (27, 0), (28, 0)] (fun _ => (0, #[])) rfl (by kernel_rfl) (by intro j hj; cases hj) (fun _ _ d _ _ => by cases d <;> exact Iff.rfl) fun wd hb => ?_
  replace E := hid (E.out.trans hb)
  replace Ba := hid (Ba.out.up hb)
  replace Bb := hid (Bb.out.up hb)
  replace Bc := hid (Bc.out.up hb)
  replace Na := hid (Na.out.up hb)
  replace Nb := hid (Nb.out.up hb)
  replace Nc := hid (Nc.out.up hb)
  replace Ra := hid (Ra.out.up hb)
  replace Rb := hid (Rb.out.up hb)
  replace Rc := hid (Rc.out.up hb)
  clear hb
  refine WE.pure (d := some 76) rfl rfl (by rfl) (v := (.agg #[.bool ga, .slice Aa na ca])) (fun w' hk => ?_) ?_
  · have c0 := hk.cell (Ba.out.cell (o := 0) (v := .bool ga) rfl); have c1 := hk.cell (Ba.out.cell (o := 1) (v := .slice Aa na ca) rfl); go_simp
  simp only [Act.put, List.setIfInBounds_toArray, List.set_cons_zero, List.set_cons_succ]
  refine WE.pure (d := some 77) rfl rfl (by rfl) (v := (.agg #[.bool gc, .slice Ac nc cc])) (fun w' hk => ?_) ?_
  · have c0 := hk.cell (Bc.out.cell (o := 0) (v := .bool gc) rfl); have c1 := hk.cell (Bc.out.cell (o := 1) (v := .slice Ac nc cc) rfl); go_simp
  simp only [Act.put, List.setIfInBounds_toArray, List.set_cons_zero, List.set_cons_succ]
  refine WE.pure (d := some 79) rfl rfl (by rfl) (v := (.agg #[.bool gb, .slice Ab nb cb])) (fun w' hk => ?_) ?_
  · have c0 := hk.cell (Bb.out.cell (o := 0) (v := .bool gb) rfl); have c1 := hk.cell (Bb.out.cell (o := 1) (v := .slice Ab nb cb) rfl); go_simp
  simp only [Act.put, List.setIfInBounds_toArray, List.set_cons_zero, List.set_cons_succ]
  refine WE.pure (d := some 80) rfl rfl (by rfl) (v := (.agg #[.bool gc, .slice Ac nc cc])) (fun w' hk => ?_) ?_
  · have c0 := hk.cell (Bc.out.cell (o := 0) (v := .bool gc) rfl); have c1 := hk.cell (Bc.out.cell (o := 1) (v := .slice Ac nc cc) rfl); go_simp
  simp only [Act.put, List.setIfInBounds_toArray, List.set_cons_zero, List.set_cons_succ]
  refine WE.pure (d := some 83) rfl rfl (by rfl) (v := (.int .i64 u0)) (fun w' hk => ?_) ?_
  · go_simp
  simp only [Act.put, List.setIfInBounds_toArray, List.set_cons_zero, List.set_cons_succ]
  refine WE.pure (d := some 84) rfl rfl (by rfl) (v := (.agg #[.bool gc, .slice Ac nc cc])) (fun w' hk => ?_) ?_
  · have c0 := hk.cell (Bc.out.cell (o := 0) (v := .bool gc) rfl); have c1 := hk.cell (Bc.out.cell (o := 1) (v := .slice Ac nc cc) rfl); go_simp
  simp only [Act.put, List.setIfInBounds_toArray, List.set_cons_zero, List.set_cons_succ]
  refine WE.call (d := some 78) rfl rfl (by rfl) (f := 38) (args := #[(.agg #[.bool ga, .slice Aa na ca]), (.agg #[.bool gc, .slice Ac nc cc])]) (by go_simp) ?_
  refine (mul_w Ra.out Rc.out (by omega) (by omega) (by omega)).mono ?_
  rintro e wn ⟨v1, rfl, x1, hb⟩
  obtain ⟨g5, A5, n5, c5, rfl⟩ := x1.shape
  refine ⟨_, rfl, hb, ?_⟩
  replace E := hid (E.out.trans hb)
  replace Ba := hid (Ba.out.up hb)
  replace Bb := hid (Bb.out.up hb)
  replace Bc := hid (Bc.out.up hb)
  replace Na := hid (Na.out.up hb)
  replace Nb := hid (Nb.out.up hb)
  replace Nc := hid (Nc.out.up hb)
  replace Ra := hid (Ra.out.up hb)
  replace Rb := hid (Rb.out.up hb)
  replace Rc := hid (Rc.out.up hb)
  have Q5 := hid x1
  clear hb x1
  simp only [Act.put, List.setIfInBounds_toArray, List.set_cons_zero, List.set_cons_succ]
  refine WE.call (d := some 81) rfl rfl (by rfl) (f := 38) (args := #[(.agg #[.bool gb, .slice Ab nb cb]), (.agg #[.bool gc, .slice Ac nc cc])]) (by go_simp) ?_
  refine (mul_w Rb.out Rc.out (by omega) (by omega) (by omega)).mono ?_
  rintro e wn ⟨v1, rfl, x1, hb⟩
  obtain ⟨g6, A6, n6, c6, rfl⟩ := x1.shape
  refine ⟨_, rfl, hb, ?_⟩
  replace E := hid (E.out.trans hb)
  replace Ba := hid (Ba.out.up hb)
  replace Bb := hid (Bb.out.up hb)
  replace Bc := hid (Bc.out.up hb)
  replace Na := hid (Na.out.up hb)
  replace Nb := hid (Nb.out.up hb)
  replace Nc := hid (Nc.out.up hb)
  replace Ra := hid (Ra.out.up hb)
  replace Rb := hid (Rb.out.up hb)
  replace Rc := hid (Rc.out.up hb)
  replace Q5 := hid (Q5.out.up hb)
  have Q6 := hid x1
  clear hb x1
  simp only [Act.put, List.setIfInBounds_toArray, List.set_cons_zero, List.set_cons_succ]
  refine WE.call (d := some 82) rfl rfl (by rfl) (f := 26) (args := #[(.agg #[.bool g5, .slice A5 n5 c5]), (.agg #[.bool g6, .slice A6 n6 c6])]) (by go_simp) ?_
  refine (cmp_w Q5.out.worth Q6.out.worth (z := cm) (HC4.out)).mono ?_
  rintro e wn ⟨rfl, hb⟩
  refine ⟨_, rfl, hb, ?_⟩
  replace E := hid (E.out.trans hb)
  replace Ba := hid (Ba.out.up hb)
  replace Bb := hid (Bb.out.up hb)
  replace Bc := hid (Bc.out.up hb)
  replace Na := hid (Na.out.up hb)
  replace Nb := hid (Nb.out.up hb)
  replace Nc := hid (Nc.out.up hb)
  replace Ra := hid (Ra.out.up hb)
  replace Rb := hid (Rb.out.up hb)
  replace Rc := hid (Rc.out.up hb)
  replace Q5 := hid (Q5.out.up hb)
  replace Q6 := hid (Q6.out.up hb)
  clear hb
  simp only [Act.put, List.setIfInBounds_toArray, List.set_cons_zero, List.set_cons_succ]
  clear Q5
  clear Q6
  refine WE.call (d := some 85) rfl rfl (by rfl) (f := 24) (args := #[(.agg #[.bool gc, .slice Ac nc cc])]) (by go_simp) ?_
  refine (sign_e Rc.out (s := sc) (HSC.out)).mono ?_
  rintro e wn ⟨rfl, hb⟩
  refine ⟨_, rfl, hb, ?_⟩
  replace E := hid (E.out.trans hb)
  replace Ba := hid (Ba.out.up hb)
  replace Bb := hid (Bb.out.up hb)
  replace Bc := hid (Bc.out.up hb)
  replace Na := hid (Na.out.up hb)
  replace Nb := hid (Nb.out.up hb)
  replace Nc := hid (Nc.out.up hb)
  replace Ra := hid (Ra.out.up hb)
  replace Rb := hid (Rb.out.up hb)
  replace Rc := hid (Rc.out.up hb)
  clear hb
  simp only [Act.put, List.setIfInBounds_toArray, List.set_cons_zero, List.set_cons_succ]
  refine WE.pure (d := some 86) rfl rfl (by rfl) (v := (.int .i64 cm)) (fun w' hk => ?_) ?_
  · go_simp
  simp only [Act.put, List.setIfInBounds_toArray, List.set_cons_zero, List.set_cons_succ]
  refine WE.pure (d := some 87) rfl rfl (by rfl) (v := (.bool true)) (fun w' hk => ?_) ?_
  · go_simp
  simp only [Act.put, List.setIfInBounds_toArray, List.set_cons_zero, List.set_cons_succ]
  refine WE.pure (d := some 88) rfl rfl (by rfl) (v := (.bool true)) (fun w' hk => ?_) ?_
  · go_simp
  simp only [Act.put, List.setIfInBounds_toArray, List.set_cons_zero, List.set_cons_succ]
  refine WE.pure (d := some 89) rfl rfl (by rfl) (v := (.int .i64 u0)) (fun w' hk => ?_) ?_
  · go_simp
  simp only [Act.put, List.setIfInBounds_toArray, List.set_cons_zero, List.set_cons_succ]
  refine WE.pure (d := some 90) rfl rfl (by rfl) (v := (.bool true)) (fun w' hk => ?_) ?_
  · go_simp
  simp only [Act.put, List.setIfInBounds_toArray, List.set_cons_zero, List.set_cons_succ]
  refine WE.pure (d := some 91) rfl rfl (by rfl) (v := (.bool true)) (fun w' hk => ?_) ?_
  · go_simp
  simp only [Act.put, List.setIfInBounds_toArray, List.set_cons_zero, List.set_cons_succ]
  refine WE.skip (d := some 92) rfl rfl (by rfl) ?_
  simp only [Act.put, List.setIfInBounds_toArray, List.set_cons_zero, List.set_cons_succ]
  refine WE.skip (d := some 93) rfl rfl (by rfl) ?_
  simp only [Act.put, List.setIfInBounds_toArray, List.set_cons_zero, List.set_cons_succ]
  refine WE.pass (d := some 94) rfl rfl (by rfl) ?_
  simp only [Act.put, List.setIfInBounds_toArray, List.set_cons_zero, List.set_cons_succ]
  refine WE.skip (d := some 95) rfl rfl (by rfl) ?_
  simp only [Act.put, List.setIfInBounds_toArray, List.set_cons_zero, List.set_cons_succ]
  refine WE.pure (d := some 96) rfl rfl (by rfl) (v := (.bool true)) (fun w' hk => ?_) ?_
  · go_simp
  simp only [Act.put, List.setIfInBounds_toArray, List.set_cons_zero, List.set_cons_succ]
  refine WE.pure (d := some 97) rfl rfl (by rfl) (v := (.bool true)) (fun w' hk => ?_) ?_
  · go_simp
  simp only [Act.put, List.setIfInBounds_toArray, List.set_cons_zero, List.set_cons_succ]
  refine WE.skip (d := some 98) rfl rfl (by rfl) ?_
  simp only [Act.put, List.setIfInBounds_toArray, List.set_cons_zero, List.set_cons_succ]
  refine WE.skip (d := some 99) rfl rfl (by rfl) ?_
  simp only [Act.put, List.setIfInBounds_toArray, List.set_cons_zero, List.set_cons_succ]
  refine WE.pass (d := some 100) rfl rfl (by rfl) ?_
  simp only [Act.put, List.setIfInBounds_toArray, List.set_cons_zero, List.set_cons_succ]
  refine WE.skip (d := some 101) rfl rfl (by rfl) ?_
  simp only [Act.put, List.setIfInBounds_toArray, List.set_cons_zero, List.set_cons_succ]
  refine WE.pure (d := some 102) rfl rfl (by rfl) (v := (.bool true)) (fun w' hk => ?_) ?_
  · go_simp
  simp only [Act.put, List.setIfInBounds_toArray, List.set_cons_zero, List.set_cons_succ]
  refine WE.pure (d := some 103) rfl rfl (by rfl) (v := (.bool true)) (fun w' hk => ?_) ?_
  · go_simp
  simp only [Act.put, List.setIfInBounds_toArray, List.set_cons_zero, List.set_cons_succ]
  refine WE.pure (d := some 6) rfl rfl (by rfl) (v := (.bool true)) (fun w' hk => ?_) ?_
  · go_simp
  simp only [Act.put, List.setIfInBounds_toArray, List.set_cons_zero, List.set_cons_succ]
  refine WE.done ?_
  go_wp2
  go_ret
  exact ⟨rfl, E.out⟩

end Go.Proofs.Ytjmonmbgfihgmaa
