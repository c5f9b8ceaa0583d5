/-
  GcdExt's law, one of its ways.
-/
import Derived.Test.YtljjijcmoafndaaGKnown
import Derived.Test.YtljjijcmoafndaaRZB
namespace Go.Proofs.Ytljjijcmoafndaa
open Go.ChangeShapes Go.WideShapes Go.ChangeAt Go.RowKit
set_option linter.unusedSimpArgs false
set_option linter.unusedVariables false

theorem M.zcmp_le0C {a b z : Int} (h : M.zcmp a b = z) (hab : a ≤ b) : decide (z ≤ 0) = true := by
  subst h
  rcases (by omega : a = b ∨ a < b) with h | h
  · rw [M.zcmp_same h]; rfl
  · rw [M.zcmp_lt h]; rfl
theorem M.zcmp_gt0C {a b z : Int} (h : M.zcmp a b = z) (hab : a ≤ b) : decide (0 < z) = false := by
  subst h
  rcases (by omega : a = b ∨ a < b) with h | h
  · rw [M.zcmp_same h]; rfl
  · rw [M.zcmp_lt h]; rfl

set_option maxRecDepth 100000 in
set_option maxHeartbeats 8000000 in
theorem gcdExt_gt (W : World) (ga : Bool) (Aa : Option Addr) (na ca : Nat) (la : List Nat) (ha : Num W W.heap.size (.slice Aa na ca) la) (gb : Bool) (Ab : Option Addr) (nb cb : Nat) (lb : List Nat) (hb : Num W W.heap.size (.slice Ab nb cb) lb) (fa : Hid (decide (la.length ≤ 6) = true)) (fb : Hid (decide (lb.length ≤ 6) = true)) (ia : Hid (M.isZ ga la = true)) (ib : Hid (M.isZ gb lb = true)) (x : Int) (HX : Hid (x = M.zv ga la)) (y : Int) (HY : Hid (y = M.zv gb lb)) (hcond : Hid (y ≠ 0 ∧ x ≠ 0 ∧ x.natAbs < y.natAbs)) :
    Calls Try.prog 4 #[.agg #[.bool ga, .slice Aa na ca], .agg #[.bool gb, .slice Ab nb cb]] W (fun e w' => e = .returned (.bool true) ∧ Ext W w') := by
  obtain ⟨sa, hsa⟩ : ∃ s : Int, x.sign = s := ⟨_, rfl⟩
  have HSA := hid hsa
  have HSAB := hid (show -1 ≤ sa ∧ sa ≤ 1 by rw [← hsa]; exact side_of x)
  obtain ⟨sb, hsb⟩ : ∃ s : Int, y.sign = s := ⟨_, rfl⟩
  have HSB := hid hsb
  have HSBB := hid (show -1 ≤ sb ∧ sb ≤ 1 by rw [← hsb]; exact side_of y)
  have hsa0 : (sa == 0) = false := by rw [← hsa, beq_eq_false_iff_ne]; intro e; exact hcond.out.2.1 (Int.sign_eq_zero_iff_zero.1 e)
  have hsb0 : (sb == 0) = false := by rw [← hsb, beq_eq_false_iff_ne]; intro e; exact hcond.out.1 (Int.sign_eq_zero_iff_zero.1 e)
  obtain ⟨zc, hzc⟩ : ∃ z : Int, M.zcmp (y.natAbs : Int) (x.natAbs : Int) = z := ⟨_, rfl⟩
  have HZC := hid hzc
  have hzc1 : decide (0 < zc) = true := by rw [← hzc, M.zcmp_gt (by have := hcond.out.2.2; omega)]; rfl
  clear hsa hsb hzc
  have Na := hid ha
  have Nb := hid hb
  have Ra := hid (worth_of ha (of_decide_eq_true fa.out) HX.out)
  have Rb := hid (worth_of hb (of_decide_eq_true fb.out) HY.out)
  clear ha hb
  go_enter Try.func4, Try.ntmps4
  go_upto_region 1 with (fail)
  have E := hid (((Ext.refl W).alloc' (.cells #[.bool ga, .slice Aa na ca] 24)).alloc' (.cells #[.bool gb, .slice Ab nb cb] 24))
  have Ba : Hid (Box ((W.alloc (.cells #[.bool ga, .slice Aa na ca] 24)).alloc (.cells #[.bool gb, .slice Ab nb cb] 24)) (W.heap.size) #[.bool ga, .slice Aa na ca] 24) := hid ((Box.at_ (w := W) #[.bool ga, .slice Aa na ca] 24 (by simp)).alloc (.cells #[.bool gb, .slice Ab nb cb] 24))
  have Bb : Hid (Box ((W.alloc (.cells #[.bool ga, .slice Aa na ca] 24)).alloc (.cells #[.bool gb, .slice Ab nb cb] 24)) (W.heap.size + 1) #[.bool gb, .slice Ab nb cb] 24) := hid (Box.at_ (w := (W.alloc (.cells #[.bool ga, .slice Aa na ca] 24))) #[.bool gb, .slice Ab nb cb] 24 (by simp))
  replace Na := hid (Na.out.up E.out)
  replace Nb := hid (Nb.out.up E.out)
  replace Ra := hid (Ra.out.up E.out)
  replace Rb := hid (Rb.out.up E.out)
  go_upto_region 1 with (fail)
  refine wp_region_T [(0, 1), (1, 0)] (by kernel_rfl) fun wd hb => ?_
  replace E := hid (E.out.trans hb)
  replace Ba := hid (Ba.out.up hb)
  replace Bb := hid (Bb.out.up hb)
  replace Na := hid (Na.out.up hb)
  replace Nb := hid (Nb.out.up hb)
  replace Ra := hid (Ra.out.up hb)
  replace Rb := hid (Rb.out.up hb)
  clear hb
  refine WE.call (d := some 9) rfl rfl (by rfl) (f := 8) (args := #[]) (by go_simp) ?_
  refine (known4 _).mono ?_
  rintro e wn ⟨rfl, hb⟩
  refine ⟨_, rfl, hb, ?_⟩
  replace E := hid (E.out.trans hb)
  replace Ba := hid (Ba.out.up hb)
  replace Bb := hid (Bb.out.up hb)
  replace Na := hid (Na.out.up hb)
  replace Nb := hid (Nb.out.up hb)
  replace Ra := hid (Ra.out.up hb)
  replace Rb := hid (Rb.out.up hb)
  clear hb
  simp only [Act.put, List.setIfInBounds_toArray, List.set_cons_zero, List.set_cons_succ]
  refine WE.pure (d := some 10) rfl rfl (by rfl) (v := (.bool false)) (fun w' hk => ?_) ?_
  · go_simp
  simp only [Act.put, List.setIfInBounds_toArray, List.set_cons_zero, List.set_cons_succ]
  refine WE.done ?_
  go_upto_region 3 with (fail)
  refine wp_region_T [(0, 0), (1, 1), (2, 0), (3, 0), (4, 0), (5, 1), (6, 0), (7, 0), (8, 0), (9, 0), (10, 1), (11, 0), (12, 0), (13, 0), (14, 0), (15, 1), (16, 0), (17, 0)] (by kernel_rfl) fun wd hb => ?_
  replace E := hid (E.out.trans hb)
  replace Ba := hid (Ba.out.up hb)
  replace Bb := hid (Bb.out.up hb)
  replace Na := hid (Na.out.up hb)
  replace Nb := hid (Nb.out.up hb)
  replace Ra := hid (Ra.out.up hb)
  replace Rb := hid (Rb.out.up hb)
  clear hb
  refine WE.pure (d := some 11) rfl rfl (by rfl) (v := (.agg #[.bool ga, .slice Aa na ca])) (fun w' hk => ?_) ?_
  · have c0 := hk.cell (Ba.out.cell (o := 0) (v := .bool ga) rfl); have c1 := hk.cell (Ba.out.cell (o := 1) (v := .slice Aa na ca) rfl); go_simp
  simp only [Act.put, List.setIfInBounds_toArray, List.set_cons_zero, List.set_cons_succ]
  refine WE.call (d := some 12) rfl rfl (by rfl) (f := 9) (args := #[(.agg #[.bool ga, .slice Aa na ca])]) (by go_simp) ?_
  refine (few4_z Na.out fa.out).mono ?_
  rintro e wn ⟨rfl, hb⟩
  refine ⟨_, rfl, hb, ?_⟩
  replace E := hid (E.out.trans hb)
  replace Ba := hid (Ba.out.up hb)
  replace Bb := hid (Bb.out.up hb)
  replace Na := hid (Na.out.up hb)
  replace Nb := hid (Nb.out.up hb)
  replace Ra := hid (Ra.out.up hb)
  replace Rb := hid (Rb.out.up hb)
  clear hb
  simp only [Act.put, List.setIfInBounds_toArray, List.set_cons_zero, List.set_cons_succ]
  refine WE.pure (d := some 13) rfl rfl (by rfl) (v := (.bool false)) (fun w' hk => ?_) ?_
  · go_simp
  simp only [Act.put, List.setIfInBounds_toArray, List.set_cons_zero, List.set_cons_succ]
  refine WE.pure (d := some 14) rfl rfl (by rfl) (v := (.bool false)) (fun w' hk => ?_) ?_
  · go_simp
  simp only [Act.put, List.setIfInBounds_toArray, List.set_cons_zero, List.set_cons_succ]
  refine WE.pure (d := some 15) rfl rfl (by rfl) (v := (.agg #[.bool gb, .slice Ab nb cb])) (fun w' hk => ?_) ?_
  · have c0 := hk.cell (Bb.out.cell (o := 0) (v := .bool gb) rfl); have c1 := hk.cell (Bb.out.cell (o := 1) (v := .slice Ab nb cb) rfl); go_simp
  simp only [Act.put, List.setIfInBounds_toArray, List.set_cons_zero, List.set_cons_succ]
  refine WE.call (d := some 16) rfl rfl (by rfl) (f := 9) (args := #[(.agg #[.bool gb, .slice Ab nb cb])]) (by go_simp) ?_
  refine (few4_z Nb.out fb.out).mono ?_
  rintro e wn ⟨rfl, hb⟩
  refine ⟨_, rfl, hb, ?_⟩
  replace E := hid (E.out.trans hb)
  replace Ba := hid (Ba.out.up hb)
  replace Bb := hid (Bb.out.up hb)
  replace Na := hid (Na.out.up hb)
  replace Nb := hid (Nb.out.up hb)
  replace Ra := hid (Ra.out.up hb)
  replace Rb := hid (Rb.out.up hb)
  clear hb
  simp only [Act.put, List.setIfInBounds_toArray, List.set_cons_zero, List.set_cons_succ]
  refine WE.pure (d := some 17) rfl rfl (by rfl) (v := (.bool false)) (fun w' hk => ?_) ?_
  · go_simp
  simp only [Act.put, List.setIfInBounds_toArray, List.set_cons_zero, List.set_cons_succ]
  refine WE.pure (d := some 18) rfl rfl (by rfl) (v := (.bool false)) (fun w' hk => ?_) ?_
  · go_simp
  simp only [Act.put, List.setIfInBounds_toArray, List.set_cons_zero, List.set_cons_succ]
  refine WE.pure (d := some 19) rfl rfl (by rfl) (v := (.bool false)) (fun w' hk => ?_) ?_
  · go_simp
  simp only [Act.put, List.setIfInBounds_toArray, List.set_cons_zero, List.set_cons_succ]
  as_aux_lemma =>
    refine WE.pure (d := some 20) rfl rfl (by rfl) (v := (.agg #[.bool ga, .slice Aa na ca])) (fun w' hk => ?_) ?_
    · have c0 := hk.cell (Ba.out.cell (o := 0) (v := .bool ga) rfl); have c1 := hk.cell (Ba.out.cell (o := 1) (v := .slice Aa na ca) rfl); go_simp
    simp only [Act.put, List.setIfInBounds_toArray, List.set_cons_zero, List.set_cons_succ]
    refine WE.call (d := some 21) rfl rfl (by rfl) (f := 16) (args := #[(.agg #[.bool ga, .slice Aa na ca])]) (by go_simp) ?_
    refine (rzIs_any Na.out ia.out).mono ?_
    rintro e wn ⟨rfl, hb⟩
    refine ⟨_, rfl, hb, ?_⟩
    replace E := hid (E.out.trans hb)
    replace Ba := hid (Ba.out.up hb)
    replace Bb := hid (Bb.out.up hb)
    replace Na := hid (Na.out.up hb)
    replace Nb := hid (Nb.out.up hb)
    replace Ra := hid (Ra.out.up hb)
    replace Rb := hid (Rb.out.up hb)
    clear hb
    simp only [Act.put, List.setIfInBounds_toArray, List.set_cons_zero, List.set_cons_succ]
    refine WE.pure (d := some 22) rfl rfl (by rfl) (v := (.bool false)) (fun w' hk => ?_) ?_
    · go_simp
    simp only [Act.put, List.setIfInBounds_toArray, List.set_cons_zero, List.set_cons_succ]
    refine WE.pure (d := some 23) rfl rfl (by rfl) (v := (.bool false)) (fun w' hk => ?_) ?_
    · go_simp
    simp only [Act.put, List.setIfInBounds_toArray, List.set_cons_zero, List.set_cons_succ]
    refine WE.pure (d := some 24) rfl rfl (by rfl) (v := (.bool false)) (fun w' hk => ?_) ?_
    · go_simp
    simp only [Act.put, List.setIfInBounds_toArray, List.set_cons_zero, List.set_cons_succ]
    refine WE.pure (d := some 25) rfl rfl (by rfl) (v := (.agg #[.bool gb, .slice Ab nb cb])) (fun w' hk => ?_) ?_
    · have c0 := hk.cell (Bb.out.cell (o := 0) (v := .bool gb) rfl); have c1 := hk.cell (Bb.out.cell (o := 1) (v := .slice Ab nb cb) rfl); go_simp
    simp only [Act.put, List.setIfInBounds_toArray, List.set_cons_zero, List.set_cons_succ]
    refine WE.call (d := some 26) rfl rfl (by rfl) (f := 16) (args := #[(.agg #[.bool gb, .slice Ab nb cb])]) (by go_simp) ?_
    refine (rzIs_any Nb.out ib.out).mono ?_
    rintro e wn ⟨rfl, hb⟩
    refine ⟨_, rfl, hb, ?_⟩
    replace E := hid (E.out.trans hb)
    replace Ba := hid (Ba.out.up hb)
    replace Bb := hid (Bb.out.up hb)
    replace Na := hid (Na.out.up hb)
    replace Nb := hid (Nb.out.up hb)
    replace Ra := hid (Ra.out.up hb)
    replace Rb := hid (Rb.out.up hb)
    clear hb
    simp only [Act.put, List.setIfInBounds_toArray, List.set_cons_zero, List.set_cons_succ]
    refine WE.pure (d := some 27) rfl rfl (by rfl) (v := (.bool false)) (fun w' hk => ?_) ?_
    · go_simp
    simp only [Act.put, List.setIfInBounds_toArray, List.set_cons_zero, List.set_cons_succ]
    refine WE.pure (d := some 28) rfl rfl (by rfl) (v := (.bool false)) (fun w' hk => ?_) ?_
    · go_simp
    simp only [Act.put, List.setIfInBounds_toArray, List.set_cons_zero, List.set_cons_succ]
    refine WE.done ?_
    go_upto_region 5 with (fail)
    refine wp_region_T [(0, 0), (1, 0), (2, 1), (3, 0), (4, 0), (5, 0), (6, 0), (7, 1), (8, 1), (9, 1), (10, 4), (11, 4), (12, 4)] (by kernel_rfl) fun wd hb => ?_
    replace E := hid (E.out.trans hb)
    replace Ba := hid (Ba.out.up hb)
    replace Bb := hid (Bb.out.up hb)
    replace Na := hid (Na.out.up hb)
    replace Nb := hid (Nb.out.up hb)
    replace Ra := hid (Ra.out.up hb)
    replace Rb := hid (Rb.out.up hb)
    clear hb
    refine WE.pure (d := some 30) rfl rfl (by rfl) (v := (.agg #[.bool ga, .slice Aa na ca])) (fun w' hk => ?_) ?_
    · have c0 := hk.cell (Ba.out.cell (o := 0) (v := .bool ga) rfl); have c1 := hk.cell (Ba.out.cell (o := 1) (v := .slice Aa na ca) rfl); go_simp
    simp only [Act.put, List.setIfInBounds_toArray, List.set_cons_zero, List.set_cons_succ]
    refine WE.pure (d := some 31) rfl rfl (by rfl) (v := (.agg #[.bool gb, .slice Ab nb cb])) (fun w' hk => ?_) ?_
    · have c0 := hk.cell (Bb.out.cell (o := 0) (v := .bool gb) rfl); have c1 := hk.cell (Bb.out.cell (o := 1) (v := .slice Ab nb cb) rfl); go_simp
    simp only [Act.put, List.setIfInBounds_toArray, List.set_cons_zero, List.set_cons_succ]
    refine WE.call (d := some 32) rfl rfl (by rfl) (f := 17) (args := #[(.agg #[.bool ga, .slice Aa na ca]), (.agg #[.bool gb, .slice Ab nb cb])]) (by go_simp) ?_
    refine (ext_w (Worth.wide Ra.out (k := 20) (by omega)) (Worth.wide Rb.out (k := 20) (by omega)) (by omega) (by omega)).mono ?_
    rintro e wn ⟨v1, v2, v3, X1, V1, rfl, x1, x2, x3, xe, hb⟩
    obtain ⟨g1, A1, n1, c1, rfl⟩ := x1.shape
    obtain ⟨g2, A2, n2, c2, rfl⟩ := x2.shape
    obtain ⟨g3, A3, n3, c3, rfl⟩ := x3.shape
    refine ⟨_, rfl, hb, ?_⟩
    replace E := hid (E.out.trans hb)
    replace Ba := hid (Ba.out.up hb)
    replace Bb := hid (Bb.out.up hb)
    replace Na := hid (Na.out.up hb)
    replace Nb := hid (Nb.out.up hb)
    replace Ra := hid (Ra.out.up hb)
    replace Rb := hid (Rb.out.up hb)
    have Q1 := hid x1
    have Q2 := hid x2
    have Q3 := hid x3
    have HXE1 := hid xe
    clear hb x1 x2 x3 xe
    simp only [Act.put, List.setIfInBounds_toArray, List.set_cons_zero, List.set_cons_succ]
    as_aux_lemma =>
      refine WE.pure (d := some 29) rfl rfl (by rfl) (v := (.tuple #[(.agg #[.bool g1, .slice A1 n1 c1]), (.agg #[.bool g2, .slice A2 n2 c2]), (.agg #[.bool g3, .slice A3 n3 c3])])) (fun w' hk => ?_) ?_
      · go_simp
      simp only [Act.put, List.setIfInBounds_toArray, List.set_cons_zero, List.set_cons_succ]
      refine WE.pure (d := some 33) rfl rfl (by rfl) (v := (.agg #[.bool g1, .slice A1 n1 c1])) (fun w' hk => ?_) ?_
      · go_simp
      simp only [Act.put, List.setIfInBounds_toArray, List.set_cons_zero, List.set_cons_succ]
      refine WE.pure (d := some 34) rfl rfl (by rfl) (v := (.agg #[.bool g2, .slice A2 n2 c2])) (fun w' hk => ?_) ?_
      · go_simp
      simp only [Act.put, List.setIfInBounds_toArray, List.set_cons_zero, List.set_cons_succ]
      refine WE.pure (d := some 35) rfl rfl (by rfl) (v := (.agg #[.bool g3, .slice A3 n3 c3])) (fun w' hk => ?_) ?_
      · go_simp
      simp only [Act.put, List.setIfInBounds_toArray, List.set_cons_zero, List.set_cons_succ]
      refine WE.new (d := some 5) (cs := #[.bool false, .slice none 0 0]) (t := 24) (v := fun g => (.pointer (some ⟨g, 0, none⟩))) rfl rfl (by rfl) (fun w => by go_simp) fun gV5 wv hx0 hbox hge => ?_
      have HNV5Ba := hid (show gV5 ≠ (W.heap.size) by have := Ba.out.lt; omega)
      have HNV5Bb := hid (show gV5 ≠ (W.heap.size + 1) by have := Bb.out.lt; omega)
      have HGV5 := hid (show W.heap.size ≤ gV5 by have := E.out.size; omega)
      replace E := hid (E.out.trans hx0)
      replace Ba := hid (Ba.out.up hx0)
      replace Bb := hid (Bb.out.up hx0)
      replace Na := hid (Na.out.up hx0)
      replace Nb := hid (Nb.out.up hx0)
      replace Ra := hid (Ra.out.up hx0)
      replace Rb := hid (Rb.out.up hx0)
      replace Q1 := hid (Q1.out.up hx0)
      replace Q2 := hid (Q2.out.up hx0)
      replace Q3 := hid (Q3.out.up hx0)
      have V5 : Hid (Box wv gV5 #[.bool false, .slice none 0 0] 24) := hid hbox
      clear hx0 hbox hge
      simp only [Act.put, List.setIfInBounds_toArray, List.set_cons_zero, List.set_cons_succ]
      refine WE.new (d := some 6) (cs := #[.bool false, .slice none 0 0]) (t := 24) (v := fun g => (.pointer (some ⟨g, 0, none⟩))) rfl rfl (by rfl) (fun w => by go_simp) fun gV6 wv hx0 hbox hge => ?_
      have HNV6Ba := hid (show gV6 ≠ (W.heap.size) by have := Ba.out.lt; omega)
      have HNV6Bb := hid (show gV6 ≠ (W.heap.size + 1) by have := Bb.out.lt; omega)
      have HNV6V5 := hid (show gV6 ≠ gV5 by have := V5.out.lt; omega)
      have HGV6 := hid (show W.heap.size ≤ gV6 by have := E.out.size; omega)
      replace E := hid (E.out.trans hx0)
      replace Ba := hid (Ba.out.up hx0)
      replace Bb := hid (Bb.out.up hx0)
      replace V5 := hid (V5.out.up hx0)
      replace Na := hid (Na.out.up hx0)
      replace Nb := hid (Nb.out.up hx0)
      replace Ra := hid (Ra.out.up hx0)
      replace Rb := hid (Rb.out.up hx0)
      replace Q1 := hid (Q1.out.up hx0)
      replace Q2 := hid (Q2.out.up hx0)
      replace Q3 := hid (Q3.out.up hx0)
      have V6 : Hid (Box wv gV6 #[.bool false, .slice none 0 0] 24) := hid hbox
      clear hx0 hbox hge
      simp only [Act.put, List.setIfInBounds_toArray, List.set_cons_zero, List.set_cons_succ]
      refine WE.new (d := some 7) (cs := #[.bool false, .slice none 0 0]) (t := 24) (v := fun g => (.pointer (some ⟨g, 0, none⟩))) rfl rfl (by rfl) (fun w => by go_simp) fun gV7 wv hx0 hbox hge => ?_
      have HNV7Ba := hid (show gV7 ≠ (W.heap.size) by have := Ba.out.lt; omega)
      have HNV7Bb := hid (show gV7 ≠ (W.heap.size + 1) by have := Bb.out.lt; omega)
      have HNV7V5 := hid (show gV7 ≠ gV5 by have := V5.out.lt; omega)
      have HNV7V6 := hid (show gV7 ≠ gV6 by have := V6.out.lt; omega)
      have HGV7 := hid (show W.heap.size ≤ gV7 by have := E.out.size; omega)
      replace E := hid (E.out.trans hx0)
      replace Ba := hid (Ba.out.up hx0)
      replace Bb := hid (Bb.out.up hx0)
      replace V5 := hid (V5.out.up hx0)
      replace V6 := hid (V6.out.up hx0)
      replace Na := hid (Na.out.up hx0)
      replace Nb := hid (Nb.out.up hx0)
      replace Ra := hid (Ra.out.up hx0)
      replace Rb := hid (Rb.out.up hx0)
      replace Q1 := hid (Q1.out.up hx0)
      replace Q2 := hid (Q2.out.up hx0)
      replace Q3 := hid (Q3.out.up hx0)
      have V7 : Hid (Box wv gV7 #[.bool false, .slice none 0 0] 24) := hid hbox
      clear hx0 hbox hge
      simp only [Act.put, List.setIfInBounds_toArray, List.set_cons_zero, List.set_cons_succ]
      refine WE.store2 (g := gV5) (x := .bool g1) (y := .slice A1 n1 c1) (t := 24) rfl rfl (by rfl) (fun w hb => ?_) V5.out (by rfl) fun ws hk hs => ?_
      · have c0 := hb.cell (o := 0) (v := .bool false) rfl; have f0 := hb.free 0; have c1 := hb.cell (o := 1) (v := .slice none 0 0) rfl; have f1 := hb.free 1; go_simp
      intro hbx
      replace E := hid (E.out.keptG hk HGV5.out)
      replace Ba := hid (Ba.out.kept hk (by simpa using HNV5Ba.out.symm))
      replace Bb := hid (Bb.out.kept hk (by simpa using HNV5Bb.out.symm))
      replace V5 := hid hbx
      replace V6 := hid (V6.out.kept hk (by simpa using HNV6V5.out))
      replace V7 := hid (V7.out.kept hk (by simpa using HNV7V5.out))
      replace Na := hid (Na.out.kz hs)
      replace Nb := hid (Nb.out.kz hs)
      replace Ra := hid (Ra.out.kz hs)
      replace Rb := hid (Rb.out.kz hs)
      replace Q1 := hid (Q1.out.kz hs)
      replace Q2 := hid (Q2.out.kz hs)
      replace Q3 := hid (Q3.out.kz hs)
      clear hk hs hbx
      refine WE.store2 (g := gV6) (x := .bool g2) (y := .slice A2 n2 c2) (t := 24) rfl rfl (by rfl) (fun w hb => ?_) V6.out (by rfl) fun ws hk hs => ?_
      · have c0 := hb.cell (o := 0) (v := .bool false) rfl; have f0 := hb.free 0; have c1 := hb.cell (o := 1) (v := .slice none 0 0) rfl; have f1 := hb.free 1; go_simp
      intro hbx
      replace E := hid (E.out.keptG hk HGV6.out)
      replace Ba := hid (Ba.out.kept hk (by simpa using HNV6Ba.out.symm))
      replace Bb := hid (Bb.out.kept hk (by simpa using HNV6Bb.out.symm))
      replace V5 := hid (V5.out.kept hk (by simpa using HNV6V5.out.symm))
      replace V6 := hid hbx
      replace V7 := hid (V7.out.kept hk (by simpa using HNV7V6.out))
      replace Na := hid (Na.out.kz hs)
      replace Nb := hid (Nb.out.kz hs)
      replace Ra := hid (Ra.out.kz hs)
      replace Rb := hid (Rb.out.kz hs)
      replace Q1 := hid (Q1.out.kz hs)
      replace Q2 := hid (Q2.out.kz hs)
      replace Q3 := hid (Q3.out.kz hs)
      clear hk hs hbx
      refine WE.store2 (g := gV7) (x := .bool g3) (y := .slice A3 n3 c3) (t := 24) rfl rfl (by rfl) (fun w hb => ?_) V7.out (by rfl) fun ws hk hs => ?_
      · have c0 := hb.cell (o := 0) (v := .bool false) rfl; have f0 := hb.free 0; have c1 := hb.cell (o := 1) (v := .slice none 0 0) rfl; have f1 := hb.free 1; go_simp
      intro hbx
      replace E := hid (E.out.keptG hk HGV7.out)
      replace Ba := hid (Ba.out.kept hk (by simpa using HNV7Ba.out.symm))
      replace Bb := hid (Bb.out.kept hk (by simpa using HNV7Bb.out.symm))
      replace V5 := hid (V5.out.kept hk (by simpa using HNV7V5.out.symm))
      replace V6 := hid (V6.out.kept hk (by simpa using HNV7V6.out.symm))
      replace V7 := hid hbx
      replace Na := hid (Na.out.kz hs)
      replace Nb := hid (Nb.out.kz hs)
      replace Ra := hid (Ra.out.kz hs)
      replace Rb := hid (Rb.out.kz hs)
      replace Q1 := hid (Q1.out.kz hs)
      replace Q2 := hid (Q2.out.kz hs)
      replace Q3 := hid (Q3.out.kz hs)
      clear hk hs hbx
      refine WE.done ?_
      go_upto_region 6 with (fail)
      refine wp_region_E [(0, 0), (1, 0), (2, 0), (3, 1), (4, 1), (5, 0), (6, 0), (7, 0), (8, 1), (9, 0), (10, 0), (11, 0), (12, 0), (13, 1), (14, 0), (15, 0), (16, 0), (17, 0), (18, 0), (20, 0), (21, 0), (24, 0), (19, 1), (22, 1), (23, 1), (25, 1), (26, 0), (27, 0)] (fun _ => (24, #[.bool false, .slice none 0 0])) rfl (by kernel_rfl) (by intro j hj; cases hj) (fun _ _ d _ _ => by cases d <;> exact Iff.rfl) fun wd hb => ?_
      replace E := hid (E.out.trans hb)
      replace Ba := hid (Ba.out.up hb)
      replace Bb := hid (Bb.out.up hb)
      replace V5 := hid (V5.out.up hb)
      replace V6 := hid (V6.out.up hb)
      replace V7 := hid (V7.out.up hb)
      replace Na := hid (Na.out.up hb)
      replace Nb := hid (Nb.out.up hb)
      replace Ra := hid (Ra.out.up hb)
      replace Rb := hid (Rb.out.up hb)
      replace Q1 := hid (Q1.out.up hb)
      replace Q2 := hid (Q2.out.up hb)
      replace Q3 := hid (Q3.out.up hb)
      clear hb
      refine WE.pure (d := some 36) rfl rfl (by rfl) (v := (.agg #[.bool g1, .slice A1 n1 c1])) (fun w' hk => ?_) ?_
      · have c0 := hk.cell (V5.out.cell (o := 0) (v := .bool g1) rfl); have c1 := hk.cell (V5.out.cell (o := 1) (v := .slice A1 n1 c1) rfl); go_simp
      simp only [Act.put, List.setIfInBounds_toArray, List.set_cons_zero, List.set_cons_succ]
      refine WE.pure (d := some 37) rfl rfl (by rfl) (v := (.agg #[.bool ga, .slice Aa na ca])) (fun w' hk => ?_) ?_
      · have c0 := hk.cell (Ba.out.cell (o := 0) (v := .bool ga) rfl); have c1 := hk.cell (Ba.out.cell (o := 1) (v := .slice Aa na ca) rfl); go_simp
      simp only [Act.put, List.setIfInBounds_toArray, List.set_cons_zero, List.set_cons_succ]
      as_aux_lemma =>
        refine WE.pure (d := some 38) rfl rfl (by rfl) (v := (.agg #[.bool gb, .slice Ab nb cb])) (fun w' hk => ?_) ?_
        · have c0 := hk.cell (Bb.out.cell (o := 0) (v := .bool gb) rfl); have c1 := hk.cell (Bb.out.cell (o := 1) (v := .slice Ab nb cb) rfl); go_simp
        simp only [Act.put, List.setIfInBounds_toArray, List.set_cons_zero, List.set_cons_succ]
        refine WE.call (d := some 39) rfl rfl (by rfl) (f := 12) (args := #[(.agg #[.bool ga, .slice Aa na ca]), (.agg #[.bool gb, .slice Ab nb cb])]) (by go_simp) ?_
        refine (gOf_w (Worth.wide Ra.out (k := 20) (by omega)) (Worth.wide Rb.out (k := 20) (by omega)) (by omega)).mono ?_
        rintro e wn ⟨v1, rfl, x1, hb⟩
        obtain ⟨g4, A4, n4, c4, rfl⟩ := x1.shape
        refine ⟨_, rfl, hb, ?_⟩
        replace E := hid (E.out.trans hb)
        replace Ba := hid (Ba.out.up hb)
        replace Bb := hid (Bb.out.up hb)
        replace V5 := hid (V5.out.up hb)
        replace V6 := hid (V6.out.up hb)
        replace V7 := hid (V7.out.up hb)
        replace Na := hid (Na.out.up hb)
        replace Nb := hid (Nb.out.up hb)
        replace Ra := hid (Ra.out.up hb)
        replace Rb := hid (Rb.out.up hb)
        replace Q1 := hid (Q1.out.up hb)
        replace Q2 := hid (Q2.out.up hb)
        replace Q3 := hid (Q3.out.up hb)
        have Q4 := hid x1
        clear hb x1
        simp only [Act.put, List.setIfInBounds_toArray, List.set_cons_zero, List.set_cons_succ]
        refine WE.call (d := some 40) rfl rfl (by rfl) (f := 11) (args := #[(.agg #[.bool g1, .slice A1 n1 c1]), (.agg #[.bool g4, .slice A4 n4 c4])]) (by go_simp) ?_
        refine (equal_z (IsZ.to Q1.out (rfl)) (IsZ.to Q4.out (rfl))).mono ?_
        rintro e wn ⟨rfl, hb⟩
        refine ⟨_, rfl, hb, ?_⟩
        replace E := hid (E.out.trans hb)
        replace Ba := hid (Ba.out.up hb)
        replace Bb := hid (Bb.out.up hb)
        replace V5 := hid (V5.out.up hb)
        replace V6 := hid (V6.out.up hb)
        replace V7 := hid (V7.out.up hb)
        replace Na := hid (Na.out.up hb)
        replace Nb := hid (Nb.out.up hb)
        replace Ra := hid (Ra.out.up hb)
        replace Rb := hid (Rb.out.up hb)
        replace Q1 := hid (Q1.out.up hb)
        replace Q2 := hid (Q2.out.up hb)
        replace Q3 := hid (Q3.out.up hb)
        replace Q4 := hid (Q4.out.up hb)
        clear hb
        simp only [Act.put, List.setIfInBounds_toArray, List.set_cons_zero, List.set_cons_succ]
        clear Q4
        refine WE.pure (d := some 41) rfl rfl (by rfl) (v := (.bool false)) (fun w' hk => ?_) ?_
        · go_simp
        simp only [Act.put, List.setIfInBounds_toArray, List.set_cons_zero, List.set_cons_succ]
        refine WE.pure (d := some 42) rfl rfl (by rfl) (v := (.bool false)) (fun w' hk => ?_) ?_
        · go_simp
        simp only [Act.put, List.setIfInBounds_toArray, List.set_cons_zero, List.set_cons_succ]
        refine WE.pure (d := some 43) rfl rfl (by rfl) (v := (.agg #[.bool g2, .slice A2 n2 c2])) (fun w' hk => ?_) ?_
        · have c0 := hk.cell (V6.out.cell (o := 0) (v := .bool g2) rfl); have c1 := hk.cell (V6.out.cell (o := 1) (v := .slice A2 n2 c2) rfl); go_simp
        simp only [Act.put, List.setIfInBounds_toArray, List.set_cons_zero, List.set_cons_succ]
        refine WE.call (d := some 44) rfl rfl (by rfl) (f := 16) (args := #[(.agg #[.bool g2, .slice A2 n2 c2])]) (by go_simp) ?_
        refine (risZ_true Q2.out).mono ?_
        rintro e wn ⟨rfl, hb⟩
        refine ⟨_, rfl, hb, ?_⟩
        replace E := hid (E.out.trans hb)
        replace Ba := hid (Ba.out.up hb)
        replace Bb := hid (Bb.out.up hb)
        replace V5 := hid (V5.out.up hb)
        replace V6 := hid (V6.out.up hb)
        replace V7 := hid (V7.out.up hb)
        replace Na := hid (Na.out.up hb)
        replace Nb := hid (Nb.out.up hb)
        replace Ra := hid (Ra.out.up hb)
        replace Rb := hid (Rb.out.up hb)
        replace Q1 := hid (Q1.out.up hb)
        replace Q2 := hid (Q2.out.up hb)
        replace Q3 := hid (Q3.out.up hb)
        clear hb
        simp only [Act.put, List.setIfInBounds_toArray, List.set_cons_zero, List.set_cons_succ]
        refine WE.pure (d := some 45) rfl rfl (by rfl) (v := (.bool false)) (fun w' hk => ?_) ?_
        · go_simp
        simp only [Act.put, List.setIfInBounds_toArray, List.set_cons_zero, List.set_cons_succ]
        refine WE.pure (d := some 46) rfl rfl (by rfl) (v := (.bool false)) (fun w' hk => ?_) ?_
        · go_simp
        simp only [Act.put, List.setIfInBounds_toArray, List.set_cons_zero, List.set_cons_succ]
        refine WE.pure (d := some 47) rfl rfl (by rfl) (v := (.bool false)) (fun w' hk => ?_) ?_
        · go_simp
        simp only [Act.put, List.setIfInBounds_toArray, List.set_cons_zero, List.set_cons_succ]
        refine WE.pure (d := some 48) rfl rfl (by rfl) (v := (.agg #[.bool g3, .slice A3 n3 c3])) (fun w' hk => ?_) ?_
        · have c0 := hk.cell (V7.out.cell (o := 0) (v := .bool g3) rfl); have c1 := hk.cell (V7.out.cell (o := 1) (v := .slice A3 n3 c3) rfl); go_simp
        simp only [Act.put, List.setIfInBounds_toArray, List.set_cons_zero, List.set_cons_succ]
        refine WE.call (d := some 49) rfl rfl (by rfl) (f := 16) (args := #[(.agg #[.bool g3, .slice A3 n3 c3])]) (by go_simp) ?_
        refine (risZ_true Q3.out).mono ?_
        rintro e wn ⟨rfl, hb⟩
        refine ⟨_, rfl, hb, ?_⟩
        replace E := hid (E.out.trans hb)
        replace Ba := hid (Ba.out.up hb)
        replace Bb := hid (Bb.out.up hb)
        replace V5 := hid (V5.out.up hb)
        replace V6 := hid (V6.out.up hb)
        replace V7 := hid (V7.out.up hb)
        replace Na := hid (Na.out.up hb)
        replace Nb := hid (Nb.out.up hb)
        replace Ra := hid (Ra.out.up hb)
        replace Rb := hid (Rb.out.up hb)
        replace Q1 := hid (Q1.out.up hb)
        replace Q2 := hid (Q2.out.up hb)
        replace Q3 := hid (Q3.out.up hb)
        clear hb
        simp only [Act.put, List.setIfInBounds_toArray, List.set_cons_zero, List.set_cons_succ]
        as_aux_lemma =>
          refine WE.pure (d := some 50) rfl rfl (by rfl) (v := (.bool false)) (fun w' hk => ?_) ?_
          · go_simp
          simp only [Act.put, List.setIfInBounds_toArray, List.set_cons_zero, List.set_cons_succ]
          refine WE.pure (d := some 51) rfl rfl (by rfl) (v := (.bool false)) (fun w' hk => ?_) ?_
          · go_simp
          simp only [Act.put, List.setIfInBounds_toArray, List.set_cons_zero, List.set_cons_succ]
          refine WE.pure (d := some 52) rfl rfl (by rfl) (v := (.bool false)) (fun w' hk => ?_) ?_
          · go_simp
          simp only [Act.put, List.setIfInBounds_toArray, List.set_cons_zero, List.set_cons_succ]
          refine WE.pure (d := some 53) rfl rfl (by rfl) (v := (.agg #[.bool ga, .slice Aa na ca])) (fun w' hk => ?_) ?_
          · have c0 := hk.cell (Ba.out.cell (o := 0) (v := .bool ga) rfl); have c1 := hk.cell (Ba.out.cell (o := 1) (v := .slice Aa na ca) rfl); go_simp
          simp only [Act.put, List.setIfInBounds_toArray, List.set_cons_zero, List.set_cons_succ]
          refine WE.pure (d := some 54) rfl rfl (by rfl) (v := (.agg #[.bool g2, .slice A2 n2 c2])) (fun w' hk => ?_) ?_
          · have c0 := hk.cell (V6.out.cell (o := 0) (v := .bool g2) rfl); have c1 := hk.cell (V6.out.cell (o := 1) (v := .slice A2 n2 c2) rfl); go_simp
          simp only [Act.put, List.setIfInBounds_toArray, List.set_cons_zero, List.set_cons_succ]
          refine WE.pure (d := some 56) rfl rfl (by rfl) (v := (.agg #[.bool gb, .slice Ab nb cb])) (fun w' hk => ?_) ?_
          · have c0 := hk.cell (Bb.out.cell (o := 0) (v := .bool gb) rfl); have c1 := hk.cell (Bb.out.cell (o := 1) (v := .slice Ab nb cb) rfl); go_simp
          simp only [Act.put, List.setIfInBounds_toArray, List.set_cons_zero, List.set_cons_succ]
          refine WE.pure (d := some 57) rfl rfl (by rfl) (v := (.agg #[.bool g3, .slice A3 n3 c3])) (fun w' hk => ?_) ?_
          · have c0 := hk.cell (V7.out.cell (o := 0) (v := .bool g3) rfl); have c1 := hk.cell (V7.out.cell (o := 1) (v := .slice A3 n3 c3) rfl); go_simp
          simp only [Act.put, List.setIfInBounds_toArray, List.set_cons_zero, List.set_cons_succ]
          refine WE.pure (d := some 60) rfl rfl (by rfl) (v := (.agg #[.bool g1, .slice A1 n1 c1])) (fun w' hk => ?_) ?_
          · have c0 := hk.cell (V5.out.cell (o := 0) (v := .bool g1) rfl); have c1 := hk.cell (V5.out.cell (o := 1) (v := .slice A1 n1 c1) rfl); go_simp
          simp only [Act.put, List.setIfInBounds_toArray, List.set_cons_zero, List.set_cons_succ]
          refine WE.call (d := some 55) rfl rfl (by rfl) (f := 19) (args := #[(.agg #[.bool ga, .slice Aa na ca]), (.agg #[.bool g2, .slice A2 n2 c2])]) (by go_simp) ?_
          refine (rMul_w Ra.out Q2.out.worth (by omega) (by omega)).mono ?_
          rintro e wn ⟨v1, rfl, x1, hb⟩
          obtain ⟨g5, A5, n5, c5, rfl⟩ := x1.shape
          refine ⟨_, rfl, hb, ?_⟩
          replace E := hid (E.out.trans hb)
          replace Ba := hid (Ba.out.up hb)
          replace Bb := hid (Bb.out.up hb)
          replace V5 := hid (V5.out.up hb)
          replace V6 := hid (V6.out.up hb)
          replace V7 := hid (V7.out.up hb)
          replace Na := hid (Na.out.up hb)
          replace Nb := hid (Nb.out.up hb)
          replace Ra := hid (Ra.out.up hb)
          replace Rb := hid (Rb.out.up hb)
          replace Q1 := hid (Q1.out.up hb)
          replace Q2 := hid (Q2.out.up hb)
          replace Q3 := hid (Q3.out.up hb)
          have Q5 := hid x1
          clear hb x1
          simp only [Act.put, List.setIfInBounds_toArray, List.set_cons_zero, List.set_cons_succ]
          refine WE.call (d := some 58) rfl rfl (by rfl) (f := 19) (args := #[(.agg #[.bool gb, .slice Ab nb cb]), (.agg #[.bool g3, .slice A3 n3 c3])]) (by go_simp) ?_
          refine (rMul_w Rb.out Q3.out.worth (by omega) (by omega)).mono ?_
          rintro e wn ⟨v1, rfl, x1, hb⟩
          obtain ⟨g6, A6, n6, c6, rfl⟩ := x1.shape
          refine ⟨_, rfl, hb, ?_⟩
          replace E := hid (E.out.trans hb)
          replace Ba := hid (Ba.out.up hb)
          replace Bb := hid (Bb.out.up hb)
          replace V5 := hid (V5.out.up hb)
          replace V6 := hid (V6.out.up hb)
          replace V7 := hid (V7.out.up hb)
          replace Na := hid (Na.out.up hb)
          replace Nb := hid (Nb.out.up hb)
          replace Ra := hid (Ra.out.up hb)
          replace Rb := hid (Rb.out.up hb)
          replace Q1 := hid (Q1.out.up hb)
          replace Q2 := hid (Q2.out.up hb)
          replace Q3 := hid (Q3.out.up hb)
          replace Q5 := hid (Q5.out.up hb)
          have Q6 := hid x1
          clear hb x1
          simp only [Act.put, List.setIfInBounds_toArray, List.set_cons_zero, List.set_cons_succ]
          refine WE.call (d := some 59) rfl rfl (by rfl) (f := 18) (args := #[(.agg #[.bool g5, .slice A5 n5 c5]), (.agg #[.bool g6, .slice A6 n6 c6])]) (by go_simp) ?_
          refine (rAdd_w Q5.out.worth Q6.out.worth (by omega) (by omega)).mono ?_
          rintro e wn ⟨v1, rfl, x1, hb⟩
          obtain ⟨g7, A7, n7, c7, rfl⟩ := x1.shape
          refine ⟨_, rfl, hb, ?_⟩
          replace E := hid (E.out.trans hb)
          replace Ba := hid (Ba.out.up hb)
          replace Bb := hid (Bb.out.up hb)
          replace V5 := hid (V5.out.up hb)
          replace V6 := hid (V6.out.up hb)
          replace V7 := hid (V7.out.up hb)
          replace Na := hid (Na.out.up hb)
          replace Nb := hid (Nb.out.up hb)
          replace Ra := hid (Ra.out.up hb)
          replace Rb := hid (Rb.out.up hb)
          replace Q1 := hid (Q1.out.up hb)
          replace Q2 := hid (Q2.out.up hb)
          replace Q3 := hid (Q3.out.up hb)
          replace Q5 := hid (Q5.out.up hb)
          replace Q6 := hid (Q6.out.up hb)
          have Q7 := hid x1
          clear hb x1
          simp only [Act.put, List.setIfInBounds_toArray, List.set_cons_zero, List.set_cons_succ]
          clear Q5
          clear Q6
          refine WE.call (d := some 61) rfl rfl (by rfl) (f := 11) (args := #[(.agg #[.bool g7, .slice A7 n7 c7]), (.agg #[.bool g1, .slice A1 n1 c1])]) (by go_simp) ?_
          refine (equal_z (IsZ.to Q7.out (HXE1.out.1)) (IsZ.to Q1.out (rfl))).mono ?_
          rintro e wn ⟨rfl, hb⟩
          refine ⟨_, rfl, hb, ?_⟩
          replace E := hid (E.out.trans hb)
          replace Ba := hid (Ba.out.up hb)
          replace Bb := hid (Bb.out.up hb)
          replace V5 := hid (V5.out.up hb)
          replace V6 := hid (V6.out.up hb)
          replace V7 := hid (V7.out.up hb)
          replace Na := hid (Na.out.up hb)
          replace Nb := hid (Nb.out.up hb)
          replace Ra := hid (Ra.out.up hb)
          replace Rb := hid (Rb.out.up hb)
          replace Q1 := hid (Q1.out.up hb)
          replace Q2 := hid (Q2.out.up hb)
          replace Q3 := hid (Q3.out.up hb)
          replace Q7 := hid (Q7.out.up hb)
          clear hb
          simp only [Act.put, List.setIfInBounds_toArray, List.set_cons_zero, List.set_cons_succ]
          clear Q7
          as_aux_lemma =>
            refine WE.pure (d := some 62) rfl rfl (by rfl) (v := (.bool false)) (fun w' hk => ?_) ?_
            · go_simp
            simp only [Act.put, List.setIfInBounds_toArray, List.set_cons_zero, List.set_cons_succ]
            refine WE.pure (d := some 63) rfl rfl (by rfl) (v := (.bool false)) (fun w' hk => ?_) ?_
            · go_simp
            simp only [Act.put, List.setIfInBounds_toArray, List.set_cons_zero, List.set_cons_succ]
            refine WE.done ?_
            obtain ⟨zx, hzx⟩ : ∃ z : Int, M.zcmp (X1.natAbs : Int) (y.natAbs : Int) = z := ⟨_, rfl⟩
            obtain ⟨zv, hzv⟩ : ∃ z : Int, M.zcmp (V1.natAbs : Int) (y.natAbs : Int) = z := ⟨_, rfl⟩
            have HZX := hid hzx
            have HZV := hid hzv
            have hzx1 : decide (zx ≤ 0) = true := M.zcmp_le0C hzx (by have h1 := (HXE1.out.2.2.2 hcond.out.1).1; have h2 := hcond.out.2.2; omega)
            have hzv1 : decide (zv ≤ 0) = true := M.zcmp_le0C hzv (by have h1 := (HXE1.out.2.2.2 hcond.out.1).2; have h2 := hcond.out.2.2; omega)
            clear hzx hzv
            go_upto_region 8 with (fail)
            refine wp_region_T [(0, 0), (1, 1), (2, 0), (3, 0)] (by kernel_rfl) fun wd hb => ?_
            replace E := hid (E.out.trans hb)
            replace Ba := hid (Ba.out.up hb)
            replace Bb := hid (Bb.out.up hb)
            replace V5 := hid (V5.out.up hb)
            replace V6 := hid (V6.out.up hb)
            replace V7 := hid (V7.out.up hb)
            replace Na := hid (Na.out.up hb)
            replace Nb := hid (Nb.out.up hb)
            replace Ra := hid (Ra.out.up hb)
            replace Rb := hid (Rb.out.up hb)
            replace Q1 := hid (Q1.out.up hb)
            replace Q2 := hid (Q2.out.up hb)
            replace Q3 := hid (Q3.out.up hb)
            clear hb
            refine WE.pure (d := some 65) rfl rfl (by rfl) (v := (.agg #[.bool gb, .slice Ab nb cb])) (fun w' hk => ?_) ?_
            · have c0 := hk.cell (Bb.out.cell (o := 0) (v := .bool gb) rfl); have c1 := hk.cell (Bb.out.cell (o := 1) (v := .slice Ab nb cb) rfl); go_simp
            simp only [Act.put, List.setIfInBounds_toArray, List.set_cons_zero, List.set_cons_succ]
            refine WE.call (d := some 66) rfl rfl (by rfl) (f := 20) (args := #[(.agg #[.bool gb, .slice Ab nb cb])]) (by go_simp) ?_
            refine (rSign_w Rb.out (s := sb) (HSB.out)).mono ?_
            rintro e wn ⟨rfl, hb⟩
            refine ⟨_, rfl, hb, ?_⟩
            replace E := hid (E.out.trans hb)
            replace Ba := hid (Ba.out.up hb)
            replace Bb := hid (Bb.out.up hb)
            replace V5 := hid (V5.out.up hb)
            replace V6 := hid (V6.out.up hb)
            replace V7 := hid (V7.out.up hb)
            replace Na := hid (Na.out.up hb)
            replace Nb := hid (Nb.out.up hb)
            replace Ra := hid (Ra.out.up hb)
            replace Rb := hid (Rb.out.up hb)
            replace Q1 := hid (Q1.out.up hb)
            replace Q2 := hid (Q2.out.up hb)
            replace Q3 := hid (Q3.out.up hb)
            clear hb
            simp only [Act.put, List.setIfInBounds_toArray, List.set_cons_zero, List.set_cons_succ]
            refine WE.pure (d := some 67) rfl rfl (by rfl) (v := (.bool false)) (fun w' hk => ?_) ?_
            · go_simp
            simp only [Act.put, List.setIfInBounds_toArray, List.set_cons_zero, List.set_cons_succ]
            refine WE.pure (d := some 64) rfl rfl (by rfl) (v := (.bool false)) (fun w' hk => ?_) ?_
            · go_simp
            simp only [Act.put, List.setIfInBounds_toArray, List.set_cons_zero, List.set_cons_succ]
            refine WE.done ?_
            go_upto_region 10 with (fail)
            refine wp_region_T [(0, 0), (1, 1), (2, 0), (3, 0)] (by kernel_rfl) fun wd hb => ?_
            replace E := hid (E.out.trans hb)
            replace Ba := hid (Ba.out.up hb)
            replace Bb := hid (Bb.out.up hb)
            replace V5 := hid (V5.out.up hb)
            replace V6 := hid (V6.out.up hb)
            replace V7 := hid (V7.out.up hb)
            replace Na := hid (Na.out.up hb)
            replace Nb := hid (Nb.out.up hb)
            replace Ra := hid (Ra.out.up hb)
            replace Rb := hid (Rb.out.up hb)
            replace Q1 := hid (Q1.out.up hb)
            replace Q2 := hid (Q2.out.up hb)
            replace Q3 := hid (Q3.out.up hb)
            clear hb
            refine WE.pure (d := some 79) rfl rfl (by rfl) (v := (.agg #[.bool ga, .slice Aa na ca])) (fun w' hk => ?_) ?_
            · have c0 := hk.cell (Ba.out.cell (o := 0) (v := .bool ga) rfl); have c1 := hk.cell (Ba.out.cell (o := 1) (v := .slice Aa na ca) rfl); go_simp
            simp only [Act.put, List.setIfInBounds_toArray, List.set_cons_zero, List.set_cons_succ]
            refine WE.call (d := some 80) rfl rfl (by rfl) (f := 20) (args := #[(.agg #[.bool ga, .slice Aa na ca])]) (by go_simp) ?_
            refine (rSign_w Ra.out (s := sa) (HSA.out)).mono ?_
            rintro e wn ⟨rfl, hb⟩
            refine ⟨_, rfl, hb, ?_⟩
            replace E := hid (E.out.trans hb)
            replace Ba := hid (Ba.out.up hb)
            replace Bb := hid (Bb.out.up hb)
            replace V5 := hid (V5.out.up hb)
            replace V6 := hid (V6.out.up hb)
            replace V7 := hid (V7.out.up hb)
            replace Na := hid (Na.out.up hb)
            replace Nb := hid (Nb.out.up hb)
            replace Ra := hid (Ra.out.up hb)
            replace Rb := hid (Rb.out.up hb)
            replace Q1 := hid (Q1.out.up hb)
            replace Q2 := hid (Q2.out.up hb)
            replace Q3 := hid (Q3.out.up hb)
            clear hb
            simp only [Act.put, List.setIfInBounds_toArray, List.set_cons_zero, List.set_cons_succ]
            refine WE.pure (d := some 81) rfl rfl (by rfl) (v := (.bool false)) (fun w' hk => ?_) ?_
            · go_simp
            simp only [Act.put, List.setIfInBounds_toArray, List.set_cons_zero, List.set_cons_succ]
            refine WE.pure (d := some 78) rfl rfl (by rfl) (v := (.bool false)) (fun w' hk => ?_) ?_
            · go_simp
            simp only [Act.put, List.setIfInBounds_toArray, List.set_cons_zero, List.set_cons_succ]
            refine WE.done ?_
            go_upto_region 12 with (fail)
            refine wp_region_T [(0, 0), (1, 1), (2, 1), (3, 4)] (by kernel_rfl) fun wd hb => ?_
            replace E := hid (E.out.trans hb)
            replace Ba := hid (Ba.out.up hb)
            replace Bb := hid (Bb.out.up hb)
            replace V5 := hid (V5.out.up hb)
            replace V6 := hid (V6.out.up hb)
            replace V7 := hid (V7.out.up hb)
            replace Na := hid (Na.out.up hb)
            replace Nb := hid (Nb.out.up hb)
            replace Ra := hid (Ra.out.up hb)
            replace Rb := hid (Rb.out.up hb)
            replace Q1 := hid (Q1.out.up hb)
            replace Q2 := hid (Q2.out.up hb)
            replace Q3 := hid (Q3.out.up hb)
            clear hb
            refine WE.pure (d := some 92) rfl rfl (by rfl) (v := (.agg #[.bool ga, .slice Aa na ca])) (fun w' hk => ?_) ?_
            · have c0 := hk.cell (Ba.out.cell (o := 0) (v := .bool ga) rfl); have c1 := hk.cell (Ba.out.cell (o := 1) (v := .slice Aa na ca) rfl); go_simp
            simp only [Act.put, List.setIfInBounds_toArray, List.set_cons_zero, List.set_cons_succ]
            refine WE.call (d := some 93) rfl rfl (by rfl) (f := 22) (args := #[(.agg #[.bool ga, .slice Aa na ca])]) (by go_simp) ?_
            refine (rAbs_w Ra.out).mono ?_
            rintro e wn ⟨v1, rfl, x1, hb⟩
            obtain ⟨g8, A8, n8, c8, rfl⟩ := x1.shape
            refine ⟨_, rfl, hb, ?_⟩
            replace E := hid (E.out.trans hb)
            replace Ba := hid (Ba.out.up hb)
            replace Bb := hid (Bb.out.up hb)
            replace V5 := hid (V5.out.up hb)
            replace V6 := hid (V6.out.up hb)
            replace V7 := hid (V7.out.up hb)
            replace Na := hid (Na.out.up hb)
            replace Nb := hid (Nb.out.up hb)
            replace Ra := hid (Ra.out.up hb)
            replace Rb := hid (Rb.out.up hb)
            replace Q1 := hid (Q1.out.up hb)
            replace Q2 := hid (Q2.out.up hb)
            replace Q3 := hid (Q3.out.up hb)
            have Q8 := hid x1
            clear hb x1
            simp only [Act.put, List.setIfInBounds_toArray, List.set_cons_zero, List.set_cons_succ]
            as_aux_lemma =>
              refine WE.new (d := some 8) (cs := #[.bool false, .slice none 0 0]) (t := 24) (v := fun g => (.pointer (some ⟨g, 0, none⟩))) rfl rfl (by rfl) (fun w => by go_simp) fun gV8 wv hx0 hbox hge => ?_
              have HNV8Ba := hid (show gV8 ≠ (W.heap.size) by have := Ba.out.lt; omega)
              have HNV8Bb := hid (show gV8 ≠ (W.heap.size + 1) by have := Bb.out.lt; omega)
              have HNV8V5 := hid (show gV8 ≠ gV5 by have := V5.out.lt; omega)
              have HNV8V6 := hid (show gV8 ≠ gV6 by have := V6.out.lt; omega)
              have HNV8V7 := hid (show gV8 ≠ gV7 by have := V7.out.lt; omega)
              have HGV8 := hid (show W.heap.size ≤ gV8 by have := E.out.size; omega)
              replace E := hid (E.out.trans hx0)
              replace Ba := hid (Ba.out.up hx0)
              replace Bb := hid (Bb.out.up hx0)
              replace V5 := hid (V5.out.up hx0)
              replace V6 := hid (V6.out.up hx0)
              replace V7 := hid (V7.out.up hx0)
              replace Na := hid (Na.out.up hx0)
              replace Nb := hid (Nb.out.up hx0)
              replace Ra := hid (Ra.out.up hx0)
              replace Rb := hid (Rb.out.up hx0)
              replace Q1 := hid (Q1.out.up hx0)
              replace Q2 := hid (Q2.out.up hx0)
              replace Q3 := hid (Q3.out.up hx0)
              replace Q8 := hid (Q8.out.up hx0)
              have V8 : Hid (Box wv gV8 #[.bool false, .slice none 0 0] 24) := hid hbox
              clear hx0 hbox hge
              simp only [Act.put, List.setIfInBounds_toArray, List.set_cons_zero, List.set_cons_succ]
              refine WE.store2 (g := gV8) (x := .bool g8) (y := .slice A8 n8 c8) (t := 24) rfl rfl (by rfl) (fun w hb => ?_) V8.out (by rfl) fun ws hk hs => ?_
              · have c0 := hb.cell (o := 0) (v := .bool false) rfl; have f0 := hb.free 0; have c1 := hb.cell (o := 1) (v := .slice none 0 0) rfl; have f1 := hb.free 1; go_simp
              intro hbx
              replace E := hid (E.out.keptG hk HGV8.out)
              replace Ba := hid (Ba.out.kept hk (by simpa using HNV8Ba.out.symm))
              replace Bb := hid (Bb.out.kept hk (by simpa using HNV8Bb.out.symm))
              replace V5 := hid (V5.out.kept hk (by simpa using HNV8V5.out.symm))
              replace V6 := hid (V6.out.kept hk (by simpa using HNV8V6.out.symm))
              replace V7 := hid (V7.out.kept hk (by simpa using HNV8V7.out.symm))
              replace V8 := hid hbx
              replace Na := hid (Na.out.kz hs)
              replace Nb := hid (Nb.out.kz hs)
              replace Ra := hid (Ra.out.kz hs)
              replace Rb := hid (Rb.out.kz hs)
              replace Q1 := hid (Q1.out.kz hs)
              replace Q2 := hid (Q2.out.kz hs)
              replace Q3 := hid (Q3.out.kz hs)
              replace Q8 := hid (Q8.out.kz hs)
              clear hk hs hbx
              refine WE.done ?_
              go_upto_region 13 with (fail)
              refine wp_region_E [(0, 0), (2, 0), (1, 1), (3, 1), (4, 0)] (fun _ => (0, #[])) rfl (by kernel_rfl) (by intro j hj; cases hj) (fun _ _ d _ _ => by cases d <;> exact Iff.rfl) fun wd hb => ?_
              replace E := hid (E.out.trans hb)
              replace Ba := hid (Ba.out.up hb)
              replace Bb := hid (Bb.out.up hb)
              replace V5 := hid (V5.out.up hb)
              replace V6 := hid (V6.out.up hb)
              replace V7 := hid (V7.out.up hb)
              replace V8 := hid (V8.out.up hb)
              replace Na := hid (Na.out.up hb)
              replace Nb := hid (Nb.out.up hb)
              replace Ra := hid (Ra.out.up hb)
              replace Rb := hid (Rb.out.up hb)
              replace Q1 := hid (Q1.out.up hb)
              replace Q2 := hid (Q2.out.up hb)
              replace Q3 := hid (Q3.out.up hb)
              replace Q8 := hid (Q8.out.up hb)
              clear hb
              refine WE.pure (d := some 94) rfl rfl (by rfl) (v := (.agg #[.bool gb, .slice Ab nb cb])) (fun w' hk => ?_) ?_
              · have c0 := hk.cell (Bb.out.cell (o := 0) (v := .bool gb) rfl); have c1 := hk.cell (Bb.out.cell (o := 1) (v := .slice Ab nb cb) rfl); go_simp
              simp only [Act.put, List.setIfInBounds_toArray, List.set_cons_zero, List.set_cons_succ]
              refine WE.pure (d := some 96) rfl rfl (by rfl) (v := (.agg #[.bool g8, .slice A8 n8 c8])) (fun w' hk => ?_) ?_
              · have c0 := hk.cell (V8.out.cell (o := 0) (v := .bool g8) rfl); have c1 := hk.cell (V8.out.cell (o := 1) (v := .slice A8 n8 c8) rfl); go_simp
              simp only [Act.put, List.setIfInBounds_toArray, List.set_cons_zero, List.set_cons_succ]
              refine WE.call (d := some 95) rfl rfl (by rfl) (f := 22) (args := #[(.agg #[.bool gb, .slice Ab nb cb])]) (by go_simp) ?_
              refine (rAbs_w Rb.out).mono ?_
              rintro e wn ⟨v1, rfl, x1, hb⟩
              obtain ⟨g9, A9, n9, c9, rfl⟩ := x1.shape
              refine ⟨_, rfl, hb, ?_⟩
              replace E := hid (E.out.trans hb)
              replace Ba := hid (Ba.out.up hb)
              replace Bb := hid (Bb.out.up hb)
              replace V5 := hid (V5.out.up hb)
              replace V6 := hid (V6.out.up hb)
              replace V7 := hid (V7.out.up hb)
              replace V8 := hid (V8.out.up hb)
              replace Na := hid (Na.out.up hb)
              replace Nb := hid (Nb.out.up hb)
              replace Ra := hid (Ra.out.up hb)
              replace Rb := hid (Rb.out.up hb)
              replace Q1 := hid (Q1.out.up hb)
              replace Q2 := hid (Q2.out.up hb)
              replace Q3 := hid (Q3.out.up hb)
              replace Q8 := hid (Q8.out.up hb)
              have Q9 := hid x1
              clear hb x1
              simp only [Act.put, List.setIfInBounds_toArray, List.set_cons_zero, List.set_cons_succ]
              refine WE.call (d := some 97) rfl rfl (by rfl) (f := 23) (args := #[(.agg #[.bool g9, .slice A9 n9 c9]), (.agg #[.bool g8, .slice A8 n8 c8])]) (by go_simp) ?_
              refine (rCmp_w Q9.out.worth Q8.out.worth (z := zc) (HZC.out)).mono ?_
              rintro e wn ⟨rfl, hb⟩
              refine ⟨_, rfl, hb, ?_⟩
              replace E := hid (E.out.trans hb)
              replace Ba := hid (Ba.out.up hb)
              replace Bb := hid (Bb.out.up hb)
              replace V5 := hid (V5.out.up hb)
              replace V6 := hid (V6.out.up hb)
              replace V7 := hid (V7.out.up hb)
              replace V8 := hid (V8.out.up hb)
              replace Na := hid (Na.out.up hb)
              replace Nb := hid (Nb.out.up hb)
              replace Ra := hid (Ra.out.up hb)
              replace Rb := hid (Rb.out.up hb)
              replace Q1 := hid (Q1.out.up hb)
              replace Q2 := hid (Q2.out.up hb)
              replace Q3 := hid (Q3.out.up hb)
              replace Q8 := hid (Q8.out.up hb)
              replace Q9 := hid (Q9.out.up hb)
              clear hb
              simp only [Act.put, List.setIfInBounds_toArray, List.set_cons_zero, List.set_cons_succ]
              clear Q9
              refine WE.pure (d := some 98) rfl rfl (by rfl) (v := (.bool true)) (fun w' hk => ?_) ?_
              · go_simp
              simp only [Act.put, List.setIfInBounds_toArray, List.set_cons_zero, List.set_cons_succ]
              refine WE.done ?_
              go_upto_region 14 with (fail)
              refine wp_region_T [(0, 0), (1, 1), (2, 4)] (by kernel_rfl) fun wd hb => ?_
              replace E := hid (E.out.trans hb)
              replace Ba := hid (Ba.out.up hb)
              replace Bb := hid (Bb.out.up hb)
              replace V5 := hid (V5.out.up hb)
              replace V6 := hid (V6.out.up hb)
              replace V7 := hid (V7.out.up hb)
              replace V8 := hid (V8.out.up hb)
              replace Na := hid (Na.out.up hb)
              replace Nb := hid (Nb.out.up hb)
              replace Ra := hid (Ra.out.up hb)
              replace Rb := hid (Rb.out.up hb)
              replace Q1 := hid (Q1.out.up hb)
              replace Q2 := hid (Q2.out.up hb)
              replace Q3 := hid (Q3.out.up hb)
              replace Q8 := hid (Q8.out.up hb)
              clear hb
              refine WE.pure (d := some 99) rfl rfl (by rfl) (v := (.agg #[.bool gb, .slice Ab nb cb])) (fun w' hk => ?_) ?_
              · have c0 := hk.cell (Bb.out.cell (o := 0) (v := .bool gb) rfl); have c1 := hk.cell (Bb.out.cell (o := 1) (v := .slice Ab nb cb) rfl); go_simp
              simp only [Act.put, List.setIfInBounds_toArray, List.set_cons_zero, List.set_cons_succ]
              refine WE.call (d := some 100) rfl rfl (by rfl) (f := 22) (args := #[(.agg #[.bool gb, .slice Ab nb cb])]) (by go_simp) ?_
              refine (rAbs_w Rb.out).mono ?_
              rintro e wn ⟨v1, rfl, x1, hb⟩
              obtain ⟨g10, A10, n10, c10, rfl⟩ := x1.shape
              refine ⟨_, rfl, hb, ?_⟩
              replace E := hid (E.out.trans hb)
              replace Ba := hid (Ba.out.up hb)
              replace Bb := hid (Bb.out.up hb)
              replace V5 := hid (V5.out.up hb)
              replace V6 := hid (V6.out.up hb)
              replace V7 := hid (V7.out.up hb)
              replace V8 := hid (V8.out.up hb)
              replace Na := hid (Na.out.up hb)
              replace Nb := hid (Nb.out.up hb)
              replace Ra := hid (Ra.out.up hb)
              replace Rb := hid (Rb.out.up hb)
              replace Q1 := hid (Q1.out.up hb)
              replace Q2 := hid (Q2.out.up hb)
              replace Q3 := hid (Q3.out.up hb)
              replace Q8 := hid (Q8.out.up hb)
              have Q10 := hid x1
              clear hb x1
              simp only [Act.put, List.setIfInBounds_toArray, List.set_cons_zero, List.set_cons_succ]
              refine WE.store2 (g := gV8) (x := .bool g10) (y := .slice A10 n10 c10) (t := 24) rfl rfl (by rfl) (fun w hb => ?_) V8.out (by rfl) fun ws hk hs => ?_
              · have c0 := hb.cell (o := 0) (v := .bool g8) rfl; have f0 := hb.free 0; have c1 := hb.cell (o := 1) (v := .slice A8 n8 c8) rfl; have f1 := hb.free 1; go_simp
              intro hbx
              replace E := hid (E.out.keptG hk HGV8.out)
              replace Ba := hid (Ba.out.kept hk (by simpa using HNV8Ba.out.symm))
              replace Bb := hid (Bb.out.kept hk (by simpa using HNV8Bb.out.symm))
              replace V5 := hid (V5.out.kept hk (by simpa using HNV8V5.out.symm))
              replace V6 := hid (V6.out.kept hk (by simpa using HNV8V6.out.symm))
              replace V7 := hid (V7.out.kept hk (by simpa using HNV8V7.out.symm))
              replace V8 := hid hbx
              replace Na := hid (Na.out.kz hs)
              replace Nb := hid (Nb.out.kz hs)
              replace Ra := hid (Ra.out.kz hs)
              replace Rb := hid (Rb.out.kz hs)
              replace Q1 := hid (Q1.out.kz hs)
              replace Q2 := hid (Q2.out.kz hs)
              replace Q3 := hid (Q3.out.kz hs)
              replace Q8 := hid (Q8.out.kz hs)
              replace Q10 := hid (Q10.out.kz hs)
              clear hk hs hbx
              clear Q8
              refine WE.done ?_
              go_upto_region 15 with (fail)
              refine wp_region_E [(0, 0), (2, 0), (1, 1), (3, 1), (4, 0), (5, 0), (6, 0), (8, 0), (7, 1), (9, 1), (10, 0), (11, 0), (12, 0)] (fun _ => (0, #[])) rfl (by kernel_rfl) (by intro j hj; cases hj) (fun _ _ d _ _ => by cases d <;> exact Iff.rfl) fun wd hb => ?_
              replace E := hid (E.out.trans hb)
              replace Ba := hid (Ba.out.up hb)
              replace Bb := hid (Bb.out.up hb)
              replace V5 := hid (V5.out.up hb)
              replace V6 := hid (V6.out.up hb)
              replace V7 := hid (V7.out.up hb)
              replace V8 := hid (V8.out.up hb)
              replace Na := hid (Na.out.up hb)
              replace Nb := hid (Nb.out.up hb)
              replace Ra := hid (Ra.out.up hb)
              replace Rb := hid (Rb.out.up hb)
              replace Q1 := hid (Q1.out.up hb)
              replace Q2 := hid (Q2.out.up hb)
              replace Q3 := hid (Q3.out.up hb)
              replace Q10 := hid (Q10.out.up hb)
              clear hb
              refine WE.pure (d := some 101) rfl rfl (by rfl) (v := (.agg #[.bool g2, .slice A2 n2 c2])) (fun w' hk => ?_) ?_
              · have c0 := hk.cell (V6.out.cell (o := 0) (v := .bool g2) rfl); have c1 := hk.cell (V6.out.cell (o := 1) (v := .slice A2 n2 c2) rfl); go_simp
              simp only [Act.put, List.setIfInBounds_toArray, List.set_cons_zero, List.set_cons_succ]
              refine WE.pure (d := some 103) rfl rfl (by rfl) (v := (.agg #[.bool g10, .slice A10 n10 c10])) (fun w' hk => ?_) ?_
              · have c0 := hk.cell (V8.out.cell (o := 0) (v := .bool g10) rfl); have c1 := hk.cell (V8.out.cell (o := 1) (v := .slice A10 n10 c10) rfl); go_simp
              simp only [Act.put, List.setIfInBounds_toArray, List.set_cons_zero, List.set_cons_succ]
              as_aux_lemma =>
                refine WE.call (d := some 102) rfl rfl (by rfl) (f := 22) (args := #[(.agg #[.bool g2, .slice A2 n2 c2])]) (by go_simp) ?_
                refine (rAbs_w Q2.out.worth).mono ?_
                rintro e wn ⟨v1, rfl, x1, hb⟩
                obtain ⟨g11, A11, n11, c11, rfl⟩ := x1.shape
                refine ⟨_, rfl, hb, ?_⟩
                replace E := hid (E.out.trans hb)
                replace Ba := hid (Ba.out.up hb)
                replace Bb := hid (Bb.out.up hb)
                replace V5 := hid (V5.out.up hb)
                replace V6 := hid (V6.out.up hb)
                replace V7 := hid (V7.out.up hb)
                replace V8 := hid (V8.out.up hb)
                replace Na := hid (Na.out.up hb)
                replace Nb := hid (Nb.out.up hb)
                replace Ra := hid (Ra.out.up hb)
                replace Rb := hid (Rb.out.up hb)
                replace Q1 := hid (Q1.out.up hb)
                replace Q2 := hid (Q2.out.up hb)
                replace Q3 := hid (Q3.out.up hb)
                replace Q10 := hid (Q10.out.up hb)
                have Q11 := hid x1
                clear hb x1
                simp only [Act.put, List.setIfInBounds_toArray, List.set_cons_zero, List.set_cons_succ]
                refine WE.call (d := some 104) rfl rfl (by rfl) (f := 23) (args := #[(.agg #[.bool g11, .slice A11 n11 c11]), (.agg #[.bool g10, .slice A10 n10 c10])]) (by go_simp) ?_
                refine (rCmp_w Q11.out.worth Q10.out.worth (z := zx) (HZX.out)).mono ?_
                rintro e wn ⟨rfl, hb⟩
                refine ⟨_, rfl, hb, ?_⟩
                replace E := hid (E.out.trans hb)
                replace Ba := hid (Ba.out.up hb)
                replace Bb := hid (Bb.out.up hb)
                replace V5 := hid (V5.out.up hb)
                replace V6 := hid (V6.out.up hb)
                replace V7 := hid (V7.out.up hb)
                replace V8 := hid (V8.out.up hb)
                replace Na := hid (Na.out.up hb)
                replace Nb := hid (Nb.out.up hb)
                replace Ra := hid (Ra.out.up hb)
                replace Rb := hid (Rb.out.up hb)
                replace Q1 := hid (Q1.out.up hb)
                replace Q2 := hid (Q2.out.up hb)
                replace Q3 := hid (Q3.out.up hb)
                replace Q10 := hid (Q10.out.up hb)
                replace Q11 := hid (Q11.out.up hb)
                clear hb
                simp only [Act.put, List.setIfInBounds_toArray, List.set_cons_zero, List.set_cons_succ]
                clear Q11
                refine WE.pure (d := some 105) rfl rfl (by rfl) (v := (.bool true)) (fun w' hk => ?_) ?_
                · go_simp
                simp only [Act.put, List.setIfInBounds_toArray, List.set_cons_zero, List.set_cons_succ]
                refine WE.pure (d := some 106) rfl rfl (by rfl) (v := (.bool true)) (fun w' hk => ?_) ?_
                · go_simp
                simp only [Act.put, List.setIfInBounds_toArray, List.set_cons_zero, List.set_cons_succ]
                refine WE.pure (d := some 107) rfl rfl (by rfl) (v := (.agg #[.bool g3, .slice A3 n3 c3])) (fun w' hk => ?_) ?_
                · have c0 := hk.cell (V7.out.cell (o := 0) (v := .bool g3) rfl); have c1 := hk.cell (V7.out.cell (o := 1) (v := .slice A3 n3 c3) rfl); go_simp
                simp only [Act.put, List.setIfInBounds_toArray, List.set_cons_zero, List.set_cons_succ]
                refine WE.pure (d := some 109) rfl rfl (by rfl) (v := (.agg #[.bool g10, .slice A10 n10 c10])) (fun w' hk => ?_) ?_
                · have c0 := hk.cell (V8.out.cell (o := 0) (v := .bool g10) rfl); have c1 := hk.cell (V8.out.cell (o := 1) (v := .slice A10 n10 c10) rfl); go_simp
                simp only [Act.put, List.setIfInBounds_toArray, List.set_cons_zero, List.set_cons_succ]
                refine WE.call (d := some 108) rfl rfl (by rfl) (f := 22) (args := #[(.agg #[.bool g3, .slice A3 n3 c3])]) (by go_simp) ?_
                refine (rAbs_w Q3.out.worth).mono ?_
                rintro e wn ⟨v1, rfl, x1, hb⟩
                obtain ⟨g12, A12, n12, c12, rfl⟩ := x1.shape
                refine ⟨_, rfl, hb, ?_⟩
                replace E := hid (E.out.trans hb)
                replace Ba := hid (Ba.out.up hb)
                replace Bb := hid (Bb.out.up hb)
                replace V5 := hid (V5.out.up hb)
                replace V6 := hid (V6.out.up hb)
                replace V7 := hid (V7.out.up hb)
                replace V8 := hid (V8.out.up hb)
                replace Na := hid (Na.out.up hb)
                replace Nb := hid (Nb.out.up hb)
                replace Ra := hid (Ra.out.up hb)
                replace Rb := hid (Rb.out.up hb)
                replace Q1 := hid (Q1.out.up hb)
                replace Q2 := hid (Q2.out.up hb)
                replace Q3 := hid (Q3.out.up hb)
                replace Q10 := hid (Q10.out.up hb)
                have Q12 := hid x1
                clear hb x1
                simp only [Act.put, List.setIfInBounds_toArray, List.set_cons_zero, List.set_cons_succ]
                refine WE.call (d := some 110) rfl rfl (by rfl) (f := 23) (args := #[(.agg #[.bool g12, .slice A12 n12 c12]), (.agg #[.bool g10, .slice A10 n10 c10])]) (by go_simp) ?_
                refine (rCmp_w Q12.out.worth Q10.out.worth (z := zv) (HZV.out)).mono ?_
                rintro e wn ⟨rfl, hb⟩
                refine ⟨_, rfl, hb, ?_⟩
                replace E := hid (E.out.trans hb)
                replace Ba := hid (Ba.out.up hb)
                replace Bb := hid (Bb.out.up hb)
                replace V5 := hid (V5.out.up hb)
                replace V6 := hid (V6.out.up hb)
                replace V7 := hid (V7.out.up hb)
                replace V8 := hid (V8.out.up hb)
                replace Na := hid (Na.out.up hb)
                replace Nb := hid (Nb.out.up hb)
                replace Ra := hid (Ra.out.up hb)
                replace Rb := hid (Rb.out.up hb)
                replace Q1 := hid (Q1.out.up hb)
                replace Q2 := hid (Q2.out.up hb)
                replace Q3 := hid (Q3.out.up hb)
                replace Q10 := hid (Q10.out.up hb)
                replace Q12 := hid (Q12.out.up hb)
                clear hb
                simp only [Act.put, List.setIfInBounds_toArray, List.set_cons_zero, List.set_cons_succ]
                clear Q12
                refine WE.pure (d := some 111) rfl rfl (by rfl) (v := (.bool true)) (fun w' hk => ?_) ?_
                · go_simp
                simp only [Act.put, List.setIfInBounds_toArray, List.set_cons_zero, List.set_cons_succ]
                refine WE.pure (d := some 112) rfl rfl (by rfl) (v := (.bool true)) (fun w' hk => ?_) ?_
                · go_simp
                simp only [Act.put, List.setIfInBounds_toArray, List.set_cons_zero, List.set_cons_succ]
                refine WE.pure (d := some 4) rfl rfl (by rfl) (v := (.bool true)) (fun w' hk => ?_) ?_
                · go_simp
                simp only [Act.put, List.setIfInBounds_toArray, List.set_cons_zero, List.set_cons_succ]
                refine WE.done ?_
                repeat go_step
                go_ret
                exact ⟨rfl, E.out⟩

end Go.Proofs.Ytljjijcmoafndaa
