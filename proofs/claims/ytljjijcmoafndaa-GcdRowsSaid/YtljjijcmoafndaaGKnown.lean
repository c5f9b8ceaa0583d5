/-
  What each law of layer 4 asks first; small contracts of package mullionlaw4.
-/
import Derived.Test.YtljjijcmoafndaaGExt
import Derived.Test.YtljjijcmoafndaaGRef
namespace Go.Proofs.Ytljjijcmoafndaa
open Go.ChangeShapes Go.WideShapes Go.ChangeAt Go.RowKit
set_option linter.unusedSimpArgs false
set_option linter.unusedVariables false

theorem equal_z {w : World} {u v : Value} {Z : Int} {j k : Nat} (hu : IsZ w u Z j) (hv : IsZ w v Z k) : Calls Try.prog 11 #[u, v] w (GivesB w true) := by
  obtain ⟨A, n, c, rfl, h1, _⟩ := hu
  obtain ⟨A', n', c', rfl, h2, _⟩ := hv
  obtain ⟨g, hg⟩ : ∃ g : Bool, g = decide (Z < 0) := ⟨_, rfl⟩
  rw [← hg]
  have R := hid h1
  have R' := hid h2
  clear h1 h2 hg
  have hgg : (g == g) = true := by simp
  cases g
  all_goals
    go_enter Try.func11, Try.ntmps11
    go_wp2_with fail
    refine (same_l (R.out.up ((Ext.alloc _ _).alloc' _)) (R'.out.up ((Ext.alloc _ _).alloc' _)) rfl).mono ?_
    rintro e wn ⟨rfl, hb⟩
    have E := hid (((Ext.alloc _ _).alloc' _).trans hb)
    clear hb
    go_wp2
    go_ret
    exact ⟨rfl, E.out⟩

theorem few4_z {w : World} {g : Bool} {A : Option Addr} {n c : Nat} {l : List Nat} (hm : Num w w.heap.size (.slice A n c) l) {b : Bool} (hb : decide (l.length ≤ 6) = b) :
    Calls Try.prog 9 #[.agg #[.bool g, .slice A n c]] w (GivesB w b) := by
  have hn : n = l.length := by obtain ⟨_, _, _, e, h, _⟩ := hm; injection e with _ e2; rw [e2, h]
  have hm9 : n ≤ 9223372036854775807 := by obtain ⟨_, _, _, e, _, h1, h2, _⟩ := hm; injection e with _ e2 e3; unfold maxLen at h2; omega
  rw [← hn] at hb
  clear hm hn
  subst hb
  go_enter Try.func9, Try.ntmps9
  go_wp2
  go_ret
  exact ⟨ret_bool (by first | rfl | (rw [Bool.eq_iff_iff]; simp; omega)), Ext.alloc _ _⟩

theorem risZ_true {w : World} {v : Value} {Z : Int} {k : Nat} (h : IsZ w v Z k) : Calls Try.prog 16 #[v] w (GivesB w true) := by
  obtain ⟨A, n, c, rfl, hm, _⟩ := h
  exact rzIs_any hm (M.isZ_of Z)
theorem IsZ.num {w : World} {g : Bool} {A : Option Addr} {n c : Nat} {Z : Int} {k : Nat} (h : IsZ w (.agg #[.bool g, .slice A n c]) Z k) : Num w w.heap.size (.slice A n c) (M.limbs Z.natAbs) ∧ M.zv g (M.limbs Z.natAbs) = Z ∧ (M.limbs Z.natAbs).length ≤ k := by
  obtain ⟨g', A', n', c', e, hg, h2⟩ := h.form
  injection e with e
  simp at e
  obtain ⟨rfl, rfl, rfl, rfl⟩ := e
  exact ⟨h2.1, by rw [hg]; exact M.zv_of Z, h2.2⟩

set_option maxRecDepth 100000 in
set_option maxHeartbeats 8000000 in
theorem known4 (w : World) :
    Calls Try.prog 8 #[] w (fun e w' => e = .returned (.bool true) ∧ Ext w w') := by
  go_enter Try.func8, Try.ntmps8
  have E := hid (Ext.refl w)
  go_upto_region 1 with (fail)
  refine wp_region_T [(0, 1), (1, 1), (2, 1), (3, 0), (4, 0), (5, 0), (6, 0), (7, 1), (8, 1), (9, 1), (10, 4), (11, 4), (12, 4)] (by kernel_rfl) fun wd hb => ?_
  replace E := hid (E.out.trans hb)
  clear hb
  refine WE.call (d := some 5) rfl rfl (by rfl) (f := 21) (args := #[(.int .i64 (12))]) (by go_simp) ?_
  refine (rOf_z (n := (12)) (by decide) (by decide) _).mono ?_
  rintro e wn ⟨v1, rfl, x1, hb⟩
  obtain ⟨g1, A1, n1, c1, rfl⟩ := x1.shape
  refine ⟨_, rfl, hb, ?_⟩
  replace E := hid (E.out.trans hb)
  have Q1 := hid x1
  clear hb x1
  simp only [Act.put, List.setIfInBounds_toArray, List.set_cons_zero, List.set_cons_succ]
  refine WE.call (d := some 6) rfl rfl (by rfl) (f := 21) (args := #[(.int .i64 (-18))]) (by go_simp) ?_
  refine (rOf_z (n := (-18)) (by decide) (by decide) _).mono ?_
  rintro e wn ⟨v1, rfl, x1, hb⟩
  obtain ⟨g2, A2, n2, c2, rfl⟩ := x1.shape
  refine ⟨_, rfl, hb, ?_⟩
  replace E := hid (E.out.trans hb)
  replace Q1 := hid (Q1.out.up hb)
  have Q2 := hid x1
  clear hb x1
  simp only [Act.put, List.setIfInBounds_toArray, List.set_cons_zero, List.set_cons_succ]
  refine WE.call (d := some 7) rfl rfl (by rfl) (f := 17) (args := #[(.agg #[.bool g1, .slice A1 n1 c1]), (.agg #[.bool g2, .slice A2 n2 c2])]) (by go_simp) ?_
  refine (ext_w (Worth.wide Q1.out.worth (k := 20) (by omega)) (Worth.wide Q2.out.worth (k := 20) (by omega)) (by omega) (by omega)).mono ?_
  rintro e wn ⟨v1, v2, v3, X1, V1, rfl, x1, x2, x3, xe, hb⟩
  obtain ⟨g3, A3, n3, c3, rfl⟩ := x1.shape
  obtain ⟨g4, A4, n4, c4, rfl⟩ := x2.shape
  obtain ⟨g5, A5, n5, c5, rfl⟩ := x3.shape
  refine ⟨_, rfl, hb, ?_⟩
  replace E := hid (E.out.trans hb)
  replace Q1 := hid (Q1.out.up hb)
  replace Q2 := hid (Q2.out.up hb)
  have Q3 := hid x1
  have Q4 := hid x2
  have Q5 := hid x3
  have HXE1 := hid xe
  clear hb x1 x2 x3 xe
  simp only [Act.put, List.setIfInBounds_toArray, List.set_cons_zero, List.set_cons_succ]
  clear Q1
  clear Q2
  refine WE.pure (d := some 4) rfl rfl (by rfl) (v := (.tuple #[(.agg #[.bool g3, .slice A3 n3 c3]), (.agg #[.bool g4, .slice A4 n4 c4]), (.agg #[.bool g5, .slice A5 n5 c5])])) (fun w' hk => ?_) ?_
  · go_simp
  simp only [Act.put, List.setIfInBounds_toArray, List.set_cons_zero, List.set_cons_succ]
  refine WE.pure (d := some 8) rfl rfl (by rfl) (v := (.agg #[.bool g3, .slice A3 n3 c3])) (fun w' hk => ?_) ?_
  · go_simp
  simp only [Act.put, List.setIfInBounds_toArray, List.set_cons_zero, List.set_cons_succ]
  refine WE.pure (d := some 9) rfl rfl (by rfl) (v := (.agg #[.bool g4, .slice A4 n4 c4])) (fun w' hk => ?_) ?_
  · go_simp
  simp only [Act.put, List.setIfInBounds_toArray, List.set_cons_zero, List.set_cons_succ]
  refine WE.pure (d := some 10) rfl rfl (by rfl) (v := (.agg #[.bool g5, .slice A5 n5 c5])) (fun w' hk => ?_) ?_
  · go_simp
  simp only [Act.put, List.setIfInBounds_toArray, List.set_cons_zero, List.set_cons_succ]
  refine WE.new (d := some 1) (cs := #[.bool false, .slice none 0 0]) (t := 24) (v := fun g => (.pointer (some ⟨g, 0, none⟩))) rfl rfl (by rfl) (fun w => by go_simp) fun gV1 wv hx0 hbox hge => ?_
  have HGV1 := hid (show w.heap.size ≤ gV1 by have := E.out.size; omega)
  replace E := hid (E.out.trans hx0)
  replace Q3 := hid (Q3.out.up hx0)
  replace Q4 := hid (Q4.out.up hx0)
  replace Q5 := hid (Q5.out.up hx0)
  have V1 : Hid (Box wv gV1 #[.bool false, .slice none 0 0] 24) := hid hbox
  clear hx0 hbox hge
  simp only [Act.put, List.setIfInBounds_toArray, List.set_cons_zero, List.set_cons_succ]
  refine WE.new (d := some 2) (cs := #[.bool false, .slice none 0 0]) (t := 24) (v := fun g => (.pointer (some ⟨g, 0, none⟩))) rfl rfl (by rfl) (fun w => by go_simp) fun gV2 wv hx0 hbox hge => ?_
  have HNV2V1 := hid (show gV2 ≠ gV1 by have := V1.out.lt; omega)
  have HGV2 := hid (show w.heap.size ≤ gV2 by have := E.out.size; omega)
  replace E := hid (E.out.trans hx0)
  replace V1 := hid (V1.out.up hx0)
  replace Q3 := hid (Q3.out.up hx0)
  replace Q4 := hid (Q4.out.up hx0)
  replace Q5 := hid (Q5.out.up hx0)
  have V2 : Hid (Box wv gV2 #[.bool false, .slice none 0 0] 24) := hid hbox
  clear hx0 hbox hge
  simp only [Act.put, List.setIfInBounds_toArray, List.set_cons_zero, List.set_cons_succ]
  refine WE.new (d := some 3) (cs := #[.bool false, .slice none 0 0]) (t := 24) (v := fun g => (.pointer (some ⟨g, 0, none⟩))) rfl rfl (by rfl) (fun w => by go_simp) fun gV3 wv hx0 hbox hge => ?_
  have HNV3V1 := hid (show gV3 ≠ gV1 by have := V1.out.lt; omega)
  have HNV3V2 := hid (show gV3 ≠ gV2 by have := V2.out.lt; omega)
  have HGV3 := hid (show w.heap.size ≤ gV3 by have := E.out.size; omega)
  replace E := hid (E.out.trans hx0)
  replace V1 := hid (V1.out.up hx0)
  replace V2 := hid (V2.out.up hx0)
  replace Q3 := hid (Q3.out.up hx0)
  replace Q4 := hid (Q4.out.up hx0)
  replace Q5 := hid (Q5.out.up hx0)
  have V3 : Hid (Box wv gV3 #[.bool false, .slice none 0 0] 24) := hid hbox
  clear hx0 hbox hge
  simp only [Act.put, List.setIfInBounds_toArray, List.set_cons_zero, List.set_cons_succ]
  refine WE.store2 (g := gV1) (x := .bool g3) (y := .slice A3 n3 c3) (t := 24) rfl rfl (by rfl) (fun w hb => ?_) V1.out (by rfl) fun ws hk hs => ?_
  · have c0 := hb.cell (o := 0) (v := .bool false) rfl; have f0 := hb.free 0; have c1 := hb.cell (o := 1) (v := .slice none 0 0) rfl; have f1 := hb.free 1; go_simp
  intro hbx
  replace E := hid (E.out.keptG hk HGV1.out)
  replace V1 := hid hbx
  replace V2 := hid (V2.out.kept hk (by simpa using HNV2V1.out))
  replace V3 := hid (V3.out.kept hk (by simpa using HNV3V1.out))
  replace Q3 := hid (Q3.out.kz hs)
  replace Q4 := hid (Q4.out.kz hs)
  replace Q5 := hid (Q5.out.kz hs)
  clear hk hs hbx
  refine WE.store2 (g := gV2) (x := .bool g4) (y := .slice A4 n4 c4) (t := 24) rfl rfl (by rfl) (fun w hb => ?_) V2.out (by rfl) fun ws hk hs => ?_
  · have c0 := hb.cell (o := 0) (v := .bool false) rfl; have f0 := hb.free 0; have c1 := hb.cell (o := 1) (v := .slice none 0 0) rfl; have f1 := hb.free 1; go_simp
  intro hbx
  replace E := hid (E.out.keptG hk HGV2.out)
  replace V1 := hid (V1.out.kept hk (by simpa using HNV2V1.out.symm))
  replace V2 := hid hbx
  replace V3 := hid (V3.out.kept hk (by simpa using HNV3V2.out))
  replace Q3 := hid (Q3.out.kz hs)
  replace Q4 := hid (Q4.out.kz hs)
  replace Q5 := hid (Q5.out.kz hs)
  clear hk hs hbx
  refine WE.store2 (g := gV3) (x := .bool g5) (y := .slice A5 n5 c5) (t := 24) rfl rfl (by rfl) (fun w hb => ?_) V3.out (by rfl) fun ws hk hs => ?_
  · have c0 := hb.cell (o := 0) (v := .bool false) rfl; have f0 := hb.free 0; have c1 := hb.cell (o := 1) (v := .slice none 0 0) rfl; have f1 := hb.free 1; go_simp
  intro hbx
  replace E := hid (E.out.keptG hk HGV3.out)
  replace V1 := hid (V1.out.kept hk (by simpa using HNV3V1.out.symm))
  replace V2 := hid (V2.out.kept hk (by simpa using HNV3V2.out.symm))
  replace V3 := hid hbx
  replace Q3 := hid (Q3.out.kz hs)
  replace Q4 := hid (Q4.out.kz hs)
  replace Q5 := hid (Q5.out.kz hs)
  clear hk hs hbx
  refine WE.done ?_
  go_upto_region 2 with (fail)
  refine wp_region_E [(0, 1), (1, 1), (2, 1), (3, 1), (4, 1), (5, 0), (6, 0), (7, 1), (8, 1), (9, 0), (10, 0), (12, 0), (15, 0), (18, 0), (11, 1), (13, 1), (14, 1), (16, 1), (17, 1), (19, 1), (20, 0), (21, 0), (22, 1), (23, 1), (24, 1), (25, 1), (26, 1), (27, 0), (28, 0), (29, 1), (30, 1), (31, 1), (32, 1), (33, 1), (34, 1), (35, 0), (36, 0)] (fun _ => (0, #[])) rfl (by kernel_rfl) (by intro j hj; cases hj) (fun _ _ d _ _ => by cases d <;> exact Iff.rfl) fun wd hb => ?_
  replace E := hid (E.out.trans hb)
  replace V1 := hid (V1.out.up hb)
  replace V2 := hid (V2.out.up hb)
  replace V3 := hid (V3.out.up hb)
  replace Q3 := hid (Q3.out.up hb)
  replace Q4 := hid (Q4.out.up hb)
  replace Q5 := hid (Q5.out.up hb)
  clear hb
  refine WE.call (d := some 11) rfl rfl (by rfl) (f := 21) (args := #[(.int .i64 (12))]) (by go_simp) ?_
  refine (rOf_z (n := (12)) (by decide) (by decide) _).mono ?_
  rintro e wn ⟨v1, rfl, x1, hb⟩
  obtain ⟨g6, A6, n6, c6, rfl⟩ := x1.shape
  refine ⟨_, rfl, hb, ?_⟩
  replace E := hid (E.out.trans hb)
  replace V1 := hid (V1.out.up hb)
  replace V2 := hid (V2.out.up hb)
  replace V3 := hid (V3.out.up hb)
  replace Q3 := hid (Q3.out.up hb)
  replace Q4 := hid (Q4.out.up hb)
  replace Q5 := hid (Q5.out.up hb)
  have Q6 := hid x1
  clear hb x1
  simp only [Act.put, List.setIfInBounds_toArray, List.set_cons_zero, List.set_cons_succ]
  refine WE.call (d := some 12) rfl rfl (by rfl) (f := 21) (args := #[(.int .i64 (-18))]) (by go_simp) ?_
  refine (rOf_z (n := (-18)) (by decide) (by decide) _).mono ?_
  rintro e wn ⟨v1, rfl, x1, hb⟩
  obtain ⟨g7, A7, n7, c7, rfl⟩ := x1.shape
  refine ⟨_, rfl, hb, ?_⟩
  replace E := hid (E.out.trans hb)
  replace V1 := hid (V1.out.up hb)
  replace V2 := hid (V2.out.up hb)
  replace V3 := hid (V3.out.up hb)
  replace Q3 := hid (Q3.out.up hb)
  replace Q4 := hid (Q4.out.up hb)
  replace Q5 := hid (Q5.out.up hb)
  replace Q6 := hid (Q6.out.up hb)
  have Q7 := hid x1
  clear hb x1
  simp only [Act.put, List.setIfInBounds_toArray, List.set_cons_zero, List.set_cons_succ]
  refine WE.call (d := some 13) rfl rfl (by rfl) (f := 12) (args := #[(.agg #[.bool g6, .slice A6 n6 c6]), (.agg #[.bool g7, .slice A7 n7 c7])]) (by go_simp) ?_
  refine (gOf_w (Worth.wide Q6.out.worth (k := 20) (by omega)) (Worth.wide Q7.out.worth (k := 20) (by omega)) (by omega)).mono ?_
  rintro e wn ⟨v1, rfl, x1, hb⟩
  obtain ⟨g8, A8, n8, c8, rfl⟩ := x1.shape
  refine ⟨_, rfl, hb, ?_⟩
  replace E := hid (E.out.trans hb)
  replace V1 := hid (V1.out.up hb)
  replace V2 := hid (V2.out.up hb)
  replace V3 := hid (V3.out.up hb)
  replace Q3 := hid (Q3.out.up hb)
  replace Q4 := hid (Q4.out.up hb)
  replace Q5 := hid (Q5.out.up hb)
  replace Q6 := hid (Q6.out.up hb)
  replace Q7 := hid (Q7.out.up hb)
  have Q8 := hid x1
  clear hb x1
  simp only [Act.put, List.setIfInBounds_toArray, List.set_cons_zero, List.set_cons_succ]
  clear Q6
  clear Q7
  refine WE.call (d := some 14) rfl rfl (by rfl) (f := 21) (args := #[(.int .i64 (6))]) (by go_simp) ?_
  refine (rOf_z (n := (6)) (by decide) (by decide) _).mono ?_
  rintro e wn ⟨v1, rfl, x1, hb⟩
  obtain ⟨g9, A9, n9, c9, rfl⟩ := x1.shape
  refine ⟨_, rfl, hb, ?_⟩
  replace E := hid (E.out.trans hb)
  replace V1 := hid (V1.out.up hb)
  replace V2 := hid (V2.out.up hb)
  replace V3 := hid (V3.out.up hb)
  replace Q3 := hid (Q3.out.up hb)
  replace Q4 := hid (Q4.out.up hb)
  replace Q5 := hid (Q5.out.up hb)
  replace Q8 := hid (Q8.out.up hb)
  have Q9 := hid x1
  clear hb x1
  simp only [Act.put, List.setIfInBounds_toArray, List.set_cons_zero, List.set_cons_succ]
  refine WE.call (d := some 15) rfl rfl (by rfl) (f := 11) (args := #[(.agg #[.bool g8, .slice A8 n8 c8]), (.agg #[.bool g9, .slice A9 n9 c9])]) (by go_simp) ?_
  refine (equal_z (IsZ.to Q8.out (by decide)) (IsZ.to Q9.out (rfl))).mono ?_
  rintro e wn ⟨rfl, hb⟩
  refine ⟨_, rfl, hb, ?_⟩
  replace E := hid (E.out.trans hb)
  replace V1 := hid (V1.out.up hb)
  replace V2 := hid (V2.out.up hb)
  replace V3 := hid (V3.out.up hb)
  replace Q3 := hid (Q3.out.up hb)
  replace Q4 := hid (Q4.out.up hb)
  replace Q5 := hid (Q5.out.up hb)
  replace Q8 := hid (Q8.out.up hb)
  replace Q9 := hid (Q9.out.up hb)
  clear hb
  simp only [Act.put, List.setIfInBounds_toArray, List.set_cons_zero, List.set_cons_succ]
  clear Q8
  clear Q9
  refine WE.pure (d := some 16) rfl rfl (by rfl) (v := (.bool true)) (fun w' hk => ?_) ?_
  · go_simp
  simp only [Act.put, List.setIfInBounds_toArray, List.set_cons_zero, List.set_cons_succ]
  refine WE.pure (d := some 17) rfl rfl (by rfl) (v := (.agg #[.bool g3, .slice A3 n3 c3])) (fun w' hk => ?_) ?_
  · have c0 := hk.cell (V1.out.cell (o := 0) (v := .bool g3) rfl); have c1 := hk.cell (V1.out.cell (o := 1) (v := .slice A3 n3 c3) rfl); go_simp
  simp only [Act.put, List.setIfInBounds_toArray, List.set_cons_zero, List.set_cons_succ]
  refine WE.call (d := some 18) rfl rfl (by rfl) (f := 21) (args := #[(.int .i64 (6))]) (by go_simp) ?_
  refine (rOf_z (n := (6)) (by decide) (by decide) _).mono ?_
  rintro e wn ⟨v1, rfl, x1, hb⟩
  obtain ⟨g10, A10, n10, c10, rfl⟩ := x1.shape
  refine ⟨_, rfl, hb, ?_⟩
  replace E := hid (E.out.trans hb)
  replace V1 := hid (V1.out.up hb)
  replace V2 := hid (V2.out.up hb)
  replace V3 := hid (V3.out.up hb)
  replace Q3 := hid (Q3.out.up hb)
  replace Q4 := hid (Q4.out.up hb)
  replace Q5 := hid (Q5.out.up hb)
  have Q10 := hid x1
  clear hb x1
  simp only [Act.put, List.setIfInBounds_toArray, List.set_cons_zero, List.set_cons_succ]
  refine WE.call (d := some 19) rfl rfl (by rfl) (f := 11) (args := #[(.agg #[.bool g3, .slice A3 n3 c3]), (.agg #[.bool g10, .slice A10 n10 c10])]) (by go_simp) ?_
  refine (equal_z (IsZ.to Q3.out (by decide)) (IsZ.to Q10.out (rfl))).mono ?_
  rintro e wn ⟨rfl, hb⟩
  refine ⟨_, rfl, hb, ?_⟩
  replace E := hid (E.out.trans hb)
  replace V1 := hid (V1.out.up hb)
  replace V2 := hid (V2.out.up hb)
  replace V3 := hid (V3.out.up hb)
  replace Q3 := hid (Q3.out.up hb)
  replace Q4 := hid (Q4.out.up hb)
  replace Q5 := hid (Q5.out.up hb)
  replace Q10 := hid (Q10.out.up hb)
  clear hb
  simp only [Act.put, List.setIfInBounds_toArray, List.set_cons_zero, List.set_cons_succ]
  clear Q10
  refine WE.pure (d := some 20) rfl rfl (by rfl) (v := (.bool true)) (fun w' hk => ?_) ?_
  · go_simp
  simp only [Act.put, List.setIfInBounds_toArray, List.set_cons_zero, List.set_cons_succ]
  refine WE.pure (d := some 21) rfl rfl (by rfl) (v := (.bool true)) (fun w' hk => ?_) ?_
  · go_simp
  simp only [Act.put, List.setIfInBounds_toArray, List.set_cons_zero, List.set_cons_succ]
  refine WE.pure (d := some 23) rfl rfl (by rfl) (v := (.agg #[.bool g4, .slice A4 n4 c4])) (fun w' hk => ?_) ?_
  · have c0 := hk.cell (V2.out.cell (o := 0) (v := .bool g4) rfl); have c1 := hk.cell (V2.out.cell (o := 1) (v := .slice A4 n4 c4) rfl); go_simp
  simp only [Act.put, List.setIfInBounds_toArray, List.set_cons_zero, List.set_cons_succ]
  refine WE.pure (d := some 26) rfl rfl (by rfl) (v := (.agg #[.bool g5, .slice A5 n5 c5])) (fun w' hk => ?_) ?_
  · have c0 := hk.cell (V3.out.cell (o := 0) (v := .bool g5) rfl); have c1 := hk.cell (V3.out.cell (o := 1) (v := .slice A5 n5 c5) rfl); go_simp
  simp only [Act.put, List.setIfInBounds_toArray, List.set_cons_zero, List.set_cons_succ]
  refine WE.pure (d := some 29) rfl rfl (by rfl) (v := (.agg #[.bool g3, .slice A3 n3 c3])) (fun w' hk => ?_) ?_
  · have c0 := hk.cell (V1.out.cell (o := 0) (v := .bool g3) rfl); have c1 := hk.cell (V1.out.cell (o := 1) (v := .slice A3 n3 c3) rfl); go_simp
  simp only [Act.put, List.setIfInBounds_toArray, List.set_cons_zero, List.set_cons_succ]
  refine WE.call (d := some 22) rfl rfl (by rfl) (f := 21) (args := #[(.int .i64 (12))]) (by go_simp) ?_
  refine (rOf_z (n := (12)) (by decide) (by decide) _).mono ?_
  rintro e wn ⟨v1, rfl, x1, hb⟩
  obtain ⟨g11, A11, n11, c11, rfl⟩ := x1.shape
  refine ⟨_, rfl, hb, ?_⟩
  replace E := hid (E.out.trans hb)
  replace V1 := hid (V1.out.up hb)
  replace V2 := hid (V2.out.up hb)
  replace V3 := hid (V3.out.up hb)
  replace Q3 := hid (Q3.out.up hb)
  replace Q4 := hid (Q4.out.up hb)
  replace Q5 := hid (Q5.out.up hb)
  have Q11 := hid x1
  clear hb x1
  simp only [Act.put, List.setIfInBounds_toArray, List.set_cons_zero, List.set_cons_succ]
  refine WE.call (d := some 24) rfl rfl (by rfl) (f := 19) (args := #[(.agg #[.bool g11, .slice A11 n11 c11]), (.agg #[.bool g4, .slice A4 n4 c4])]) (by go_simp) ?_
  refine (rMul_w Q11.out.worth Q4.out.worth (by omega) (by omega)).mono ?_
  rintro e wn ⟨v1, rfl, x1, hb⟩
  obtain ⟨g12, A12, n12, c12, rfl⟩ := x1.shape
  refine ⟨_, rfl, hb, ?_⟩
  replace E := hid (E.out.trans hb)
  replace V1 := hid (V1.out.up hb)
  replace V2 := hid (V2.out.up hb)
  replace V3 := hid (V3.out.up hb)
  replace Q3 := hid (Q3.out.up hb)
  replace Q4 := hid (Q4.out.up hb)
  replace Q5 := hid (Q5.out.up hb)
  replace Q11 := hid (Q11.out.up hb)
  have Q12 := hid x1
  clear hb x1
  simp only [Act.put, List.setIfInBounds_toArray, List.set_cons_zero, List.set_cons_succ]
  clear Q11
  refine WE.call (d := some 25) rfl rfl (by rfl) (f := 21) (args := #[(.int .i64 (-18))]) (by go_simp) ?_
  refine (rOf_z (n := (-18)) (by decide) (by decide) _).mono ?_
  rintro e wn ⟨v1, rfl, x1, hb⟩
  obtain ⟨g13, A13, n13, c13, rfl⟩ := x1.shape
  refine ⟨_, rfl, hb, ?_⟩
  replace E := hid (E.out.trans hb)
  replace V1 := hid (V1.out.up hb)
  replace V2 := hid (V2.out.up hb)
  replace V3 := hid (V3.out.up hb)
  replace Q3 := hid (Q3.out.up hb)
  replace Q4 := hid (Q4.out.up hb)
  replace Q5 := hid (Q5.out.up hb)
  replace Q12 := hid (Q12.out.up hb)
  have Q13 := hid x1
  clear hb x1
  simp only [Act.put, List.setIfInBounds_toArray, List.set_cons_zero, List.set_cons_succ]
  refine WE.call (d := some 27) rfl rfl (by rfl) (f := 19) (args := #[(.agg #[.bool g13, .slice A13 n13 c13]), (.agg #[.bool g5, .slice A5 n5 c5])]) (by go_simp) ?_
  refine (rMul_w Q13.out.worth Q5.out.worth (by omega) (by omega)).mono ?_
  rintro e wn ⟨v1, rfl, x1, hb⟩
  obtain ⟨g14, A14, n14, c14, rfl⟩ := x1.shape
  refine ⟨_, rfl, hb, ?_⟩
  replace E := hid (E.out.trans hb)
  replace V1 := hid (V1.out.up hb)
  replace V2 := hid (V2.out.up hb)
  replace V3 := hid (V3.out.up hb)
  replace Q3 := hid (Q3.out.up hb)
  replace Q4 := hid (Q4.out.up hb)
  replace Q5 := hid (Q5.out.up hb)
  replace Q12 := hid (Q12.out.up hb)
  replace Q13 := hid (Q13.out.up hb)
  have Q14 := hid x1
  clear hb x1
  simp only [Act.put, List.setIfInBounds_toArray, List.set_cons_zero, List.set_cons_succ]
  clear Q13
  refine WE.call (d := some 28) rfl rfl (by rfl) (f := 18) (args := #[(.agg #[.bool g12, .slice A12 n12 c12]), (.agg #[.bool g14, .slice A14 n14 c14])]) (by go_simp) ?_
  refine (rAdd_w Q12.out.worth Q14.out.worth (by omega) (by omega)).mono ?_
  rintro e wn ⟨v1, rfl, x1, hb⟩
  obtain ⟨g15, A15, n15, c15, rfl⟩ := x1.shape
  refine ⟨_, rfl, hb, ?_⟩
  replace E := hid (E.out.trans hb)
  replace V1 := hid (V1.out.up hb)
  replace V2 := hid (V2.out.up hb)
  replace V3 := hid (V3.out.up hb)
  replace Q3 := hid (Q3.out.up hb)
  replace Q4 := hid (Q4.out.up hb)
  replace Q5 := hid (Q5.out.up hb)
  replace Q12 := hid (Q12.out.up hb)
  replace Q14 := hid (Q14.out.up hb)
  have Q15 := hid x1
  clear hb x1
  simp only [Act.put, List.setIfInBounds_toArray, List.set_cons_zero, List.set_cons_succ]
  clear Q12
  clear Q14
  refine WE.call (d := some 30) rfl rfl (by rfl) (f := 11) (args := #[(.agg #[.bool g15, .slice A15 n15 c15]), (.agg #[.bool g3, .slice A3 n3 c3])]) (by go_simp) ?_
  refine (equal_z (IsZ.to Q15.out (HXE1.out.1)) (IsZ.to Q3.out (rfl))).mono ?_
  rintro e wn ⟨rfl, hb⟩
  refine ⟨_, rfl, hb, ?_⟩
  replace E := hid (E.out.trans hb)
  replace V1 := hid (V1.out.up hb)
  replace V2 := hid (V2.out.up hb)
  replace V3 := hid (V3.out.up hb)
  replace Q3 := hid (Q3.out.up hb)
  replace Q4 := hid (Q4.out.up hb)
  replace Q5 := hid (Q5.out.up hb)
  replace Q15 := hid (Q15.out.up hb)
  clear hb
  simp only [Act.put, List.setIfInBounds_toArray, List.set_cons_zero, List.set_cons_succ]
  clear Q15
  refine WE.pure (d := some 31) rfl rfl (by rfl) (v := (.bool true)) (fun w' hk => ?_) ?_
  · go_simp
  simp only [Act.put, List.setIfInBounds_toArray, List.set_cons_zero, List.set_cons_succ]
  refine WE.pure (d := some 32) rfl rfl (by rfl) (v := (.bool true)) (fun w' hk => ?_) ?_
  · go_simp
  simp only [Act.put, List.setIfInBounds_toArray, List.set_cons_zero, List.set_cons_succ]
  refine WE.call (d := some 33) rfl rfl (by rfl) (f := 21) (args := #[(.int .i64 (4))]) (by go_simp) ?_
  refine (rOf_z (n := (4)) (by decide) (by decide) _).mono ?_
  rintro e wn ⟨v1, rfl, x1, hb⟩
  obtain ⟨g16, A16, n16, c16, rfl⟩ := x1.shape
  refine ⟨_, rfl, hb, ?_⟩
  replace E := hid (E.out.trans hb)
  replace V1 := hid (V1.out.up hb)
  replace V2 := hid (V2.out.up hb)
  replace V3 := hid (V3.out.up hb)
  replace Q3 := hid (Q3.out.up hb)
  replace Q4 := hid (Q4.out.up hb)
  replace Q5 := hid (Q5.out.up hb)
  have Q16 := hid x1
  clear hb x1
  simp only [Act.put, List.setIfInBounds_toArray, List.set_cons_zero, List.set_cons_succ]
  refine WE.call (d := some 34) rfl rfl (by rfl) (f := 21) (args := #[(.int .i64 (6))]) (by go_simp) ?_
  refine (rOf_z (n := (6)) (by decide) (by decide) _).mono ?_
  rintro e wn ⟨v1, rfl, x1, hb⟩
  obtain ⟨g17, A17, n17, c17, rfl⟩ := x1.shape
  refine ⟨_, rfl, hb, ?_⟩
  replace E := hid (E.out.trans hb)
  replace V1 := hid (V1.out.up hb)
  replace V2 := hid (V2.out.up hb)
  replace V3 := hid (V3.out.up hb)
  replace Q3 := hid (Q3.out.up hb)
  replace Q4 := hid (Q4.out.up hb)
  replace Q5 := hid (Q5.out.up hb)
  replace Q16 := hid (Q16.out.up hb)
  have Q17 := hid x1
  clear hb x1
  simp only [Act.put, List.setIfInBounds_toArray, List.set_cons_zero, List.set_cons_succ]
  refine WE.call (d := some 35) rfl rfl (by rfl) (f := 13) (args := #[(.agg #[.bool g16, .slice A16 n16 c16]), (.agg #[.bool g17, .slice A17 n17 c17])]) (by go_simp) ?_
  refine (gLcm_w (Worth.wide Q16.out.worth (k := 20) (by omega)) (Worth.wide Q17.out.worth (k := 20) (by omega)) (by omega) (by omega)).mono ?_
  rintro e wn ⟨v1, rfl, x1, hb⟩
  obtain ⟨g18, A18, n18, c18, rfl⟩ := x1.shape
  refine ⟨_, rfl, hb, ?_⟩
  replace E := hid (E.out.trans hb)
  replace V1 := hid (V1.out.up hb)
  replace V2 := hid (V2.out.up hb)
  replace V3 := hid (V3.out.up hb)
  replace Q3 := hid (Q3.out.up hb)
  replace Q4 := hid (Q4.out.up hb)
  replace Q5 := hid (Q5.out.up hb)
  replace Q16 := hid (Q16.out.up hb)
  replace Q17 := hid (Q17.out.up hb)
  have Q18 := hid x1
  clear hb x1
  simp only [Act.put, List.setIfInBounds_toArray, List.set_cons_zero, List.set_cons_succ]
  clear Q16
  clear Q17
  refine WE.call (d := some 36) rfl rfl (by rfl) (f := 21) (args := #[(.int .i64 (12))]) (by go_simp) ?_
  refine (rOf_z (n := (12)) (by decide) (by decide) _).mono ?_
  rintro e wn ⟨v1, rfl, x1, hb⟩
  obtain ⟨g19, A19, n19, c19, rfl⟩ := x1.shape
  refine ⟨_, rfl, hb, ?_⟩
  replace E := hid (E.out.trans hb)
  replace V1 := hid (V1.out.up hb)
  replace V2 := hid (V2.out.up hb)
  replace V3 := hid (V3.out.up hb)
  replace Q3 := hid (Q3.out.up hb)
  replace Q4 := hid (Q4.out.up hb)
  replace Q5 := hid (Q5.out.up hb)
  replace Q18 := hid (Q18.out.up hb)
  have Q19 := hid x1
  clear hb x1
  simp only [Act.put, List.setIfInBounds_toArray, List.set_cons_zero, List.set_cons_succ]
  refine WE.call (d := some 37) rfl rfl (by rfl) (f := 11) (args := #[(.agg #[.bool g18, .slice A18 n18 c18]), (.agg #[.bool g19, .slice A19 n19 c19])]) (by go_simp) ?_
  refine (equal_z (IsZ.to Q18.out (by decide)) (IsZ.to Q19.out (rfl))).mono ?_
  rintro e wn ⟨rfl, hb⟩
  refine ⟨_, rfl, hb, ?_⟩
  replace E := hid (E.out.trans hb)
  replace V1 := hid (V1.out.up hb)
  replace V2 := hid (V2.out.up hb)
  replace V3 := hid (V3.out.up hb)
  replace Q3 := hid (Q3.out.up hb)
  replace Q4 := hid (Q4.out.up hb)
  replace Q5 := hid (Q5.out.up hb)
  replace Q18 := hid (Q18.out.up hb)
  replace Q19 := hid (Q19.out.up hb)
  clear hb
  simp only [Act.put, List.setIfInBounds_toArray, List.set_cons_zero, List.set_cons_succ]
  clear Q18
  clear Q19
  refine WE.pure (d := some 38) rfl rfl (by rfl) (v := (.bool true)) (fun w' hk => ?_) ?_
  · go_simp
  simp only [Act.put, List.setIfInBounds_toArray, List.set_cons_zero, List.set_cons_succ]
  refine WE.pure (d := some 39) rfl rfl (by rfl) (v := (.bool true)) (fun w' hk => ?_) ?_
  · go_simp
  simp only [Act.put, List.setIfInBounds_toArray, List.set_cons_zero, List.set_cons_succ]
  refine WE.call (d := some 40) rfl rfl (by rfl) (f := 21) (args := #[(.int .i64 (4))]) (by go_simp) ?_
  refine (rOf_z (n := (4)) (by decide) (by decide) _).mono ?_
  rintro e wn ⟨v1, rfl, x1, hb⟩
  obtain ⟨g20, A20, n20, c20, rfl⟩ := x1.shape
  refine ⟨_, rfl, hb, ?_⟩
  replace E := hid (E.out.trans hb)
  replace V1 := hid (V1.out.up hb)
  replace V2 := hid (V2.out.up hb)
  replace V3 := hid (V3.out.up hb)
  replace Q3 := hid (Q3.out.up hb)
  replace Q4 := hid (Q4.out.up hb)
  replace Q5 := hid (Q5.out.up hb)
  have Q20 := hid x1
  clear hb x1
  simp only [Act.put, List.setIfInBounds_toArray, List.set_cons_zero, List.set_cons_succ]
  refine WE.call (d := some 41) rfl rfl (by rfl) (f := 21) (args := #[(.int .i64 (6))]) (by go_simp) ?_
  refine (rOf_z (n := (6)) (by decide) (by decide) _).mono ?_
  rintro e wn ⟨v1, rfl, x1, hb⟩
  obtain ⟨g21, A21, n21, c21, rfl⟩ := x1.shape
  refine ⟨_, rfl, hb, ?_⟩
  replace E := hid (E.out.trans hb)
  replace V1 := hid (V1.out.up hb)
  replace V2 := hid (V2.out.up hb)
  replace V3 := hid (V3.out.up hb)
  replace Q3 := hid (Q3.out.up hb)
  replace Q4 := hid (Q4.out.up hb)
  replace Q5 := hid (Q5.out.up hb)
  replace Q20 := hid (Q20.out.up hb)
  have Q21 := hid x1
  clear hb x1
  simp only [Act.put, List.setIfInBounds_toArray, List.set_cons_zero, List.set_cons_succ]
  refine WE.new (d := some 42) (cs := #[.bool g20, .slice A20 n20 c20, .bool g21, .slice A21 n21 c21]) (t := 24) (v := fun g => (.slice (some ⟨g, 0, none⟩) 2 2)) rfl rfl (by rfl) (fun w => by go_simp) fun gL1 wv hx0 hbox hge => ?_
  have HNL1V1 := hid (show gL1 ≠ gV1 by have := V1.out.lt; omega)
  have HNL1V2 := hid (show gL1 ≠ gV2 by have := V2.out.lt; omega)
  have HNL1V3 := hid (show gL1 ≠ gV3 by have := V3.out.lt; omega)
  have HGL1 := hid (show w.heap.size ≤ gL1 by have := E.out.size; omega)
  replace E := hid (E.out.trans hx0)
  replace V1 := hid (V1.out.up hx0)
  replace V2 := hid (V2.out.up hx0)
  replace V3 := hid (V3.out.up hx0)
  replace Q3 := hid (Q3.out.up hx0)
  replace Q4 := hid (Q4.out.up hx0)
  replace Q5 := hid (Q5.out.up hx0)
  replace Q20 := hid (Q20.out.up hx0)
  replace Q21 := hid (Q21.out.up hx0)
  have L1 : Hid (Box wv gL1 #[.bool g20, .slice A20 n20 c20, .bool g21, .slice A21 n21 c21] 24) := hid hbox
  clear hx0 hbox hge
  simp only [Act.put, List.setIfInBounds_toArray, List.set_cons_zero, List.set_cons_succ]
  have hL := L1.out.list2 Q20.out.num.1 Q21.out.num.1
  have hv : M.gl [(g20, M.limbs (Int.natAbs (4))), (g21, M.limbs (Int.natAbs (6)))] = Int.gcd (4) (6) := by rw [M.gl_two, Q20.out.num.2.1, Q21.out.num.2.1]
  have hs : ∀ x ∈ [(g20, M.limbs (Int.natAbs (4))), (g21, M.limbs (Int.natAbs (6)))], x.2.length ≤ 20 := by intro x hx; simp at hx; rcases hx with rfl | rfl; exact Nat.le_trans Q20.out.num.2.2 (by omega); exact Nat.le_trans Q21.out.num.2.2 (by omega)
  have HLL := hid hL
  have HLS := hid hs
  have HLV := hid hv
  clear hL hs hv
  refine WE.call (d := some 43) rfl rfl (by rfl) (f := 15) (args := #[(.slice (some ⟨gL1, 0, none⟩) 2 2)]) (by go_simp) ?_
  refine (gAll_w HLL.out HLS.out (by omega)).mono ?_
  rintro e wn ⟨v1, rfl, x1, hb⟩
  obtain ⟨g22, A22, n22, c22, rfl⟩ := x1.shape
  refine ⟨_, rfl, hb, ?_⟩
  replace E := hid (E.out.trans hb)
  replace V1 := hid (V1.out.up hb)
  replace V2 := hid (V2.out.up hb)
  replace V3 := hid (V3.out.up hb)
  replace L1 := hid (L1.out.up hb)
  replace Q3 := hid (Q3.out.up hb)
  replace Q4 := hid (Q4.out.up hb)
  replace Q5 := hid (Q5.out.up hb)
  replace Q20 := hid (Q20.out.up hb)
  replace Q21 := hid (Q21.out.up hb)
  have Q22 := hid x1
  clear hb x1
  simp only [Act.put, List.setIfInBounds_toArray, List.set_cons_zero, List.set_cons_succ]
  clear Q20
  clear Q21
  refine WE.call (d := some 44) rfl rfl (by rfl) (f := 21) (args := #[(.int .i64 (2))]) (by go_simp) ?_
  refine (rOf_z (n := (2)) (by decide) (by decide) _).mono ?_
  rintro e wn ⟨v1, rfl, x1, hb⟩
  obtain ⟨g23, A23, n23, c23, rfl⟩ := x1.shape
  refine ⟨_, rfl, hb, ?_⟩
  replace E := hid (E.out.trans hb)
  replace V1 := hid (V1.out.up hb)
  replace V2 := hid (V2.out.up hb)
  replace V3 := hid (V3.out.up hb)
  replace L1 := hid (L1.out.up hb)
  replace Q3 := hid (Q3.out.up hb)
  replace Q4 := hid (Q4.out.up hb)
  replace Q5 := hid (Q5.out.up hb)
  replace Q22 := hid (Q22.out.up hb)
  have Q23 := hid x1
  clear hb x1
  simp only [Act.put, List.setIfInBounds_toArray, List.set_cons_zero, List.set_cons_succ]
  refine WE.call (d := some 45) rfl rfl (by rfl) (f := 11) (args := #[(.agg #[.bool g22, .slice A22 n22 c22]), (.agg #[.bool g23, .slice A23 n23 c23])]) (by go_simp) ?_
  refine (equal_z (IsZ.to Q22.out (by rw [HLV.out]; decide)) (IsZ.to Q23.out (rfl))).mono ?_
  rintro e wn ⟨rfl, hb⟩
  refine ⟨_, rfl, hb, ?_⟩
  replace E := hid (E.out.trans hb)
  replace V1 := hid (V1.out.up hb)
  replace V2 := hid (V2.out.up hb)
  replace V3 := hid (V3.out.up hb)
  replace L1 := hid (L1.out.up hb)
  replace Q3 := hid (Q3.out.up hb)
  replace Q4 := hid (Q4.out.up hb)
  replace Q5 := hid (Q5.out.up hb)
  replace Q22 := hid (Q22.out.up hb)
  replace Q23 := hid (Q23.out.up hb)
  clear hb
  simp only [Act.put, List.setIfInBounds_toArray, List.set_cons_zero, List.set_cons_succ]
  clear Q22
  clear Q23
  refine WE.pure (d := some 46) rfl rfl (by rfl) (v := (.bool true)) (fun w' hk => ?_) ?_
  · go_simp
  simp only [Act.put, List.setIfInBounds_toArray, List.set_cons_zero, List.set_cons_succ]
  refine WE.pure (d := some 0) rfl rfl (by rfl) (v := (.bool true)) (fun w' hk => ?_) ?_
  · go_simp
  simp only [Act.put, List.setIfInBounds_toArray, List.set_cons_zero, List.set_cons_succ]
  refine WE.done ?_
  repeat go_step
  go_ret
  exact ⟨rfl, E.out⟩

end Go.Proofs.Ytljjijcmoafndaa
