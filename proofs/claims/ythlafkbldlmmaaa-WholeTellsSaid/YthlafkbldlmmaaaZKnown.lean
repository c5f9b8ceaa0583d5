/-
  Contract: 'known', the examples that each law of layer 2 asks ahead of all else: true.
-/
import Derived.Test.YthlafkbldlmmaaaZBase
namespace Go.Proofs.Ythlafkbldlmmaaa
open Go.RowKit
set_option linter.unusedSimpArgs false
set_option linter.unusedVariables false

set_option maxHeartbeats 2000000 in
theorem known2 (w : World) :
    Calls Try.prog 4 #[] w (fun e w' => e = .returned (.bool true) ∧ Ext w w') := by
  go_enter Try.func4, Try.ntmps4
  have E := hid (Ext.refl w)
  go_upto_region 1 with (fail)
  refine wp_region_T [(0, 1), (1, 1), (2, 1), (3, 0), (4, 0), (5, 0), (6, 1), (7, 1), (8, 4), (9, 4)] (by kernel_rfl) fun wd hb => ?_
  replace E := hid (E.out.trans hb)
  clear hb
  refine WE.call (d := some 8) rfl rfl (by rfl) (f := 15) (args := #[(.int .i64 (-7))]) (by go_simp) ?_
  refine (of_z (n := (-7)) (by decide) (by decide) _).mono ?_
  rintro e wn ⟨v1, rfl, x1, hb⟩
  obtain ⟨g1, A1, n1, c1, rfl⟩ := x1.shape
  refine ⟨_, rfl, hb, ?_⟩
  replace E := hid (E.out.trans hb)
  have Q1 := hid x1
  clear hb x1
  simp only [Act.put, List.setIfInBounds_toArray, List.set_cons_zero, List.set_cons_succ]
  refine WE.call (d := some 9) rfl rfl (by rfl) (f := 15) (args := #[(.int .i64 (-2))]) (by go_simp) ?_
  refine (of_z (n := (-2)) (by decide) (by decide) _).mono ?_
  rintro e wn ⟨v1, rfl, x1, hb⟩
  obtain ⟨g2, A2, n2, c2, rfl⟩ := x1.shape
  refine ⟨_, rfl, hb, ?_⟩
  replace E := hid (E.out.trans hb)
  replace Q1 := hid (Q1.out.up hb)
  have Q2 := hid x1
  clear hb x1
  simp only [Act.put, List.setIfInBounds_toArray, List.set_cons_zero, List.set_cons_succ]
  refine WE.call (d := some 10) rfl rfl (by rfl) (f := 8) (args := #[(.agg #[.bool g1, .slice A1 n1 c1]), (.agg #[.bool g2, .slice A2 n2 c2])]) (by go_simp) ?_
  refine (euclid_w Q1.out.worth Q2.out.worth (by omega) (by omega)).mono ?_
  rintro e wn ⟨v1, v2, rfl, x1, x2, hb⟩
  obtain ⟨g3, A3, n3, c3, rfl⟩ := x1.shape
  obtain ⟨g4, A4, n4, c4, rfl⟩ := x2.shape
  refine ⟨_, rfl, hb, ?_⟩
  replace E := hid (E.out.trans hb)
  replace Q1 := hid (Q1.out.up hb)
  replace Q2 := hid (Q2.out.up hb)
  have Q3 := hid x1
  have Q4 := hid x2
  clear hb x1 x2
  simp only [Act.put, List.setIfInBounds_toArray, List.set_cons_zero, List.set_cons_succ]
  clear Q1
  clear Q2
  refine WE.pure (d := some 7) rfl rfl (by rfl) (v := (.tuple #[(.agg #[.bool g3, .slice A3 n3 c3]), (.agg #[.bool g4, .slice A4 n4 c4])])) (fun w' hk => ?_) ?_
  · go_simp
  simp only [Act.put, List.setIfInBounds_toArray, List.set_cons_zero, List.set_cons_succ]
  refine WE.pure (d := some 11) rfl rfl (by rfl) (v := (.agg #[.bool g3, .slice A3 n3 c3])) (fun w' hk => ?_) ?_
  · go_simp
  simp only [Act.put, List.setIfInBounds_toArray, List.set_cons_zero, List.set_cons_succ]
  refine WE.pure (d := some 12) rfl rfl (by rfl) (v := (.agg #[.bool g4, .slice A4 n4 c4])) (fun w' hk => ?_) ?_
  · go_simp
  simp only [Act.put, List.setIfInBounds_toArray, List.set_cons_zero, List.set_cons_succ]
  refine WE.new (d := some 1) (cs := #[.bool false, .slice none 0 0]) (t := 24) (v := fun g => (.pointer (some ⟨g, 0, none⟩))) rfl rfl (by rfl) (fun w => by go_simp) fun gV1 wv hx0 hbox hge => ?_
  have HGV1 := hid (show w.heap.size ≤ gV1 by have := E.out.size; omega)
  replace E := hid (E.out.trans hx0)
  replace Q3 := hid (Q3.out.up hx0)
  replace Q4 := hid (Q4.out.up hx0)
  have V1 : Hid (Box wv gV1 #[.bool false, .slice none 0 0] 24) := hid hbox
  clear hx0 hbox hge
  simp only [Act.put, List.setIfInBounds_toArray, List.set_cons_zero, List.set_cons_succ]
  refine WE.new (d := some 2) (cs := #[.bool false, .slice none 0 0]) (t := 24) (v := fun g => (.pointer (some ⟨g, 0, none⟩))) rfl rfl (by rfl) (fun w => by go_simp) fun gV2 wv hx0 hbox hge => ?_
  have HNV2V1 := hid (show gV2 ≠ gV1 by have := V1.out.lt; omega)
  have HGV2 := hid (show w.heap.size ≤ gV2 by have := E.out.size; omega)
  replace E := hid (E.out.trans hx0)
  replace V1 := hid (V1.out.up hx0)
  replace Q3 := hid (Q3.out.up hx0)
  replace Q4 := hid (Q4.out.up hx0)
  have V2 : Hid (Box wv gV2 #[.bool false, .slice none 0 0] 24) := hid hbox
  clear hx0 hbox hge
  simp only [Act.put, List.setIfInBounds_toArray, List.set_cons_zero, List.set_cons_succ]
  refine WE.store2 (g := gV1) (x := .bool g3) (y := .slice A3 n3 c3) (t := 24) rfl rfl (by rfl) (fun w hb => ?_) V1.out (by rfl) fun ws hk hs => ?_
  · have c0 := hb.cell (o := 0) (v := .bool false) rfl; have f0 := hb.free 0; have c1 := hb.cell (o := 1) (v := .slice none 0 0) rfl; have f1 := hb.free 1; go_simp
  intro hbx
  replace E := hid (E.out.keptG hk HGV1.out)
  replace V1 := hid hbx
  replace V2 := hid (V2.out.kept hk (by simpa using HNV2V1.out))
  replace Q3 := hid (Q3.out.kz hs)
  replace Q4 := hid (Q4.out.kz hs)
  clear hk hs hbx
  refine WE.store2 (g := gV2) (x := .bool g4) (y := .slice A4 n4 c4) (t := 24) rfl rfl (by rfl) (fun w hb => ?_) V2.out (by rfl) fun ws hk hs => ?_
  · have c0 := hb.cell (o := 0) (v := .bool false) rfl; have f0 := hb.free 0; have c1 := hb.cell (o := 1) (v := .slice none 0 0) rfl; have f1 := hb.free 1; go_simp
  intro hbx
  replace E := hid (E.out.keptG hk HGV2.out)
  replace V1 := hid (V1.out.kept hk (by simpa using HNV2V1.out.symm))
  replace V2 := hid hbx
  replace Q3 := hid (Q3.out.kz hs)
  replace Q4 := hid (Q4.out.kz hs)
  clear hk hs hbx
  refine WE.done ?_
  go_upto_region 2 with (fail)
  refine wp_region_T [(0, 1), (1, 1), (2, 1), (3, 0), (4, 0), (5, 0), (6, 1), (7, 1), (8, 4), (9, 4)] (by kernel_rfl) fun wd hb => ?_
  replace E := hid (E.out.trans hb)
  replace V1 := hid (V1.out.up hb)
  replace V2 := hid (V2.out.up hb)
  replace Q3 := hid (Q3.out.up hb)
  replace Q4 := hid (Q4.out.up hb)
  clear hb
  refine WE.call (d := some 14) rfl rfl (by rfl) (f := 15) (args := #[(.int .i64 (-7))]) (by go_simp) ?_
  refine (of_z (n := (-7)) (by decide) (by decide) _).mono ?_
  rintro e wn ⟨v1, rfl, x1, hb⟩
  obtain ⟨g5, A5, n5, c5, rfl⟩ := x1.shape
  refine ⟨_, rfl, hb, ?_⟩
  replace E := hid (E.out.trans hb)
  replace V1 := hid (V1.out.up hb)
  replace V2 := hid (V2.out.up hb)
  replace Q3 := hid (Q3.out.up hb)
  replace Q4 := hid (Q4.out.up hb)
  have Q5 := hid x1
  clear hb x1
  simp only [Act.put, List.setIfInBounds_toArray, List.set_cons_zero, List.set_cons_succ]
  refine WE.call (d := some 15) rfl rfl (by rfl) (f := 15) (args := #[(.int .i64 (2))]) (by go_simp) ?_
  refine (of_z (n := (2)) (by decide) (by decide) _).mono ?_
  rintro e wn ⟨v1, rfl, x1, hb⟩
  obtain ⟨g6, A6, n6, c6, rfl⟩ := x1.shape
  refine ⟨_, rfl, hb, ?_⟩
  replace E := hid (E.out.trans hb)
  replace V1 := hid (V1.out.up hb)
  replace V2 := hid (V2.out.up hb)
  replace Q3 := hid (Q3.out.up hb)
  replace Q4 := hid (Q4.out.up hb)
  replace Q5 := hid (Q5.out.up hb)
  have Q6 := hid x1
  clear hb x1
  simp only [Act.put, List.setIfInBounds_toArray, List.set_cons_zero, List.set_cons_succ]
  refine WE.call (d := some 16) rfl rfl (by rfl) (f := 6) (args := #[(.agg #[.bool g5, .slice A5 n5 c5]), (.agg #[.bool g6, .slice A6 n6 c6])]) (by go_simp) ?_
  refine (floor_w Q5.out.worth Q6.out.worth (by omega) (by omega)).mono ?_
  rintro e wn ⟨v1, v2, rfl, x1, x2, hb⟩
  obtain ⟨g7, A7, n7, c7, rfl⟩ := x1.shape
  obtain ⟨g8, A8, n8, c8, rfl⟩ := x2.shape
  refine ⟨_, rfl, hb, ?_⟩
  replace E := hid (E.out.trans hb)
  replace V1 := hid (V1.out.up hb)
  replace V2 := hid (V2.out.up hb)
  replace Q3 := hid (Q3.out.up hb)
  replace Q4 := hid (Q4.out.up hb)
  replace Q5 := hid (Q5.out.up hb)
  replace Q6 := hid (Q6.out.up hb)
  have Q7 := hid x1
  have Q8 := hid x2
  clear hb x1 x2
  simp only [Act.put, List.setIfInBounds_toArray, List.set_cons_zero, List.set_cons_succ]
  clear Q5
  clear Q6
  refine WE.pure (d := some 13) rfl rfl (by rfl) (v := (.tuple #[(.agg #[.bool g7, .slice A7 n7 c7]), (.agg #[.bool g8, .slice A8 n8 c8])])) (fun w' hk => ?_) ?_
  · go_simp
  simp only [Act.put, List.setIfInBounds_toArray, List.set_cons_zero, List.set_cons_succ]
  refine WE.pure (d := some 17) rfl rfl (by rfl) (v := (.agg #[.bool g7, .slice A7 n7 c7])) (fun w' hk => ?_) ?_
  · go_simp
  simp only [Act.put, List.setIfInBounds_toArray, List.set_cons_zero, List.set_cons_succ]
  refine WE.pure (d := some 18) rfl rfl (by rfl) (v := (.agg #[.bool g8, .slice A8 n8 c8])) (fun w' hk => ?_) ?_
  · go_simp
  simp only [Act.put, List.setIfInBounds_toArray, List.set_cons_zero, List.set_cons_succ]
  refine WE.new (d := some 3) (cs := #[.bool false, .slice none 0 0]) (t := 24) (v := fun g => (.pointer (some ⟨g, 0, none⟩))) rfl rfl (by rfl) (fun w => by go_simp) fun gV3 wv hx0 hbox hge => ?_
  have HNV3V1 := hid (show gV3 ≠ gV1 by have := V1.out.lt; omega)
  have HNV3V2 := hid (show gV3 ≠ gV2 by have := V2.out.lt; omega)
  have HGV3 := hid (show w.heap.size ≤ gV3 by have := E.out.size; omega)
  replace E := hid (E.out.trans hx0)
  replace V1 := hid (V1.out.up hx0)
  replace V2 := hid (V2.out.up hx0)
  replace Q3 := hid (Q3.out.up hx0)
  replace Q4 := hid (Q4.out.up hx0)
  replace Q7 := hid (Q7.out.up hx0)
  replace Q8 := hid (Q8.out.up hx0)
  have V3 : Hid (Box wv gV3 #[.bool false, .slice none 0 0] 24) := hid hbox
  clear hx0 hbox hge
  simp only [Act.put, List.setIfInBounds_toArray, List.set_cons_zero, List.set_cons_succ]
  refine WE.new (d := some 4) (cs := #[.bool false, .slice none 0 0]) (t := 24) (v := fun g => (.pointer (some ⟨g, 0, none⟩))) rfl rfl (by rfl) (fun w => by go_simp) fun gV4 wv hx0 hbox hge => ?_
  have HNV4V1 := hid (show gV4 ≠ gV1 by have := V1.out.lt; omega)
  have HNV4V2 := hid (show gV4 ≠ gV2 by have := V2.out.lt; omega)
  have HNV4V3 := hid (show gV4 ≠ gV3 by have := V3.out.lt; omega)
  have HGV4 := hid (show w.heap.size ≤ gV4 by have := E.out.size; omega)
  replace E := hid (E.out.trans hx0)
  replace V1 := hid (V1.out.up hx0)
  replace V2 := hid (V2.out.up hx0)
  replace V3 := hid (V3.out.up hx0)
  replace Q3 := hid (Q3.out.up hx0)
  replace Q4 := hid (Q4.out.up hx0)
  replace Q7 := hid (Q7.out.up hx0)
  replace Q8 := hid (Q8.out.up hx0)
  have V4 : Hid (Box wv gV4 #[.bool false, .slice none 0 0] 24) := hid hbox
  clear hx0 hbox hge
  simp only [Act.put, List.setIfInBounds_toArray, List.set_cons_zero, List.set_cons_succ]
  refine WE.store2 (g := gV3) (x := .bool g7) (y := .slice A7 n7 c7) (t := 24) rfl rfl (by rfl) (fun w hb => ?_) V3.out (by rfl) fun ws hk hs => ?_
  · have c0 := hb.cell (o := 0) (v := .bool false) rfl; have f0 := hb.free 0; have c1 := hb.cell (o := 1) (v := .slice none 0 0) rfl; have f1 := hb.free 1; go_simp
  intro hbx
  replace E := hid (E.out.keptG hk HGV3.out)
  replace V1 := hid (V1.out.kept hk (by simpa using HNV3V1.out.symm))
  replace V2 := hid (V2.out.kept hk (by simpa using HNV3V2.out.symm))
  replace V3 := hid hbx
  replace V4 := hid (V4.out.kept hk (by simpa using HNV4V3.out))
  replace Q3 := hid (Q3.out.kz hs)
  replace Q4 := hid (Q4.out.kz hs)
  replace Q7 := hid (Q7.out.kz hs)
  replace Q8 := hid (Q8.out.kz hs)
  clear hk hs hbx
  refine WE.store2 (g := gV4) (x := .bool g8) (y := .slice A8 n8 c8) (t := 24) rfl rfl (by rfl) (fun w hb => ?_) V4.out (by rfl) fun ws hk hs => ?_
  · have c0 := hb.cell (o := 0) (v := .bool false) rfl; have f0 := hb.free 0; have c1 := hb.cell (o := 1) (v := .slice none 0 0) rfl; have f1 := hb.free 1; go_simp
  intro hbx
  replace E := hid (E.out.keptG hk HGV4.out)
  replace V1 := hid (V1.out.kept hk (by simpa using HNV4V1.out.symm))
  replace V2 := hid (V2.out.kept hk (by simpa using HNV4V2.out.symm))
  replace V3 := hid (V3.out.kept hk (by simpa using HNV4V3.out.symm))
  replace V4 := hid hbx
  replace Q3 := hid (Q3.out.kz hs)
  replace Q4 := hid (Q4.out.kz hs)
  replace Q7 := hid (Q7.out.kz hs)
  replace Q8 := hid (Q8.out.kz hs)
  clear hk hs hbx
  refine WE.done ?_
  go_upto_region 3 with (fail)
  refine wp_region_T [(0, 1), (1, 1), (2, 0), (3, 0), (4, 0), (5, 0), (6, 0)] (by kernel_rfl) fun wd hb => ?_
  replace E := hid (E.out.trans hb)
  replace V1 := hid (V1.out.up hb)
  replace V2 := hid (V2.out.up hb)
  replace V3 := hid (V3.out.up hb)
  replace V4 := hid (V4.out.up hb)
  replace Q3 := hid (Q3.out.up hb)
  replace Q4 := hid (Q4.out.up hb)
  replace Q7 := hid (Q7.out.up hb)
  replace Q8 := hid (Q8.out.up hb)
  clear hb
  refine WE.call (d := some 20) rfl rfl (by rfl) (f := 15) (args := #[(.int .i64 (-9223372036854775808))]) (by go_simp) ?_
  refine (of_z (n := (-9223372036854775808)) (by decide) (by decide) _).mono ?_
  rintro e wn ⟨v1, rfl, x1, hb⟩
  obtain ⟨g9, A9, n9, c9, rfl⟩ := x1.shape
  refine ⟨_, rfl, hb, ?_⟩
  replace E := hid (E.out.trans hb)
  replace V1 := hid (V1.out.up hb)
  replace V2 := hid (V2.out.up hb)
  replace V3 := hid (V3.out.up hb)
  replace V4 := hid (V4.out.up hb)
  replace Q3 := hid (Q3.out.up hb)
  replace Q4 := hid (Q4.out.up hb)
  replace Q7 := hid (Q7.out.up hb)
  replace Q8 := hid (Q8.out.up hb)
  have Q9 := hid x1
  clear hb x1
  simp only [Act.put, List.setIfInBounds_toArray, List.set_cons_zero, List.set_cons_succ]
  refine WE.call (d := some 21) rfl rfl (by rfl) (f := 10) (args := #[(.agg #[.bool g9, .slice A9 n9 c9])]) (by go_simp) ?_
  refine (small_yes Q9.out.worth (by unfold M.fits; omega)).mono ?_
  rintro e wn ⟨rfl, hb⟩
  refine ⟨_, rfl, hb, ?_⟩
  replace E := hid (E.out.trans hb)
  replace V1 := hid (V1.out.up hb)
  replace V2 := hid (V2.out.up hb)
  replace V3 := hid (V3.out.up hb)
  replace V4 := hid (V4.out.up hb)
  replace Q3 := hid (Q3.out.up hb)
  replace Q4 := hid (Q4.out.up hb)
  replace Q7 := hid (Q7.out.up hb)
  replace Q8 := hid (Q8.out.up hb)
  replace Q9 := hid (Q9.out.up hb)
  clear hb
  simp only [Act.put, List.setIfInBounds_toArray, List.set_cons_zero, List.set_cons_succ]
  clear Q9
  refine WE.pure (d := some 19) rfl rfl (by rfl) (v := (.tuple #[(.int .i64 (-9223372036854775808)), (.bool true)])) (fun w' hk => ?_) ?_
  · go_simp
  simp only [Act.put, List.setIfInBounds_toArray, List.set_cons_zero, List.set_cons_succ]
  refine WE.pure (d := some 22) rfl rfl (by rfl) (v := (.int .i64 (-9223372036854775808))) (fun w' hk => ?_) ?_
  · go_simp
  simp only [Act.put, List.setIfInBounds_toArray, List.set_cons_zero, List.set_cons_succ]
  refine WE.pure (d := some 23) rfl rfl (by rfl) (v := (.bool true)) (fun w' hk => ?_) ?_
  · go_simp
  simp only [Act.put, List.setIfInBounds_toArray, List.set_cons_zero, List.set_cons_succ]
  refine WE.pure (d := some 5) rfl rfl (by rfl) (v := (.int .i64 (-9223372036854775808))) (fun w' hk => ?_) ?_
  · go_simp
  simp only [Act.put, List.setIfInBounds_toArray, List.set_cons_zero, List.set_cons_succ]
  refine WE.pure (d := some 6) rfl rfl (by rfl) (v := (.bool true)) (fun w' hk => ?_) ?_
  · go_simp
  simp only [Act.put, List.setIfInBounds_toArray, List.set_cons_zero, List.set_cons_succ]
  refine WE.done ?_
  go_upto_region 4 with (fail)
  refine wp_region_E [(0, 0), (1, 1), (2, 1), (3, 0), (4, 0), (5, 1), (6, 1), (7, 0), (8, 0), (9, 0), (10, 1), (11, 1), (12, 0), (13, 0), (14, 0), (15, 1), (16, 1), (17, 0), (18, 0), (19, 0), (20, 0), (21, 0), (22, 0), (23, 0), (24, 0), (25, 0), (26, 1), (27, 1), (28, 0), (29, 0), (30, 0), (31, 1), (32, 1), (33, 0), (34, 0), (35, 0), (36, 1), (37, 0), (38, 0), (39, 0), (40, 1), (41, 1), (42, 1), (43, 1), (44, 1), (45, 0), (46, 0), (47, 0)] (fun _ => (0, #[])) rfl (by kernel_rfl) (by intro j hj; cases hj) (fun _ _ d _ _ => by cases d <;> exact Iff.rfl) fun wd hb => ?_
  replace E := hid (E.out.trans hb)
  replace V1 := hid (V1.out.up hb)
  replace V2 := hid (V2.out.up hb)
  replace V3 := hid (V3.out.up hb)
  replace V4 := hid (V4.out.up hb)
  replace Q3 := hid (Q3.out.up hb)
  replace Q4 := hid (Q4.out.up hb)
  replace Q7 := hid (Q7.out.up hb)
  replace Q8 := hid (Q8.out.up hb)
  clear hb
  refine WE.pure (d := some 24) rfl rfl (by rfl) (v := (.agg #[.bool g3, .slice A3 n3 c3])) (fun w' hk => ?_) ?_
  · have c0 := hk.cell (V1.out.cell (o := 0) (v := .bool g3) rfl); have c1 := hk.cell (V1.out.cell (o := 1) (v := .slice A3 n3 c3) rfl); go_simp
  simp only [Act.put, List.setIfInBounds_toArray, List.set_cons_zero, List.set_cons_succ]
  refine WE.call (d := some 25) rfl rfl (by rfl) (f := 15) (args := #[(.int .i64 (4))]) (by go_simp) ?_
  refine (of_z (n := (4)) (by decide) (by decide) _).mono ?_
  rintro e wn ⟨v1, rfl, x1, hb⟩
  obtain ⟨g10, A10, n10, c10, rfl⟩ := x1.shape
  refine ⟨_, rfl, hb, ?_⟩
  replace E := hid (E.out.trans hb)
  replace V1 := hid (V1.out.up hb)
  replace V2 := hid (V2.out.up hb)
  replace V3 := hid (V3.out.up hb)
  replace V4 := hid (V4.out.up hb)
  replace Q3 := hid (Q3.out.up hb)
  replace Q4 := hid (Q4.out.up hb)
  replace Q7 := hid (Q7.out.up hb)
  replace Q8 := hid (Q8.out.up hb)
  have Q10 := hid x1
  clear hb x1
  simp only [Act.put, List.setIfInBounds_toArray, List.set_cons_zero, List.set_cons_succ]
  refine WE.call (d := some 26) rfl rfl (by rfl) (f := 21) (args := #[(.agg #[.bool g3, .slice A3 n3 c3]), (.agg #[.bool g10, .slice A10 n10 c10])]) (by go_simp) ?_
  refine (same_w Q3.out.worth Q10.out.worth (b := true) (decide_eq_true (by decide))).mono ?_
  rintro e wn ⟨rfl, hb⟩
  refine ⟨_, rfl, hb, ?_⟩
  replace E := hid (E.out.trans hb)
  replace V1 := hid (V1.out.up hb)
  replace V2 := hid (V2.out.up hb)
  replace V3 := hid (V3.out.up hb)
  replace V4 := hid (V4.out.up hb)
  replace Q3 := hid (Q3.out.up hb)
  replace Q4 := hid (Q4.out.up hb)
  replace Q7 := hid (Q7.out.up hb)
  replace Q8 := hid (Q8.out.up hb)
  replace Q10 := hid (Q10.out.up hb)
  clear hb
  simp only [Act.put, List.setIfInBounds_toArray, List.set_cons_zero, List.set_cons_succ]
  clear Q10
  refine WE.pure (d := some 27) rfl rfl (by rfl) (v := (.bool true)) (fun w' hk => ?_) ?_
  · go_simp
  simp only [Act.put, List.setIfInBounds_toArray, List.set_cons_zero, List.set_cons_succ]
  refine WE.pure (d := some 28) rfl rfl (by rfl) (v := (.agg #[.bool g4, .slice A4 n4 c4])) (fun w' hk => ?_) ?_
  · have c0 := hk.cell (V2.out.cell (o := 0) (v := .bool g4) rfl); have c1 := hk.cell (V2.out.cell (o := 1) (v := .slice A4 n4 c4) rfl); go_simp
  simp only [Act.put, List.setIfInBounds_toArray, List.set_cons_zero, List.set_cons_succ]
  refine WE.call (d := some 29) rfl rfl (by rfl) (f := 15) (args := #[(.int .i64 (1))]) (by go_simp) ?_
  refine (of_z (n := (1)) (by decide) (by decide) _).mono ?_
  rintro e wn ⟨v1, rfl, x1, hb⟩
  obtain ⟨g11, A11, n11, c11, rfl⟩ := x1.shape
  refine ⟨_, rfl, hb, ?_⟩
  replace E := hid (E.out.trans hb)
  replace V1 := hid (V1.out.up hb)
  replace V2 := hid (V2.out.up hb)
  replace V3 := hid (V3.out.up hb)
  replace V4 := hid (V4.out.up hb)
  replace Q3 := hid (Q3.out.up hb)
  replace Q4 := hid (Q4.out.up hb)
  replace Q7 := hid (Q7.out.up hb)
  replace Q8 := hid (Q8.out.up hb)
  have Q11 := hid x1
  clear hb x1
  simp only [Act.put, List.setIfInBounds_toArray, List.set_cons_zero, List.set_cons_succ]
  refine WE.call (d := some 30) rfl rfl (by rfl) (f := 21) (args := #[(.agg #[.bool g4, .slice A4 n4 c4]), (.agg #[.bool g11, .slice A11 n11 c11])]) (by go_simp) ?_
  refine (same_w Q4.out.worth Q11.out.worth (b := true) (decide_eq_true (by decide))).mono ?_
  rintro e wn ⟨rfl, hb⟩
  refine ⟨_, rfl, hb, ?_⟩
  replace E := hid (E.out.trans hb)
  replace V1 := hid (V1.out.up hb)
  replace V2 := hid (V2.out.up hb)
  replace V3 := hid (V3.out.up hb)
  replace V4 := hid (V4.out.up hb)
  replace Q3 := hid (Q3.out.up hb)
  replace Q4 := hid (Q4.out.up hb)
  replace Q7 := hid (Q7.out.up hb)
  replace Q8 := hid (Q8.out.up hb)
  replace Q11 := hid (Q11.out.up hb)
  clear hb
  simp only [Act.put, List.setIfInBounds_toArray, List.set_cons_zero, List.set_cons_succ]
  clear Q11
  refine WE.pure (d := some 31) rfl rfl (by rfl) (v := (.bool true)) (fun w' hk => ?_) ?_
  · go_simp
  simp only [Act.put, List.setIfInBounds_toArray, List.set_cons_zero, List.set_cons_succ]
  refine WE.pure (d := some 32) rfl rfl (by rfl) (v := (.bool true)) (fun w' hk => ?_) ?_
  · go_simp
  simp only [Act.put, List.setIfInBounds_toArray, List.set_cons_zero, List.set_cons_succ]
  refine WE.pure (d := some 33) rfl rfl (by rfl) (v := (.agg #[.bool g7, .slice A7 n7 c7])) (fun w' hk => ?_) ?_
  · have c0 := hk.cell (V3.out.cell (o := 0) (v := .bool g7) rfl); have c1 := hk.cell (V3.out.cell (o := 1) (v := .slice A7 n7 c7) rfl); go_simp
  simp only [Act.put, List.setIfInBounds_toArray, List.set_cons_zero, List.set_cons_succ]
  refine WE.call (d := some 34) rfl rfl (by rfl) (f := 15) (args := #[(.int .i64 (-4))]) (by go_simp) ?_
  refine (of_z (n := (-4)) (by decide) (by decide) _).mono ?_
  rintro e wn ⟨v1, rfl, x1, hb⟩
  obtain ⟨g12, A12, n12, c12, rfl⟩ := x1.shape
  refine ⟨_, rfl, hb, ?_⟩
  replace E := hid (E.out.trans hb)
  replace V1 := hid (V1.out.up hb)
  replace V2 := hid (V2.out.up hb)
  replace V3 := hid (V3.out.up hb)
  replace V4 := hid (V4.out.up hb)
  replace Q3 := hid (Q3.out.up hb)
  replace Q4 := hid (Q4.out.up hb)
  replace Q7 := hid (Q7.out.up hb)
  replace Q8 := hid (Q8.out.up hb)
  have Q12 := hid x1
  clear hb x1
  simp only [Act.put, List.setIfInBounds_toArray, List.set_cons_zero, List.set_cons_succ]
  refine WE.call (d := some 35) rfl rfl (by rfl) (f := 21) (args := #[(.agg #[.bool g7, .slice A7 n7 c7]), (.agg #[.bool g12, .slice A12 n12 c12])]) (by go_simp) ?_
  refine (same_w Q7.out.worth Q12.out.worth (b := true) (decide_eq_true (by decide))).mono ?_
  rintro e wn ⟨rfl, hb⟩
  refine ⟨_, rfl, hb, ?_⟩
  replace E := hid (E.out.trans hb)
  replace V1 := hid (V1.out.up hb)
  replace V2 := hid (V2.out.up hb)
  replace V3 := hid (V3.out.up hb)
  replace V4 := hid (V4.out.up hb)
  replace Q3 := hid (Q3.out.up hb)
  replace Q4 := hid (Q4.out.up hb)
  replace Q7 := hid (Q7.out.up hb)
  replace Q8 := hid (Q8.out.up hb)
  replace Q12 := hid (Q12.out.up hb)
  clear hb
  simp only [Act.put, List.setIfInBounds_toArray, List.set_cons_zero, List.set_cons_succ]
  clear Q12
  refine WE.pure (d := some 36) rfl rfl (by rfl) (v := (.bool true)) (fun w' hk => ?_) ?_
  · go_simp
  simp only [Act.put, List.setIfInBounds_toArray, List.set_cons_zero, List.set_cons_succ]
  refine WE.pure (d := some 37) rfl rfl (by rfl) (v := (.bool true)) (fun w' hk => ?_) ?_
  · go_simp
  simp only [Act.put, List.setIfInBounds_toArray, List.set_cons_zero, List.set_cons_succ]
  refine WE.pure (d := some 38) rfl rfl (by rfl) (v := (.agg #[.bool g8, .slice A8 n8 c8])) (fun w' hk => ?_) ?_
  · have c0 := hk.cell (V4.out.cell (o := 0) (v := .bool g8) rfl); have c1 := hk.cell (V4.out.cell (o := 1) (v := .slice A8 n8 c8) rfl); go_simp
  simp only [Act.put, List.setIfInBounds_toArray, List.set_cons_zero, List.set_cons_succ]
  refine WE.call (d := some 39) rfl rfl (by rfl) (f := 15) (args := #[(.int .i64 (1))]) (by go_simp) ?_
  refine (of_z (n := (1)) (by decide) (by decide) _).mono ?_
  rintro e wn ⟨v1, rfl, x1, hb⟩
  obtain ⟨g13, A13, n13, c13, rfl⟩ := x1.shape
  refine ⟨_, rfl, hb, ?_⟩
  replace E := hid (E.out.trans hb)
  replace V1 := hid (V1.out.up hb)
  replace V2 := hid (V2.out.up hb)
  replace V3 := hid (V3.out.up hb)
  replace V4 := hid (V4.out.up hb)
  replace Q3 := hid (Q3.out.up hb)
  replace Q4 := hid (Q4.out.up hb)
  replace Q7 := hid (Q7.out.up hb)
  replace Q8 := hid (Q8.out.up hb)
  have Q13 := hid x1
  clear hb x1
  simp only [Act.put, List.setIfInBounds_toArray, List.set_cons_zero, List.set_cons_succ]
  refine WE.call (d := some 40) rfl rfl (by rfl) (f := 21) (args := #[(.agg #[.bool g8, .slice A8 n8 c8]), (.agg #[.bool g13, .slice A13 n13 c13])]) (by go_simp) ?_
  refine (same_w Q8.out.worth Q13.out.worth (b := true) (decide_eq_true (by decide))).mono ?_
  rintro e wn ⟨rfl, hb⟩
  refine ⟨_, rfl, hb, ?_⟩
  replace E := hid (E.out.trans hb)
  replace V1 := hid (V1.out.up hb)
  replace V2 := hid (V2.out.up hb)
  replace V3 := hid (V3.out.up hb)
  replace V4 := hid (V4.out.up hb)
  replace Q3 := hid (Q3.out.up hb)
  replace Q4 := hid (Q4.out.up hb)
  replace Q7 := hid (Q7.out.up hb)
  replace Q8 := hid (Q8.out.up hb)
  replace Q13 := hid (Q13.out.up hb)
  clear hb
  simp only [Act.put, List.setIfInBounds_toArray, List.set_cons_zero, List.set_cons_succ]
  clear Q13
  refine WE.pure (d := some 41) rfl rfl (by rfl) (v := (.bool true)) (fun w' hk => ?_) ?_
  · go_simp
  simp only [Act.put, List.setIfInBounds_toArray, List.set_cons_zero, List.set_cons_succ]
  refine WE.pure (d := some 42) rfl rfl (by rfl) (v := (.bool true)) (fun w' hk => ?_) ?_
  · go_simp
  simp only [Act.put, List.setIfInBounds_toArray, List.set_cons_zero, List.set_cons_succ]
  refine WE.pure (d := some 43) rfl rfl (by rfl) (v := (.bool true)) (fun w' hk => ?_) ?_
  · go_simp
  simp only [Act.put, List.setIfInBounds_toArray, List.set_cons_zero, List.set_cons_succ]
  refine WE.pure (d := some 44) rfl rfl (by rfl) (v := (.bool true)) (fun w' hk => ?_) ?_
  · go_simp
  simp only [Act.put, List.setIfInBounds_toArray, List.set_cons_zero, List.set_cons_succ]
  refine WE.pure (d := some 45) rfl rfl (by rfl) (v := (.bool true)) (fun w' hk => ?_) ?_
  · go_simp
  simp only [Act.put, List.setIfInBounds_toArray, List.set_cons_zero, List.set_cons_succ]
  refine WE.pure (d := some 46) rfl rfl (by rfl) (v := (.int .i64 (-9223372036854775808))) (fun w' hk => ?_) ?_
  · go_simp
  simp only [Act.put, List.setIfInBounds_toArray, List.set_cons_zero, List.set_cons_succ]
  refine WE.pure (d := some 47) rfl rfl (by rfl) (v := (.bool true)) (fun w' hk => ?_) ?_
  · go_simp
  simp only [Act.put, List.setIfInBounds_toArray, List.set_cons_zero, List.set_cons_succ]
  refine WE.pure (d := some 48) rfl rfl (by rfl) (v := (.bool true)) (fun w' hk => ?_) ?_
  · go_simp
  simp only [Act.put, List.setIfInBounds_toArray, List.set_cons_zero, List.set_cons_succ]
  refine WE.pure (d := some 49) rfl rfl (by rfl) (v := (.bool true)) (fun w' hk => ?_) ?_
  · go_simp
  simp only [Act.put, List.setIfInBounds_toArray, List.set_cons_zero, List.set_cons_succ]
  refine WE.call (d := some 50) rfl rfl (by rfl) (f := 15) (args := #[(.int .i64 (-3))]) (by go_simp) ?_
  refine (of_z (n := (-3)) (by decide) (by decide) _).mono ?_
  rintro e wn ⟨v1, rfl, x1, hb⟩
  obtain ⟨g14, A14, n14, c14, rfl⟩ := x1.shape
  refine ⟨_, rfl, hb, ?_⟩
  replace E := hid (E.out.trans hb)
  replace V1 := hid (V1.out.up hb)
  replace V2 := hid (V2.out.up hb)
  replace V3 := hid (V3.out.up hb)
  replace V4 := hid (V4.out.up hb)
  replace Q3 := hid (Q3.out.up hb)
  replace Q4 := hid (Q4.out.up hb)
  replace Q7 := hid (Q7.out.up hb)
  replace Q8 := hid (Q8.out.up hb)
  have Q14 := hid x1
  clear hb x1
  simp only [Act.put, List.setIfInBounds_toArray, List.set_cons_zero, List.set_cons_succ]
  refine WE.call (d := some 51) rfl rfl (by rfl) (f := 17) (args := #[(.agg #[.bool g14, .slice A14 n14 c14])]) (by go_simp) ?_
  refine (sign_e Q14.out.worth (s := (-1)) (by decide)).mono ?_
  rintro e wn ⟨rfl, hb⟩
  refine ⟨_, rfl, hb, ?_⟩
  replace E := hid (E.out.trans hb)
  replace V1 := hid (V1.out.up hb)
  replace V2 := hid (V2.out.up hb)
  replace V3 := hid (V3.out.up hb)
  replace V4 := hid (V4.out.up hb)
  replace Q3 := hid (Q3.out.up hb)
  replace Q4 := hid (Q4.out.up hb)
  replace Q7 := hid (Q7.out.up hb)
  replace Q8 := hid (Q8.out.up hb)
  replace Q14 := hid (Q14.out.up hb)
  clear hb
  simp only [Act.put, List.setIfInBounds_toArray, List.set_cons_zero, List.set_cons_succ]
  clear Q14
  refine WE.pure (d := some 52) rfl rfl (by rfl) (v := (.bool true)) (fun w' hk => ?_) ?_
  · go_simp
  simp only [Act.put, List.setIfInBounds_toArray, List.set_cons_zero, List.set_cons_succ]
  refine WE.pure (d := some 53) rfl rfl (by rfl) (v := (.bool true)) (fun w' hk => ?_) ?_
  · go_simp
  simp only [Act.put, List.setIfInBounds_toArray, List.set_cons_zero, List.set_cons_succ]
  refine WE.pure (d := some 54) rfl rfl (by rfl) (v := (.bool true)) (fun w' hk => ?_) ?_
  · go_simp
  simp only [Act.put, List.setIfInBounds_toArray, List.set_cons_zero, List.set_cons_succ]
  refine WE.call (d := some 55) rfl rfl (by rfl) (f := 15) (args := #[(.int .i64 (5))]) (by go_simp) ?_
  refine (of_z (n := (5)) (by decide) (by decide) _).mono ?_
  rintro e wn ⟨v1, rfl, x1, hb⟩
  obtain ⟨g15, A15, n15, c15, rfl⟩ := x1.shape
  refine ⟨_, rfl, hb, ?_⟩
  replace E := hid (E.out.trans hb)
  replace V1 := hid (V1.out.up hb)
  replace V2 := hid (V2.out.up hb)
  replace V3 := hid (V3.out.up hb)
  replace V4 := hid (V4.out.up hb)
  replace Q3 := hid (Q3.out.up hb)
  replace Q4 := hid (Q4.out.up hb)
  replace Q7 := hid (Q7.out.up hb)
  replace Q8 := hid (Q8.out.up hb)
  have Q15 := hid x1
  clear hb x1
  simp only [Act.put, List.setIfInBounds_toArray, List.set_cons_zero, List.set_cons_succ]
  refine WE.call (d := some 56) rfl rfl (by rfl) (f := 12) (args := #[(.agg #[.bool g15, .slice A15 n15 c15])]) (by go_simp) ?_
  refine (isZ_true Q15.out).mono ?_
  rintro e wn ⟨rfl, hb⟩
  refine ⟨_, rfl, hb, ?_⟩
  replace E := hid (E.out.trans hb)
  replace V1 := hid (V1.out.up hb)
  replace V2 := hid (V2.out.up hb)
  replace V3 := hid (V3.out.up hb)
  replace V4 := hid (V4.out.up hb)
  replace Q3 := hid (Q3.out.up hb)
  replace Q4 := hid (Q4.out.up hb)
  replace Q7 := hid (Q7.out.up hb)
  replace Q8 := hid (Q8.out.up hb)
  replace Q15 := hid (Q15.out.up hb)
  clear hb
  simp only [Act.put, List.setIfInBounds_toArray, List.set_cons_zero, List.set_cons_succ]
  clear Q15
  refine WE.pure (d := some 57) rfl rfl (by rfl) (v := (.bool true)) (fun w' hk => ?_) ?_
  · go_simp
  simp only [Act.put, List.setIfInBounds_toArray, List.set_cons_zero, List.set_cons_succ]
  refine WE.pure (d := some 58) rfl rfl (by rfl) (v := (.bool true)) (fun w' hk => ?_) ?_
  · go_simp
  simp only [Act.put, List.setIfInBounds_toArray, List.set_cons_zero, List.set_cons_succ]
  refine WE.pure (d := some 59) rfl rfl (by rfl) (v := (.agg #[.bool true, .slice none 0 0])) (fun w' hk => ?_) ?_
  · go_simp
  simp only [Act.put, List.setIfInBounds_toArray, List.set_cons_zero, List.set_cons_succ]
  refine WE.call (d := some 60) rfl rfl (by rfl) (f := 12) (args := #[(.agg #[.bool true, .slice none 0 0])]) (by go_simp) ?_
  refine (wIs_any (l := []) (Num.nil _ _) (b := false) rfl).mono ?_
  rintro e wn ⟨rfl, hb⟩
  refine ⟨_, rfl, hb, ?_⟩
  replace E := hid (E.out.trans hb)
  replace V1 := hid (V1.out.up hb)
  replace V2 := hid (V2.out.up hb)
  replace V3 := hid (V3.out.up hb)
  replace V4 := hid (V4.out.up hb)
  replace Q3 := hid (Q3.out.up hb)
  replace Q4 := hid (Q4.out.up hb)
  replace Q7 := hid (Q7.out.up hb)
  replace Q8 := hid (Q8.out.up hb)
  clear hb
  simp only [Act.put, List.setIfInBounds_toArray, List.set_cons_zero, List.set_cons_succ]
  refine WE.pure (d := some 61) rfl rfl (by rfl) (v := (.bool true)) (fun w' hk => ?_) ?_
  · go_simp
  simp only [Act.put, List.setIfInBounds_toArray, List.set_cons_zero, List.set_cons_succ]
  refine WE.pure (d := some 62) rfl rfl (by rfl) (v := (.bool true)) (fun w' hk => ?_) ?_
  · go_simp
  simp only [Act.put, List.setIfInBounds_toArray, List.set_cons_zero, List.set_cons_succ]
  refine WE.pure (d := some 63) rfl rfl (by rfl) (v := (.bool true)) (fun w' hk => ?_) ?_
  · go_simp
  simp only [Act.put, List.setIfInBounds_toArray, List.set_cons_zero, List.set_cons_succ]
  refine WE.call (d := some 64) rfl rfl (by rfl) (f := 15) (args := #[(.int .i64 (2))]) (by go_simp) ?_
  refine (of_z (n := (2)) (by decide) (by decide) _).mono ?_
  rintro e wn ⟨v1, rfl, x1, hb⟩
  obtain ⟨g16, A16, n16, c16, rfl⟩ := x1.shape
  refine ⟨_, rfl, hb, ?_⟩
  replace E := hid (E.out.trans hb)
  replace V1 := hid (V1.out.up hb)
  replace V2 := hid (V2.out.up hb)
  replace V3 := hid (V3.out.up hb)
  replace V4 := hid (V4.out.up hb)
  replace Q3 := hid (Q3.out.up hb)
  replace Q4 := hid (Q4.out.up hb)
  replace Q7 := hid (Q7.out.up hb)
  replace Q8 := hid (Q8.out.up hb)
  have Q16 := hid x1
  clear hb x1
  simp only [Act.put, List.setIfInBounds_toArray, List.set_cons_zero, List.set_cons_succ]
  refine WE.call (d := some 65) rfl rfl (by rfl) (f := 15) (args := #[(.int .i64 (3))]) (by go_simp) ?_
  refine (of_z (n := (3)) (by decide) (by decide) _).mono ?_
  rintro e wn ⟨v1, rfl, x1, hb⟩
  obtain ⟨g17, A17, n17, c17, rfl⟩ := x1.shape
  refine ⟨_, rfl, hb, ?_⟩
  replace E := hid (E.out.trans hb)
  replace V1 := hid (V1.out.up hb)
  replace V2 := hid (V2.out.up hb)
  replace V3 := hid (V3.out.up hb)
  replace V4 := hid (V4.out.up hb)
  replace Q3 := hid (Q3.out.up hb)
  replace Q4 := hid (Q4.out.up hb)
  replace Q7 := hid (Q7.out.up hb)
  replace Q8 := hid (Q8.out.up hb)
  replace Q16 := hid (Q16.out.up hb)
  have Q17 := hid x1
  clear hb x1
  simp only [Act.put, List.setIfInBounds_toArray, List.set_cons_zero, List.set_cons_succ]
  refine WE.call (d := some 66) rfl rfl (by rfl) (f := 27) (args := #[(.agg #[.bool g16, .slice A16 n16 c16]), (.agg #[.bool g17, .slice A17 n17 c17])]) (by go_simp) ?_
  refine (add_w Q16.out.worth Q17.out.worth (by omega) (by omega)).mono ?_
  rintro e wn ⟨v1, rfl, x1, hb⟩
  obtain ⟨g18, A18, n18, c18, rfl⟩ := x1.shape
  refine ⟨_, rfl, hb, ?_⟩
  replace E := hid (E.out.trans hb)
  replace V1 := hid (V1.out.up hb)
  replace V2 := hid (V2.out.up hb)
  replace V3 := hid (V3.out.up hb)
  replace V4 := hid (V4.out.up hb)
  replace Q3 := hid (Q3.out.up hb)
  replace Q4 := hid (Q4.out.up hb)
  replace Q7 := hid (Q7.out.up hb)
  replace Q8 := hid (Q8.out.up hb)
  replace Q16 := hid (Q16.out.up hb)
  replace Q17 := hid (Q17.out.up hb)
  have Q18 := hid x1
  clear hb x1
  simp only [Act.put, List.setIfInBounds_toArray, List.set_cons_zero, List.set_cons_succ]
  clear Q16
  clear Q17
  refine WE.call (d := some 67) rfl rfl (by rfl) (f := 15) (args := #[(.int .i64 (5))]) (by go_simp) ?_
  refine (of_z (n := (5)) (by decide) (by decide) _).mono ?_
  rintro e wn ⟨v1, rfl, x1, hb⟩
  obtain ⟨g19, A19, n19, c19, rfl⟩ := x1.shape
  refine ⟨_, rfl, hb, ?_⟩
  replace E := hid (E.out.trans hb)
  replace V1 := hid (V1.out.up hb)
  replace V2 := hid (V2.out.up hb)
  replace V3 := hid (V3.out.up hb)
  replace V4 := hid (V4.out.up hb)
  replace Q3 := hid (Q3.out.up hb)
  replace Q4 := hid (Q4.out.up hb)
  replace Q7 := hid (Q7.out.up hb)
  replace Q8 := hid (Q8.out.up hb)
  replace Q18 := hid (Q18.out.up hb)
  have Q19 := hid x1
  clear hb x1
  simp only [Act.put, List.setIfInBounds_toArray, List.set_cons_zero, List.set_cons_succ]
  refine WE.call (d := some 68) rfl rfl (by rfl) (f := 19) (args := #[(.agg #[.bool g18, .slice A18 n18 c18]), (.agg #[.bool g19, .slice A19 n19 c19])]) (by go_simp) ?_
  refine (cmp_w Q18.out.worth Q19.out.worth (z := 0) (by decide)).mono ?_
  rintro e wn ⟨rfl, hb⟩
  refine ⟨_, rfl, hb, ?_⟩
  replace E := hid (E.out.trans hb)
  replace V1 := hid (V1.out.up hb)
  replace V2 := hid (V2.out.up hb)
  replace V3 := hid (V3.out.up hb)
  replace V4 := hid (V4.out.up hb)
  replace Q3 := hid (Q3.out.up hb)
  replace Q4 := hid (Q4.out.up hb)
  replace Q7 := hid (Q7.out.up hb)
  replace Q8 := hid (Q8.out.up hb)
  replace Q18 := hid (Q18.out.up hb)
  replace Q19 := hid (Q19.out.up hb)
  clear hb
  simp only [Act.put, List.setIfInBounds_toArray, List.set_cons_zero, List.set_cons_succ]
  clear Q18
  clear Q19
  refine WE.pure (d := some 69) rfl rfl (by rfl) (v := (.bool true)) (fun w' hk => ?_) ?_
  · go_simp
  simp only [Act.put, List.setIfInBounds_toArray, List.set_cons_zero, List.set_cons_succ]
  refine WE.pure (d := some 70) rfl rfl (by rfl) (v := (.bool true)) (fun w' hk => ?_) ?_
  · go_simp
  simp only [Act.put, List.setIfInBounds_toArray, List.set_cons_zero, List.set_cons_succ]
  refine WE.pure (d := some 0) rfl rfl (by rfl) (v := (.bool true)) (fun w' hk => ?_) ?_
  · go_simp
  simp only [Act.put, List.setIfInBounds_toArray, List.set_cons_zero, List.set_cons_succ]
  refine WE.done ?_
  go_wp2
  go_ret
  exact ⟨rfl, E.out⟩

end Go.Proofs.Ythlafkbldlmmaaa
