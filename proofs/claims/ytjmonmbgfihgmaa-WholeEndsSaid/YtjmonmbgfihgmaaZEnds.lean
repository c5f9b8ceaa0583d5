/-
  WholeEnds: whatever a bool and a number of 64 bits: true. No conditions.
-/
import Derived.Test.YtjmonmbgfihgmaaZKnown
namespace Go.Proofs.Ytjmonmbgfihgmaa
open Go.ChangeShapes Go.WideShapes Go.ChangeAt Go.RowKit
set_option linter.unusedSimpArgs false
set_option linter.unusedVariables false

theorem small_as {w : World} {u : Value} {Z : Int} {j : Nat} (hu : Worth w u Z j) {Y : Int} (he : Z = Y) (hf : M.fits Y) : Calls Try.prog 17 #[u] w (fun e w' => e = .returned (.tuple #[.int .i64 Y, .bool true]) ∧ Ext w w') := by
  subst he; exact small_yes hu hf
theorem zero_z {w : World} : IsZ w (.agg #[.bool false, .slice none 0 0]) 0 0 := by
  refine ⟨none, 0, 0, rfl, ?_, ?_⟩
  · rw [show (0 : Int).natAbs = 0 from rfl, M.limbs_zero]; exact Num.nil _ _
  · rw [show (0 : Int).natAbs = 0 from rfl, M.limbs_zero]; simp
theorem equal_z {w : World} {u v : Value} {Z : Int} {j k : Nat} (hu : IsZ w u Z j) (hv : IsZ w v Z k) : Calls Try.prog 21 #[u, v] w (GivesB w true) := by
  obtain ⟨A, n, c, rfl, h1, _⟩ := hu
  obtain ⟨A', n', c', rfl, h2, _⟩ := hv
  obtain ⟨g, hg⟩ : ∃ g : Bool, g = decide (Z < 0) := ⟨_, rfl⟩
  rw [← hg]
  have R := hid h1
  have R' := hid h2
  clear h1 h2 hg
  have hgg : (g == g) = true := by simp
  cases g
  all_goals
    go_enter Try.func21, Try.ntmps21
    go_wp2_with fail
    refine (same_l (R.out.up ((Ext.alloc _ _).alloc' _)) (R'.out.up ((Ext.alloc _ _).alloc' _)) rfl).mono ?_
    rintro e wn ⟨rfl, hb⟩
    have E := hid (((Ext.alloc _ _).alloc' _).trans hb)
    clear hb
    go_wp2
    go_ret
    exact ⟨rfl, E.out⟩

set_option maxHeartbeats 4000000 in
theorem wholeEnds_false (W : World) (n : Int) (h1 : -9223372036854775808 ≤ n) (h2 : n ≤ 9223372036854775807) :
    Calls Try.prog 8 #[.bool false, .int .i64 n] W (fun e w' => e = .returned (.bool true) ∧ Ext W w') := by
  have HN1 := hid h1
  have HN2 := hid h2
  clear h1 h2
  go_enter Try.func8, Try.ntmps8
  go_upto_region 1 with (fail)
  have E := hid (Ext.refl W)
  go_upto_region 1 with (fail)
  refine wp_region_T [(0, 1), (1, 0)] (by kernel_rfl) fun wd hb => ?_
  replace E := hid (E.out.trans hb)
  clear hb
  refine WE.call (d := some 16) rfl rfl (by rfl) (f := 11) (args := #[]) (by go_simp) ?_
  refine (known2 _).mono ?_
  rintro e wn ⟨rfl, hb⟩
  refine ⟨_, rfl, hb, ?_⟩
  replace E := hid (E.out.trans hb)
  clear hb
  simp only [Act.put, List.setIfInBounds_toArray, List.set_cons_zero, List.set_cons_succ]
  refine WE.pure (d := some 17) rfl rfl (by rfl) (v := (.bool false)) (fun w' hk => ?_) ?_
  · go_simp
  simp only [Act.put, List.setIfInBounds_toArray, List.set_cons_zero, List.set_cons_succ]
  refine WE.done ?_
  go_upto_region 3 with (fail)
  refine wp_region_T [(0, 1), (1, 1), (2, 0), (3, 4)] (by kernel_rfl) fun wd hb => ?_
  replace E := hid (E.out.trans hb)
  clear hb
  refine WE.call (d := some 18) rfl rfl (by rfl) (f := 22) (args := #[(.int .i64 (-1))]) (by go_simp) ?_
  refine (of_z (n := (-1)) (by decide) (by decide) _).mono ?_
  rintro e wn ⟨v1, rfl, x1, hb⟩
  obtain ⟨g1, A1, n1, c1, rfl⟩ := x1.shape
  refine ⟨_, rfl, hb, ?_⟩
  replace E := hid (E.out.trans hb)
  have Q1 := hid x1
  clear hb x1
  simp only [Act.put, List.setIfInBounds_toArray, List.set_cons_zero, List.set_cons_succ]
  refine WE.new (d := some 6) (cs := #[.bool false, .slice none 0 0]) (t := 24) (v := fun g => (.pointer (some ⟨g, 0, none⟩))) rfl rfl (by rfl) (fun w => by go_simp) fun gV6 wv hx0 hbox hge => ?_
  have HGV6 := hid (show W.heap.size ≤ gV6 by have := E.out.size; omega)
  replace E := hid (E.out.trans hx0)
  replace Q1 := hid (Q1.out.up hx0)
  have V6 : Hid (Box wv gV6 #[.bool false, .slice none 0 0] 24) := hid hbox
  clear hx0 hbox hge
  simp only [Act.put, List.setIfInBounds_toArray, List.set_cons_zero, List.set_cons_succ]
  refine WE.pure (d := some 5) rfl rfl (by rfl) (v := (.int .i64 (-9223372036854775808))) (fun w' hk => ?_) ?_
  · go_simp
  simp only [Act.put, List.setIfInBounds_toArray, List.set_cons_zero, List.set_cons_succ]
  refine WE.store2 (g := gV6) (x := .bool g1) (y := .slice A1 n1 c1) (t := 24) rfl rfl (by rfl) (fun w hb => ?_) V6.out (by rfl) fun ws hk hs => ?_
  · have c0 := hb.cell (o := 0) (v := .bool false) rfl; have f0 := hb.free 0; have c1 := hb.cell (o := 1) (v := .slice none 0 0) rfl; have f1 := hb.free 1; go_simp
  intro hbx
  replace E := hid (E.out.keptG hk HGV6.out)
  replace V6 := hid hbx
  replace Q1 := hid (Q1.out.kz hs)
  clear hk hs hbx
  refine WE.done ?_
  go_upto_region 4 with (fail)
  refine wp_region_T [(0, 0)] (by kernel_rfl) fun wd hb => ?_
  replace E := hid (E.out.trans hb)
  replace V6 := hid (V6.out.up hb)
  replace Q1 := hid (Q1.out.up hb)
  clear hb
  refine WE.pure (d := some 19) rfl rfl (by rfl) (v := (.bool false)) (fun w' hk => ?_) ?_
  · go_simp
  simp only [Act.put, List.setIfInBounds_toArray, List.set_cons_zero, List.set_cons_succ]
  refine WE.done ?_
  go_upto_region 6 with (fail)
  refine wp_region_T [(0, 0), (1, 1), (2, 1), (3, 4)] (by kernel_rfl) fun wd hb => ?_
  replace E := hid (E.out.trans hb)
  replace V6 := hid (V6.out.up hb)
  replace Q1 := hid (Q1.out.up hb)
  clear hb
  refine WE.pure (d := some 21) rfl rfl (by rfl) (v := (.int .i64 (-9223372036854775808))) (fun w' hk => ?_) ?_
  · go_simp
  simp only [Act.put, List.setIfInBounds_toArray, List.set_cons_zero, List.set_cons_succ]
  refine WE.call (d := some 22) rfl rfl (by rfl) (f := 22) (args := #[(.int .i64 (-9223372036854775808))]) (by go_simp) ?_
  refine (of_z (n := (-9223372036854775808)) (by decide) (by decide) _).mono ?_
  rintro e wn ⟨v1, rfl, x1, hb⟩
  obtain ⟨g2, A2, n2, c2, rfl⟩ := x1.shape
  refine ⟨_, rfl, hb, ?_⟩
  replace E := hid (E.out.trans hb)
  replace V6 := hid (V6.out.up hb)
  replace Q1 := hid (Q1.out.up hb)
  have Q2 := hid x1
  clear hb x1
  simp only [Act.put, List.setIfInBounds_toArray, List.set_cons_zero, List.set_cons_succ]
  refine WE.new (d := some 7) (cs := #[.bool false, .slice none 0 0]) (t := 24) (v := fun g => (.pointer (some ⟨g, 0, none⟩))) rfl rfl (by rfl) (fun w => by go_simp) fun gV7 wv hx0 hbox hge => ?_
  have HNV7V6 := hid (show gV7 ≠ gV6 by have := V6.out.lt; omega)
  have HGV7 := hid (show W.heap.size ≤ gV7 by have := E.out.size; omega)
  replace E := hid (E.out.trans hx0)
  replace V6 := hid (V6.out.up hx0)
  replace Q1 := hid (Q1.out.up hx0)
  replace Q2 := hid (Q2.out.up hx0)
  have V7 : Hid (Box wv gV7 #[.bool false, .slice none 0 0] 24) := hid hbox
  clear hx0 hbox hge
  simp only [Act.put, List.setIfInBounds_toArray, List.set_cons_zero, List.set_cons_succ]
  refine WE.store2 (g := gV7) (x := .bool g2) (y := .slice A2 n2 c2) (t := 24) rfl rfl (by rfl) (fun w hb => ?_) V7.out (by rfl) fun ws hk hs => ?_
  · have c0 := hb.cell (o := 0) (v := .bool false) rfl; have f0 := hb.free 0; have c1 := hb.cell (o := 1) (v := .slice none 0 0) rfl; have f1 := hb.free 1; go_simp
  intro hbx
  replace E := hid (E.out.keptG hk HGV7.out)
  replace V6 := hid (V6.out.kept hk (by simpa using HNV7V6.out.symm))
  replace V7 := hid hbx
  replace Q1 := hid (Q1.out.kz hs)
  replace Q2 := hid (Q2.out.kz hs)
  clear hk hs hbx
  refine WE.done ?_
  go_upto_region 7 with (fail)
  refine wp_region_T [(0, 0), (1, 1), (2, 0), (3, 0), (4, 0), (5, 0), (6, 0)] (by kernel_rfl) fun wd hb => ?_
  replace E := hid (E.out.trans hb)
  replace V6 := hid (V6.out.up hb)
  replace V7 := hid (V7.out.up hb)
  replace Q1 := hid (Q1.out.up hb)
  replace Q2 := hid (Q2.out.up hb)
  clear hb
  refine WE.pure (d := some 24) rfl rfl (by rfl) (v := (.agg #[.bool g2, .slice A2 n2 c2])) (fun w' hk => ?_) ?_
  · have c0 := hk.cell (V7.out.cell (o := 0) (v := .bool g2) rfl); have c1 := hk.cell (V7.out.cell (o := 1) (v := .slice A2 n2 c2) rfl); go_simp
  simp only [Act.put, List.setIfInBounds_toArray, List.set_cons_zero, List.set_cons_succ]
  refine WE.call (d := some 25) rfl rfl (by rfl) (f := 17) (args := #[(.agg #[.bool g2, .slice A2 n2 c2])]) (by go_simp) ?_
  refine (small_as Q2.out.worth (rfl) (Y := (-9223372036854775808)) (by unfold M.fits; omega)).mono ?_
  rintro e wn ⟨rfl, hb⟩
  refine ⟨_, rfl, hb, ?_⟩
  replace E := hid (E.out.trans hb)
  replace V6 := hid (V6.out.up hb)
  replace V7 := hid (V7.out.up hb)
  replace Q1 := hid (Q1.out.up hb)
  replace Q2 := hid (Q2.out.up hb)
  clear hb
  simp only [Act.put, List.setIfInBounds_toArray, List.set_cons_zero, List.set_cons_succ]
  refine WE.pure (d := some 23) rfl rfl (by rfl) (v := (.tuple #[(.int .i64 (-9223372036854775808)), (.bool true)])) (fun w' hk => ?_) ?_
  · go_simp
  simp only [Act.put, List.setIfInBounds_toArray, List.set_cons_zero, List.set_cons_succ]
  refine WE.pure (d := some 26) rfl rfl (by rfl) (v := (.int .i64 (-9223372036854775808))) (fun w' hk => ?_) ?_
  · go_simp
  simp only [Act.put, List.setIfInBounds_toArray, List.set_cons_zero, List.set_cons_succ]
  refine WE.pure (d := some 27) rfl rfl (by rfl) (v := (.bool true)) (fun w' hk => ?_) ?_
  · go_simp
  simp only [Act.put, List.setIfInBounds_toArray, List.set_cons_zero, List.set_cons_succ]
  refine WE.pure (d := some 8) rfl rfl (by rfl) (v := (.int .i64 (-9223372036854775808))) (fun w' hk => ?_) ?_
  · go_simp
  simp only [Act.put, List.setIfInBounds_toArray, List.set_cons_zero, List.set_cons_succ]
  refine WE.pure (d := some 9) rfl rfl (by rfl) (v := (.bool true)) (fun w' hk => ?_) ?_
  · go_simp
  simp only [Act.put, List.setIfInBounds_toArray, List.set_cons_zero, List.set_cons_succ]
  refine WE.done ?_
  go_upto_region 8 with (fail)
  refine wp_region_T [(0, 0), (1, 0), (2, 1), (3, 1), (4, 0), (5, 0), (6, 0), (7, 0), (8, 0)] (by kernel_rfl) fun wd hb => ?_
  replace E := hid (E.out.trans hb)
  replace V6 := hid (V6.out.up hb)
  replace V7 := hid (V7.out.up hb)
  replace Q1 := hid (Q1.out.up hb)
  replace Q2 := hid (Q2.out.up hb)
  clear hb
  refine WE.pure (d := some 29) rfl rfl (by rfl) (v := (.agg #[.bool g2, .slice A2 n2 c2])) (fun w' hk => ?_) ?_
  · have c0 := hk.cell (V7.out.cell (o := 0) (v := .bool g2) rfl); have c1 := hk.cell (V7.out.cell (o := 1) (v := .slice A2 n2 c2) rfl); go_simp
  simp only [Act.put, List.setIfInBounds_toArray, List.set_cons_zero, List.set_cons_succ]
  refine WE.pure (d := some 30) rfl rfl (by rfl) (v := (.agg #[.bool g1, .slice A1 n1 c1])) (fun w' hk => ?_) ?_
  · have c0 := hk.cell (V6.out.cell (o := 0) (v := .bool g1) rfl); have c1 := hk.cell (V6.out.cell (o := 1) (v := .slice A1 n1 c1) rfl); go_simp
  simp only [Act.put, List.setIfInBounds_toArray, List.set_cons_zero, List.set_cons_succ]
  refine WE.call (d := some 31) rfl rfl (by rfl) (f := 34) (args := #[(.agg #[.bool g2, .slice A2 n2 c2]), (.agg #[.bool g1, .slice A1 n1 c1])]) (by go_simp) ?_
  refine (add_w Q2.out.worth Q1.out.worth (by omega) (by omega)).mono ?_
  rintro e wn ⟨v1, rfl, x1, hb⟩
  obtain ⟨g3, A3, n3, c3, rfl⟩ := x1.shape
  refine ⟨_, rfl, hb, ?_⟩
  replace E := hid (E.out.trans hb)
  replace V6 := hid (V6.out.up hb)
  replace V7 := hid (V7.out.up hb)
  replace Q1 := hid (Q1.out.up hb)
  replace Q2 := hid (Q2.out.up hb)
  have Q3 := hid x1
  clear hb x1
  simp only [Act.put, List.setIfInBounds_toArray, List.set_cons_zero, List.set_cons_succ]
  refine WE.call (d := some 32) rfl rfl (by rfl) (f := 17) (args := #[(.agg #[.bool g3, .slice A3 n3 c3])]) (by go_simp) ?_
  refine (small_no Q3.out.worth (by unfold M.fits; omega)).mono ?_
  rintro e wn ⟨rfl, hb⟩
  refine ⟨_, rfl, hb, ?_⟩
  replace E := hid (E.out.trans hb)
  replace V6 := hid (V6.out.up hb)
  replace V7 := hid (V7.out.up hb)
  replace Q1 := hid (Q1.out.up hb)
  replace Q2 := hid (Q2.out.up hb)
  replace Q3 := hid (Q3.out.up hb)
  clear hb
  simp only [Act.put, List.setIfInBounds_toArray, List.set_cons_zero, List.set_cons_succ]
  clear Q3
  refine WE.pure (d := some 28) rfl rfl (by rfl) (v := (.tuple #[(.int .i64 0), (.bool false)])) (fun w' hk => ?_) ?_
  · go_simp
  simp only [Act.put, List.setIfInBounds_toArray, List.set_cons_zero, List.set_cons_succ]
  refine WE.pure (d := some 33) rfl rfl (by rfl) (v := (.int .i64 0)) (fun w' hk => ?_) ?_
  · go_simp
  simp only [Act.put, List.setIfInBounds_toArray, List.set_cons_zero, List.set_cons_succ]
  refine WE.pure (d := some 34) rfl rfl (by rfl) (v := (.bool false)) (fun w' hk => ?_) ?_
  · go_simp
  simp only [Act.put, List.setIfInBounds_toArray, List.set_cons_zero, List.set_cons_succ]
  refine WE.pure (d := some 10) rfl rfl (by rfl) (v := (.int .i64 0)) (fun w' hk => ?_) ?_
  · go_simp
  simp only [Act.put, List.setIfInBounds_toArray, List.set_cons_zero, List.set_cons_succ]
  refine WE.pure (d := some 11) rfl rfl (by rfl) (v := (.bool false)) (fun w' hk => ?_) ?_
  · go_simp
  simp only [Act.put, List.setIfInBounds_toArray, List.set_cons_zero, List.set_cons_succ]
  refine WE.done ?_
  go_upto_region 9 with (fail)
  refine wp_region_T [(0, 0), (1, 1), (2, 1), (3, 0), (4, 0), (5, 0), (6, 0), (7, 0)] (by kernel_rfl) fun wd hb => ?_
  replace E := hid (E.out.trans hb)
  replace V6 := hid (V6.out.up hb)
  replace V7 := hid (V7.out.up hb)
  replace Q1 := hid (Q1.out.up hb)
  replace Q2 := hid (Q2.out.up hb)
  clear hb
  refine WE.pure (d := some 36) rfl rfl (by rfl) (v := (.int .i64 n)) (fun w' hk => ?_) ?_
  · go_simp
  simp only [Act.put, List.setIfInBounds_toArray, List.set_cons_zero, List.set_cons_succ]
  refine WE.call (d := some 37) rfl rfl (by rfl) (f := 22) (args := #[(.int .i64 n)]) (by go_simp) ?_
  refine (of_z (n := n) HN1.out HN2.out _).mono ?_
  rintro e wn ⟨v1, rfl, x1, hb⟩
  obtain ⟨g4, A4, n4, c4, rfl⟩ := x1.shape
  refine ⟨_, rfl, hb, ?_⟩
  replace E := hid (E.out.trans hb)
  replace V6 := hid (V6.out.up hb)
  replace V7 := hid (V7.out.up hb)
  replace Q1 := hid (Q1.out.up hb)
  replace Q2 := hid (Q2.out.up hb)
  have Q4 := hid x1
  clear hb x1
  simp only [Act.put, List.setIfInBounds_toArray, List.set_cons_zero, List.set_cons_succ]
  refine WE.call (d := some 38) rfl rfl (by rfl) (f := 17) (args := #[(.agg #[.bool g4, .slice A4 n4 c4])]) (by go_simp) ?_
  refine (small_as Q4.out.worth (rfl) (Y := n) (⟨HN1.out, HN2.out⟩)).mono ?_
  rintro e wn ⟨rfl, hb⟩
  refine ⟨_, rfl, hb, ?_⟩
  replace E := hid (E.out.trans hb)
  replace V6 := hid (V6.out.up hb)
  replace V7 := hid (V7.out.up hb)
  replace Q1 := hid (Q1.out.up hb)
  replace Q2 := hid (Q2.out.up hb)
  replace Q4 := hid (Q4.out.up hb)
  clear hb
  simp only [Act.put, List.setIfInBounds_toArray, List.set_cons_zero, List.set_cons_succ]
  clear Q4
  refine WE.pure (d := some 35) rfl rfl (by rfl) (v := (.tuple #[(.int .i64 n), (.bool true)])) (fun w' hk => ?_) ?_
  · go_simp
  simp only [Act.put, List.setIfInBounds_toArray, List.set_cons_zero, List.set_cons_succ]
  refine WE.pure (d := some 39) rfl rfl (by rfl) (v := (.int .i64 n)) (fun w' hk => ?_) ?_
  · go_simp
  simp only [Act.put, List.setIfInBounds_toArray, List.set_cons_zero, List.set_cons_succ]
  refine WE.pure (d := some 40) rfl rfl (by rfl) (v := (.bool true)) (fun w' hk => ?_) ?_
  · go_simp
  simp only [Act.put, List.setIfInBounds_toArray, List.set_cons_zero, List.set_cons_succ]
  refine WE.pure (d := some 12) rfl rfl (by rfl) (v := (.int .i64 n)) (fun w' hk => ?_) ?_
  · go_simp
  simp only [Act.put, List.setIfInBounds_toArray, List.set_cons_zero, List.set_cons_succ]
  refine WE.pure (d := some 13) rfl rfl (by rfl) (v := (.bool true)) (fun w' hk => ?_) ?_
  · go_simp
  simp only [Act.put, List.setIfInBounds_toArray, List.set_cons_zero, List.set_cons_succ]
  refine WE.done ?_
  go_upto_region 10 with (fail)
  refine wp_region_E [(0, 0), (1, 0), (3, 0), (2, 1), (4, 1), (5, 1), (6, 0), (7, 0), (8, 0), (9, 0), (10, 0)] (fun _ => (0, #[])) rfl (by kernel_rfl) (by intro j hj; cases hj) (fun _ _ d _ _ => by cases d <;> exact Iff.rfl) fun wd hb => ?_
  replace E := hid (E.out.trans hb)
  replace V6 := hid (V6.out.up hb)
  replace V7 := hid (V7.out.up hb)
  replace Q1 := hid (Q1.out.up hb)
  replace Q2 := hid (Q2.out.up hb)
  clear hb
  refine WE.pure (d := some 42) rfl rfl (by rfl) (v := (.agg #[.bool g2, .slice A2 n2 c2])) (fun w' hk => ?_) ?_
  · have c0 := hk.cell (V7.out.cell (o := 0) (v := .bool g2) rfl); have c1 := hk.cell (V7.out.cell (o := 1) (v := .slice A2 n2 c2) rfl); go_simp
  simp only [Act.put, List.setIfInBounds_toArray, List.set_cons_zero, List.set_cons_succ]
  refine WE.pure (d := some 43) rfl rfl (by rfl) (v := (.agg #[.bool g1, .slice A1 n1 c1])) (fun w' hk => ?_) ?_
  · have c0 := hk.cell (V6.out.cell (o := 0) (v := .bool g1) rfl); have c1 := hk.cell (V6.out.cell (o := 1) (v := .slice A1 n1 c1) rfl); go_simp
  simp only [Act.put, List.setIfInBounds_toArray, List.set_cons_zero, List.set_cons_succ]
  refine WE.pure (d := some 45) rfl rfl (by rfl) (v := (.agg #[.bool g1, .slice A1 n1 c1])) (fun w' hk => ?_) ?_
  · have c0 := hk.cell (V6.out.cell (o := 0) (v := .bool g1) rfl); have c1 := hk.cell (V6.out.cell (o := 1) (v := .slice A1 n1 c1) rfl); go_simp
  simp only [Act.put, List.setIfInBounds_toArray, List.set_cons_zero, List.set_cons_succ]
  refine WE.call (d := some 44) rfl rfl (by rfl) (f := 34) (args := #[(.agg #[.bool g2, .slice A2 n2 c2]), (.agg #[.bool g1, .slice A1 n1 c1])]) (by go_simp) ?_
  refine (add_w Q2.out.worth Q1.out.worth (by omega) (by omega)).mono ?_
  rintro e wn ⟨v1, rfl, x1, hb⟩
  obtain ⟨g5, A5, n5, c5, rfl⟩ := x1.shape
  refine ⟨_, rfl, hb, ?_⟩
  replace E := hid (E.out.trans hb)
  replace V6 := hid (V6.out.up hb)
  replace V7 := hid (V7.out.up hb)
  replace Q1 := hid (Q1.out.up hb)
  replace Q2 := hid (Q2.out.up hb)
  have Q5 := hid x1
  clear hb x1
  simp only [Act.put, List.setIfInBounds_toArray, List.set_cons_zero, List.set_cons_succ]
  refine WE.call (d := some 46) rfl rfl (by rfl) (f := 36) (args := #[(.agg #[.bool g5, .slice A5 n5 c5]), (.agg #[.bool g1, .slice A1 n1 c1])]) (by go_simp) ?_
  refine (sub_w Q5.out.worth Q1.out.worth (by omega) (by omega)).mono ?_
  rintro e wn ⟨v1, rfl, x1, hb⟩
  obtain ⟨g6, A6, n6, c6, rfl⟩ := x1.shape
  refine ⟨_, rfl, hb, ?_⟩
  replace E := hid (E.out.trans hb)
  replace V6 := hid (V6.out.up hb)
  replace V7 := hid (V7.out.up hb)
  replace Q1 := hid (Q1.out.up hb)
  replace Q2 := hid (Q2.out.up hb)
  replace Q5 := hid (Q5.out.up hb)
  have Q6 := hid x1
  clear hb x1
  simp only [Act.put, List.setIfInBounds_toArray, List.set_cons_zero, List.set_cons_succ]
  clear Q5
  refine WE.call (d := some 47) rfl rfl (by rfl) (f := 17) (args := #[(.agg #[.bool g6, .slice A6 n6 c6])]) (by go_simp) ?_
  refine (small_as Q6.out.worth (by omega) (Y := (-9223372036854775808)) (by unfold M.fits; omega)).mono ?_
  rintro e wn ⟨rfl, hb⟩
  refine ⟨_, rfl, hb, ?_⟩
  replace E := hid (E.out.trans hb)
  replace V6 := hid (V6.out.up hb)
  replace V7 := hid (V7.out.up hb)
  replace Q1 := hid (Q1.out.up hb)
  replace Q2 := hid (Q2.out.up hb)
  replace Q6 := hid (Q6.out.up hb)
  clear hb
  simp only [Act.put, List.setIfInBounds_toArray, List.set_cons_zero, List.set_cons_succ]
  clear Q6
  refine WE.pure (d := some 41) rfl rfl (by rfl) (v := (.tuple #[(.int .i64 (-9223372036854775808)), (.bool true)])) (fun w' hk => ?_) ?_
  · go_simp
  simp only [Act.put, List.setIfInBounds_toArray, List.set_cons_zero, List.set_cons_succ]
  refine WE.pure (d := some 48) rfl rfl (by rfl) (v := (.int .i64 (-9223372036854775808))) (fun w' hk => ?_) ?_
  · go_simp
  simp only [Act.put, List.setIfInBounds_toArray, List.set_cons_zero, List.set_cons_succ]
  refine WE.pure (d := some 49) rfl rfl (by rfl) (v := (.bool true)) (fun w' hk => ?_) ?_
  · go_simp
  simp only [Act.put, List.setIfInBounds_toArray, List.set_cons_zero, List.set_cons_succ]
  refine WE.pure (d := some 14) rfl rfl (by rfl) (v := (.int .i64 (-9223372036854775808))) (fun w' hk => ?_) ?_
  · go_simp
  simp only [Act.put, List.setIfInBounds_toArray, List.set_cons_zero, List.set_cons_succ]
  refine WE.pure (d := some 15) rfl rfl (by rfl) (v := (.bool true)) (fun w' hk => ?_) ?_
  · go_simp
  simp only [Act.put, List.setIfInBounds_toArray, List.set_cons_zero, List.set_cons_succ]
  refine WE.done ?_
  go_upto_region 11 with (fail)
  refine wp_region_T [(0, 0), (1, 0), (2, 0), (3, 0), (4, 0), (5, 0), (6, 0), (7, 0), (8, 0), (9, 0), (10, 0), (11, 0), (12, 0), (13, 0), (14, 0), (15, 0), (16, 0), (17, 0), (18, 0), (19, 0), (20, 0), (21, 0), (22, 0), (23, 0), (24, 0), (25, 0), (26, 0), (27, 0), (28, 1), (29, 0), (30, 1), (31, 1), (32, 0), (33, 1), (34, 0), (35, 0)] (by kernel_rfl) fun wd hb => ?_
  replace E := hid (E.out.trans hb)
  replace V6 := hid (V6.out.up hb)
  replace V7 := hid (V7.out.up hb)
  replace Q1 := hid (Q1.out.up hb)
  replace Q2 := hid (Q2.out.up hb)
  clear hb
  refine WE.pure (d := some 50) rfl rfl (by rfl) (v := (.bool true)) (fun w' hk => ?_) ?_
  · go_simp
  simp only [Act.put, List.setIfInBounds_toArray, List.set_cons_zero, List.set_cons_succ]
  refine WE.pure (d := some 51) rfl rfl (by rfl) (v := (.bool true)) (fun w' hk => ?_) ?_
  · go_simp
  simp only [Act.put, List.setIfInBounds_toArray, List.set_cons_zero, List.set_cons_succ]
  refine WE.pure (d := some 52) rfl rfl (by rfl) (v := (.int .i64 (-9223372036854775808))) (fun w' hk => ?_) ?_
  · go_simp
  simp only [Act.put, List.setIfInBounds_toArray, List.set_cons_zero, List.set_cons_succ]
  refine WE.pure (d := some 53) rfl rfl (by rfl) (v := (.int .i64 (-9223372036854775808))) (fun w' hk => ?_) ?_
  · go_simp
  simp only [Act.put, List.setIfInBounds_toArray, List.set_cons_zero, List.set_cons_succ]
  refine WE.pure (d := some 54) rfl rfl (by rfl) (v := (.bool true)) (fun w' hk => ?_) ?_
  · go_simp
  simp only [Act.put, List.setIfInBounds_toArray, List.set_cons_zero, List.set_cons_succ]
  refine WE.pure (d := some 55) rfl rfl (by rfl) (v := (.bool true)) (fun w' hk => ?_) ?_
  · go_simp
  simp only [Act.put, List.setIfInBounds_toArray, List.set_cons_zero, List.set_cons_succ]
  refine WE.pure (d := some 56) rfl rfl (by rfl) (v := (.bool true)) (fun w' hk => ?_) ?_
  · go_simp
  simp only [Act.put, List.setIfInBounds_toArray, List.set_cons_zero, List.set_cons_succ]
  refine WE.pure (d := some 57) rfl rfl (by rfl) (v := (.bool false)) (fun w' hk => ?_) ?_
  · go_simp
  simp only [Act.put, List.setIfInBounds_toArray, List.set_cons_zero, List.set_cons_succ]
  refine WE.pure (d := some 58) rfl rfl (by rfl) (v := (.bool true)) (fun w' hk => ?_) ?_
  · go_simp
  simp only [Act.put, List.setIfInBounds_toArray, List.set_cons_zero, List.set_cons_succ]
  refine WE.pure (d := some 59) rfl rfl (by rfl) (v := (.bool true)) (fun w' hk => ?_) ?_
  · go_simp
  simp only [Act.put, List.setIfInBounds_toArray, List.set_cons_zero, List.set_cons_succ]
  refine WE.pure (d := some 60) rfl rfl (by rfl) (v := (.bool true)) (fun w' hk => ?_) ?_
  · go_simp
  simp only [Act.put, List.setIfInBounds_toArray, List.set_cons_zero, List.set_cons_succ]
  refine WE.pure (d := some 61) rfl rfl (by rfl) (v := (.bool true)) (fun w' hk => ?_) ?_
  · go_simp
  simp only [Act.put, List.setIfInBounds_toArray, List.set_cons_zero, List.set_cons_succ]
  refine WE.pure (d := some 62) rfl rfl (by rfl) (v := (.bool true)) (fun w' hk => ?_) ?_
  · go_simp
  simp only [Act.put, List.setIfInBounds_toArray, List.set_cons_zero, List.set_cons_succ]
  refine WE.pure (d := some 63) rfl rfl (by rfl) (v := (.bool true)) (fun w' hk => ?_) ?_
  · go_simp
  simp only [Act.put, List.setIfInBounds_toArray, List.set_cons_zero, List.set_cons_succ]
  refine WE.pure (d := some 64) rfl rfl (by rfl) (v := (.int .i64 n)) (fun w' hk => ?_) ?_
  · go_simp
  simp only [Act.put, List.setIfInBounds_toArray, List.set_cons_zero, List.set_cons_succ]
  refine WE.pure (d := some 65) rfl rfl (by rfl) (v := (.int .i64 n)) (fun w' hk => ?_) ?_
  · go_simp
  simp only [Act.put, List.setIfInBounds_toArray, List.set_cons_zero, List.set_cons_succ]
  refine WE.pure (d := some 66) rfl rfl (by rfl) (v := (.bool true)) (fun w' hk => ?_) ?_
  · go_simp
  simp only [Act.put, List.setIfInBounds_toArray, List.set_cons_zero, List.set_cons_succ]
  refine WE.pure (d := some 67) rfl rfl (by rfl) (v := (.bool true)) (fun w' hk => ?_) ?_
  · go_simp
  simp only [Act.put, List.setIfInBounds_toArray, List.set_cons_zero, List.set_cons_succ]
  refine WE.pure (d := some 68) rfl rfl (by rfl) (v := (.bool true)) (fun w' hk => ?_) ?_
  · go_simp
  simp only [Act.put, List.setIfInBounds_toArray, List.set_cons_zero, List.set_cons_succ]
  refine WE.pure (d := some 69) rfl rfl (by rfl) (v := (.bool true)) (fun w' hk => ?_) ?_
  · go_simp
  simp only [Act.put, List.setIfInBounds_toArray, List.set_cons_zero, List.set_cons_succ]
  refine WE.pure (d := some 70) rfl rfl (by rfl) (v := (.bool true)) (fun w' hk => ?_) ?_
  · go_simp
  simp only [Act.put, List.setIfInBounds_toArray, List.set_cons_zero, List.set_cons_succ]
  refine WE.pure (d := some 71) rfl rfl (by rfl) (v := (.bool true)) (fun w' hk => ?_) ?_
  · go_simp
  simp only [Act.put, List.setIfInBounds_toArray, List.set_cons_zero, List.set_cons_succ]
  refine WE.pure (d := some 72) rfl rfl (by rfl) (v := (.int .i64 (-9223372036854775808))) (fun w' hk => ?_) ?_
  · go_simp
  simp only [Act.put, List.setIfInBounds_toArray, List.set_cons_zero, List.set_cons_succ]
  refine WE.pure (d := some 73) rfl rfl (by rfl) (v := (.int .i64 (-9223372036854775808))) (fun w' hk => ?_) ?_
  · go_simp
  simp only [Act.put, List.setIfInBounds_toArray, List.set_cons_zero, List.set_cons_succ]
  refine WE.pure (d := some 74) rfl rfl (by rfl) (v := (.bool true)) (fun w' hk => ?_) ?_
  · go_simp
  simp only [Act.put, List.setIfInBounds_toArray, List.set_cons_zero, List.set_cons_succ]
  refine WE.pure (d := some 75) rfl rfl (by rfl) (v := (.bool true)) (fun w' hk => ?_) ?_
  · go_simp
  simp only [Act.put, List.setIfInBounds_toArray, List.set_cons_zero, List.set_cons_succ]
  refine WE.pure (d := some 76) rfl rfl (by rfl) (v := (.bool true)) (fun w' hk => ?_) ?_
  · go_simp
  simp only [Act.put, List.setIfInBounds_toArray, List.set_cons_zero, List.set_cons_succ]
  refine WE.pure (d := some 77) rfl rfl (by rfl) (v := (.int .i64 n)) (fun w' hk => ?_) ?_
  · go_simp
  simp only [Act.put, List.setIfInBounds_toArray, List.set_cons_zero, List.set_cons_succ]
  refine WE.call (d := some 78) rfl rfl (by rfl) (f := 22) (args := #[(.int .i64 n)]) (by go_simp) ?_
  refine (of_z (n := n) HN1.out HN2.out _).mono ?_
  rintro e wn ⟨v1, rfl, x1, hb⟩
  obtain ⟨g7, A7, n7, c7, rfl⟩ := x1.shape
  refine ⟨_, rfl, hb, ?_⟩
  replace E := hid (E.out.trans hb)
  replace V6 := hid (V6.out.up hb)
  replace V7 := hid (V7.out.up hb)
  replace Q1 := hid (Q1.out.up hb)
  replace Q2 := hid (Q2.out.up hb)
  have Q7 := hid x1
  clear hb x1
  simp only [Act.put, List.setIfInBounds_toArray, List.set_cons_zero, List.set_cons_succ]
  refine WE.pure (d := some 79) rfl rfl (by rfl) (v := (.int .i64 n)) (fun w' hk => ?_) ?_
  · go_simp
  simp only [Act.put, List.setIfInBounds_toArray, List.set_cons_zero, List.set_cons_succ]
  refine WE.call (d := some 80) rfl rfl (by rfl) (f := 22) (args := #[(.int .i64 n)]) (by go_simp) ?_
  refine (of_z (n := n) HN1.out HN2.out _).mono ?_
  rintro e wn ⟨v1, rfl, x1, hb⟩
  obtain ⟨g8, A8, n8, c8, rfl⟩ := x1.shape
  refine ⟨_, rfl, hb, ?_⟩
  replace E := hid (E.out.trans hb)
  replace V6 := hid (V6.out.up hb)
  replace V7 := hid (V7.out.up hb)
  replace Q1 := hid (Q1.out.up hb)
  replace Q2 := hid (Q2.out.up hb)
  replace Q7 := hid (Q7.out.up hb)
  have Q8 := hid x1
  clear hb x1
  simp only [Act.put, List.setIfInBounds_toArray, List.set_cons_zero, List.set_cons_succ]
  refine WE.call (d := some 81) rfl rfl (by rfl) (f := 36) (args := #[(.agg #[.bool g7, .slice A7 n7 c7]), (.agg #[.bool g8, .slice A8 n8 c8])]) (by go_simp) ?_
  refine (sub_w Q7.out.worth Q8.out.worth (by omega) (by omega)).mono ?_
  rintro e wn ⟨v1, rfl, x1, hb⟩
  obtain ⟨g9, A9, n9, c9, rfl⟩ := x1.shape
  refine ⟨_, rfl, hb, ?_⟩
  replace E := hid (E.out.trans hb)
  replace V6 := hid (V6.out.up hb)
  replace V7 := hid (V7.out.up hb)
  replace Q1 := hid (Q1.out.up hb)
  replace Q2 := hid (Q2.out.up hb)
  replace Q7 := hid (Q7.out.up hb)
  replace Q8 := hid (Q8.out.up hb)
  have Q9 := hid x1
  clear hb x1
  simp only [Act.put, List.setIfInBounds_toArray, List.set_cons_zero, List.set_cons_succ]
  clear Q7
  clear Q8
  refine WE.pure (d := some 82) rfl rfl (by rfl) (v := (.agg #[.bool false, .slice none 0 0])) (fun w' hk => ?_) ?_
  · go_simp
  simp only [Act.put, List.setIfInBounds_toArray, List.set_cons_zero, List.set_cons_succ]
  refine WE.call (d := some 83) rfl rfl (by rfl) (f := 21) (args := #[(.agg #[.bool g9, .slice A9 n9 c9]), (.agg #[.bool false, .slice none 0 0])]) (by go_simp) ?_
  refine (equal_z (IsZ.to Q9.out ((show n - n = 0 by omega))) (IsZ.to zero_z (rfl))).mono ?_
  rintro e wn ⟨rfl, hb⟩
  refine ⟨_, rfl, hb, ?_⟩
  replace E := hid (E.out.trans hb)
  replace V6 := hid (V6.out.up hb)
  replace V7 := hid (V7.out.up hb)
  replace Q1 := hid (Q1.out.up hb)
  replace Q2 := hid (Q2.out.up hb)
  replace Q9 := hid (Q9.out.up hb)
  clear hb
  simp only [Act.put, List.setIfInBounds_toArray, List.set_cons_zero, List.set_cons_succ]
  clear Q9
  refine WE.pure (d := some 84) rfl rfl (by rfl) (v := (.bool true)) (fun w' hk => ?_) ?_
  · go_simp
  simp only [Act.put, List.setIfInBounds_toArray, List.set_cons_zero, List.set_cons_succ]
  refine WE.pure (d := some 4) rfl rfl (by rfl) (v := (.bool true)) (fun w' hk => ?_) ?_
  · go_simp
  simp only [Act.put, List.setIfInBounds_toArray, List.set_cons_zero, List.set_cons_succ]
  refine WE.done ?_
  go_wp2
  go_ret
  exact ⟨rfl, E.out⟩

set_option maxHeartbeats 4000000 in
theorem wholeEnds_true (W : World) (n : Int) (h1 : -9223372036854775808 ≤ n) (h2 : n ≤ 9223372036854775807) :
    Calls Try.prog 8 #[.bool true, .int .i64 n] W (fun e w' => e = .returned (.bool true) ∧ Ext W w') := by
  have HN1 := hid h1
  have HN2 := hid h2
  clear h1 h2
  go_enter Try.func8, Try.ntmps8
  go_upto_region 1 with (fail)
  have E := hid (Ext.refl W)
  go_upto_region 1 with (fail)
  refine wp_region_T [(0, 1), (1, 0)] (by kernel_rfl) fun wd hb => ?_
  replace E := hid (E.out.trans hb)
  clear hb
  refine WE.call (d := some 16) rfl rfl (by rfl) (f := 11) (args := #[]) (by go_simp) ?_
  refine (known2 _).mono ?_
  rintro e wn ⟨rfl, hb⟩
  refine ⟨_, rfl, hb, ?_⟩
  replace E := hid (E.out.trans hb)
  clear hb
  simp only [Act.put, List.setIfInBounds_toArray, List.set_cons_zero, List.set_cons_succ]
  refine WE.pure (d := some 17) rfl rfl (by rfl) (v := (.bool false)) (fun w' hk => ?_) ?_
  · go_simp
  simp only [Act.put, List.setIfInBounds_toArray, List.set_cons_zero, List.set_cons_succ]
  refine WE.done ?_
  go_upto_region 3 with (fail)
  refine wp_region_T [(0, 1), (1, 1), (2, 0), (3, 4)] (by kernel_rfl) fun wd hb => ?_
  replace E := hid (E.out.trans hb)
  clear hb
  refine WE.call (d := some 18) rfl rfl (by rfl) (f := 22) (args := #[(.int .i64 (-1))]) (by go_simp) ?_
  refine (of_z (n := (-1)) (by decide) (by decide) _).mono ?_
  rintro e wn ⟨v1, rfl, x1, hb⟩
  obtain ⟨g1, A1, n1, c1, rfl⟩ := x1.shape
  refine ⟨_, rfl, hb, ?_⟩
  replace E := hid (E.out.trans hb)
  have Q1 := hid x1
  clear hb x1
  simp only [Act.put, List.setIfInBounds_toArray, List.set_cons_zero, List.set_cons_succ]
  refine WE.new (d := some 6) (cs := #[.bool false, .slice none 0 0]) (t := 24) (v := fun g => (.pointer (some ⟨g, 0, none⟩))) rfl rfl (by rfl) (fun w => by go_simp) fun gV6 wv hx0 hbox hge => ?_
  have HGV6 := hid (show W.heap.size ≤ gV6 by have := E.out.size; omega)
  replace E := hid (E.out.trans hx0)
  replace Q1 := hid (Q1.out.up hx0)
  have V6 : Hid (Box wv gV6 #[.bool false, .slice none 0 0] 24) := hid hbox
  clear hx0 hbox hge
  simp only [Act.put, List.setIfInBounds_toArray, List.set_cons_zero, List.set_cons_succ]
  refine WE.pure (d := some 5) rfl rfl (by rfl) (v := (.int .i64 (-9223372036854775808))) (fun w' hk => ?_) ?_
  · go_simp
  simp only [Act.put, List.setIfInBounds_toArray, List.set_cons_zero, List.set_cons_succ]
  refine WE.store2 (g := gV6) (x := .bool g1) (y := .slice A1 n1 c1) (t := 24) rfl rfl (by rfl) (fun w hb => ?_) V6.out (by rfl) fun ws hk hs => ?_
  · have c0 := hb.cell (o := 0) (v := .bool false) rfl; have f0 := hb.free 0; have c1 := hb.cell (o := 1) (v := .slice none 0 0) rfl; have f1 := hb.free 1; go_simp
  intro hbx
  replace E := hid (E.out.keptG hk HGV6.out)
  replace V6 := hid hbx
  replace Q1 := hid (Q1.out.kz hs)
  clear hk hs hbx
  refine WE.done ?_
  go_upto_region 4 with (fail)
  refine wp_region_T [(0, 0)] (by kernel_rfl) fun wd hb => ?_
  replace E := hid (E.out.trans hb)
  replace V6 := hid (V6.out.up hb)
  replace Q1 := hid (Q1.out.up hb)
  clear hb
  refine WE.pure (d := some 19) rfl rfl (by rfl) (v := (.bool true)) (fun w' hk => ?_) ?_
  · go_simp
  simp only [Act.put, List.setIfInBounds_toArray, List.set_cons_zero, List.set_cons_succ]
  refine WE.done ?_
  go_upto_region 5 with (fail)
  refine wp_region_T [(0, 1), (1, 0), (2, 4)] (by kernel_rfl) fun wd hb => ?_
  replace E := hid (E.out.trans hb)
  replace V6 := hid (V6.out.up hb)
  replace Q1 := hid (Q1.out.up hb)
  clear hb
  refine WE.call (d := some 20) rfl rfl (by rfl) (f := 22) (args := #[(.int .i64 (1))]) (by go_simp) ?_
  refine (of_z (n := (1)) (by decide) (by decide) _).mono ?_
  rintro e wn ⟨v1, rfl, x1, hb⟩
  obtain ⟨g2, A2, n2, c2, rfl⟩ := x1.shape
  refine ⟨_, rfl, hb, ?_⟩
  replace E := hid (E.out.trans hb)
  replace V6 := hid (V6.out.up hb)
  replace Q1 := hid (Q1.out.up hb)
  have Q2 := hid x1
  clear hb x1
  simp only [Act.put, List.setIfInBounds_toArray, List.set_cons_zero, List.set_cons_succ]
  refine WE.pure (d := some 5) rfl rfl (by rfl) (v := (.int .i64 (9223372036854775807))) (fun w' hk => ?_) ?_
  · go_simp
  simp only [Act.put, List.setIfInBounds_toArray, List.set_cons_zero, List.set_cons_succ]
  refine WE.store2 (g := gV6) (x := .bool g2) (y := .slice A2 n2 c2) (t := 24) rfl rfl (by rfl) (fun w hb => ?_) V6.out (by rfl) fun ws hk hs => ?_
  · have c0 := hb.cell (o := 0) (v := .bool g1) rfl; have f0 := hb.free 0; have c1 := hb.cell (o := 1) (v := .slice A1 n1 c1) rfl; have f1 := hb.free 1; go_simp
  intro hbx
  replace E := hid (E.out.keptG hk HGV6.out)
  replace V6 := hid hbx
  replace Q1 := hid (Q1.out.kz hs)
  replace Q2 := hid (Q2.out.kz hs)
  clear hk hs hbx
  clear Q1
  refine WE.done ?_
  go_upto_region 6 with (fail)
  refine wp_region_T [(0, 0), (1, 1), (2, 1), (3, 4)] (by kernel_rfl) fun wd hb => ?_
  replace E := hid (E.out.trans hb)
  replace V6 := hid (V6.out.up hb)
  replace Q2 := hid (Q2.out.up hb)
  clear hb
  refine WE.pure (d := some 21) rfl rfl (by rfl) (v := (.int .i64 (9223372036854775807))) (fun w' hk => ?_) ?_
  · go_simp
  simp only [Act.put, List.setIfInBounds_toArray, List.set_cons_zero, List.set_cons_succ]
  refine WE.call (d := some 22) rfl rfl (by rfl) (f := 22) (args := #[(.int .i64 (9223372036854775807))]) (by go_simp) ?_
  refine (of_z (n := (9223372036854775807)) (by decide) (by decide) _).mono ?_
  rintro e wn ⟨v1, rfl, x1, hb⟩
  obtain ⟨g3, A3, n3, c3, rfl⟩ := x1.shape
  refine ⟨_, rfl, hb, ?_⟩
  replace E := hid (E.out.trans hb)
  replace V6 := hid (V6.out.up hb)
  replace Q2 := hid (Q2.out.up hb)
  have Q3 := hid x1
  clear hb x1
  simp only [Act.put, List.setIfInBounds_toArray, List.set_cons_zero, List.set_cons_succ]
  refine WE.new (d := some 7) (cs := #[.bool false, .slice none 0 0]) (t := 24) (v := fun g => (.pointer (some ⟨g, 0, none⟩))) rfl rfl (by rfl) (fun w => by go_simp) fun gV7 wv hx0 hbox hge => ?_
  have HNV7V6 := hid (show gV7 ≠ gV6 by have := V6.out.lt; omega)
  have HGV7 := hid (show W.heap.size ≤ gV7 by have := E.out.size; omega)
  replace E := hid (E.out.trans hx0)
  replace V6 := hid (V6.out.up hx0)
  replace Q2 := hid (Q2.out.up hx0)
  replace Q3 := hid (Q3.out.up hx0)
  have V7 : Hid (Box wv gV7 #[.bool false, .slice none 0 0] 24) := hid hbox
  clear hx0 hbox hge
  simp only [Act.put, List.setIfInBounds_toArray, List.set_cons_zero, List.set_cons_succ]
  refine WE.store2 (g := gV7) (x := .bool g3) (y := .slice A3 n3 c3) (t := 24) rfl rfl (by rfl) (fun w hb => ?_) V7.out (by rfl) fun ws hk hs => ?_
  · have c0 := hb.cell (o := 0) (v := .bool false) rfl; have f0 := hb.free 0; have c1 := hb.cell (o := 1) (v := .slice none 0 0) rfl; have f1 := hb.free 1; go_simp
  intro hbx
  replace E := hid (E.out.keptG hk HGV7.out)
  replace V6 := hid (V6.out.kept hk (by simpa using HNV7V6.out.symm))
  replace V7 := hid hbx
  replace Q2 := hid (Q2.out.kz hs)
  replace Q3 := hid (Q3.out.kz hs)
  clear hk hs hbx
  refine WE.done ?_
  go_upto_region 7 with (fail)
  refine wp_region_T [(0, 0), (1, 1), (2, 0), (3, 0), (4, 0), (5, 0), (6, 0)] (by kernel_rfl) fun wd hb => ?_
  replace E := hid (E.out.trans hb)
  replace V6 := hid (V6.out.up hb)
  replace V7 := hid (V7.out.up hb)
  replace Q2 := hid (Q2.out.up hb)
  replace Q3 := hid (Q3.out.up hb)
  clear hb
  refine WE.pure (d := some 24) rfl rfl (by rfl) (v := (.agg #[.bool g3, .slice A3 n3 c3])) (fun w' hk => ?_) ?_
  · have c0 := hk.cell (V7.out.cell (o := 0) (v := .bool g3) rfl); have c1 := hk.cell (V7.out.cell (o := 1) (v := .slice A3 n3 c3) rfl); go_simp
  simp only [Act.put, List.setIfInBounds_toArray, List.set_cons_zero, List.set_cons_succ]
  refine WE.call (d := some 25) rfl rfl (by rfl) (f := 17) (args := #[(.agg #[.bool g3, .slice A3 n3 c3])]) (by go_simp) ?_
  refine (small_as Q3.out.worth (rfl) (Y := 9223372036854775807) (by unfold M.fits; omega)).mono ?_
  rintro e wn ⟨rfl, hb⟩
  refine ⟨_, rfl, hb, ?_⟩
  replace E := hid (E.out.trans hb)
  replace V6 := hid (V6.out.up hb)
  replace V7 := hid (V7.out.up hb)
  replace Q2 := hid (Q2.out.up hb)
  replace Q3 := hid (Q3.out.up hb)
  clear hb
  simp only [Act.put, List.setIfInBounds_toArray, List.set_cons_zero, List.set_cons_succ]
  refine WE.pure (d := some 23) rfl rfl (by rfl) (v := (.tuple #[(.int .i64 9223372036854775807), (.bool true)])) (fun w' hk => ?_) ?_
  · go_simp
  simp only [Act.put, List.setIfInBounds_toArray, List.set_cons_zero, List.set_cons_succ]
  refine WE.pure (d := some 26) rfl rfl (by rfl) (v := (.int .i64 9223372036854775807)) (fun w' hk => ?_) ?_
  · go_simp
  simp only [Act.put, List.setIfInBounds_toArray, List.set_cons_zero, List.set_cons_succ]
  refine WE.pure (d := some 27) rfl rfl (by rfl) (v := (.bool true)) (fun w' hk => ?_) ?_
  · go_simp
  simp only [Act.put, List.setIfInBounds_toArray, List.set_cons_zero, List.set_cons_succ]
  refine WE.pure (d := some 8) rfl rfl (by rfl) (v := (.int .i64 9223372036854775807)) (fun w' hk => ?_) ?_
  · go_simp
  simp only [Act.put, List.setIfInBounds_toArray, List.set_cons_zero, List.set_cons_succ]
  refine WE.pure (d := some 9) rfl rfl (by rfl) (v := (.bool true)) (fun w' hk => ?_) ?_
  · go_simp
  simp only [Act.put, List.setIfInBounds_toArray, List.set_cons_zero, List.set_cons_succ]
  refine WE.done ?_
  go_upto_region 8 with (fail)
  refine wp_region_T [(0, 0), (1, 0), (2, 1), (3, 1), (4, 0), (5, 0), (6, 0), (7, 0), (8, 0)] (by kernel_rfl) fun wd hb => ?_
  replace E := hid (E.out.trans hb)
  replace V6 := hid (V6.out.up hb)
  replace V7 := hid (V7.out.up hb)
  replace Q2 := hid (Q2.out.up hb)
  replace Q3 := hid (Q3.out.up hb)
  clear hb
  refine WE.pure (d := some 29) rfl rfl (by rfl) (v := (.agg #[.bool g3, .slice A3 n3 c3])) (fun w' hk => ?_) ?_
  · have c0 := hk.cell (V7.out.cell (o := 0) (v := .bool g3) rfl); have c1 := hk.cell (V7.out.cell (o := 1) (v := .slice A3 n3 c3) rfl); go_simp
  simp only [Act.put, List.setIfInBounds_toArray, List.set_cons_zero, List.set_cons_succ]
  refine WE.pure (d := some 30) rfl rfl (by rfl) (v := (.agg #[.bool g2, .slice A2 n2 c2])) (fun w' hk => ?_) ?_
  · have c0 := hk.cell (V6.out.cell (o := 0) (v := .bool g2) rfl); have c1 := hk.cell (V6.out.cell (o := 1) (v := .slice A2 n2 c2) rfl); go_simp
  simp only [Act.put, List.setIfInBounds_toArray, List.set_cons_zero, List.set_cons_succ]
  refine WE.call (d := some 31) rfl rfl (by rfl) (f := 34) (args := #[(.agg #[.bool g3, .slice A3 n3 c3]), (.agg #[.bool g2, .slice A2 n2 c2])]) (by go_simp) ?_
  refine (add_w Q3.out.worth Q2.out.worth (by omega) (by omega)).mono ?_
  rintro e wn ⟨v1, rfl, x1, hb⟩
  obtain ⟨g4, A4, n4, c4, rfl⟩ := x1.shape
  refine ⟨_, rfl, hb, ?_⟩
  replace E := hid (E.out.trans hb)
  replace V6 := hid (V6.out.up hb)
  replace V7 := hid (V7.out.up hb)
  replace Q2 := hid (Q2.out.up hb)
  replace Q3 := hid (Q3.out.up hb)
  have Q4 := hid x1
  clear hb x1
  simp only [Act.put, List.setIfInBounds_toArray, List.set_cons_zero, List.set_cons_succ]
  refine WE.call (d := some 32) rfl rfl (by rfl) (f := 17) (args := #[(.agg #[.bool g4, .slice A4 n4 c4])]) (by go_simp) ?_
  refine (small_no Q4.out.worth (by unfold M.fits; omega)).mono ?_
  rintro e wn ⟨rfl, hb⟩
  refine ⟨_, rfl, hb, ?_⟩
  replace E := hid (E.out.trans hb)
  replace V6 := hid (V6.out.up hb)
  replace V7 := hid (V7.out.up hb)
  replace Q2 := hid (Q2.out.up hb)
  replace Q3 := hid (Q3.out.up hb)
  replace Q4 := hid (Q4.out.up hb)
  clear hb
  simp only [Act.put, List.setIfInBounds_toArray, List.set_cons_zero, List.set_cons_succ]
  clear Q4
  refine WE.pure (d := some 28) rfl rfl (by rfl) (v := (.tuple #[(.int .i64 0), (.bool false)])) (fun w' hk => ?_) ?_
  · go_simp
  simp only [Act.put, List.setIfInBounds_toArray, List.set_cons_zero, List.set_cons_succ]
  refine WE.pure (d := some 33) rfl rfl (by rfl) (v := (.int .i64 0)) (fun w' hk => ?_) ?_
  · go_simp
  simp only [Act.put, List.setIfInBounds_toArray, List.set_cons_zero, List.set_cons_succ]
  refine WE.pure (d := some 34) rfl rfl (by rfl) (v := (.bool false)) (fun w' hk => ?_) ?_
  · go_simp
  simp only [Act.put, List.setIfInBounds_toArray, List.set_cons_zero, List.set_cons_succ]
  refine WE.pure (d := some 10) rfl rfl (by rfl) (v := (.int .i64 0)) (fun w' hk => ?_) ?_
  · go_simp
  simp only [Act.put, List.setIfInBounds_toArray, List.set_cons_zero, List.set_cons_succ]
  refine WE.pure (d := some 11) rfl rfl (by rfl) (v := (.bool false)) (fun w' hk => ?_) ?_
  · go_simp
  simp only [Act.put, List.setIfInBounds_toArray, List.set_cons_zero, List.set_cons_succ]
  refine WE.done ?_
  go_upto_region 9 with (fail)
  refine wp_region_T [(0, 0), (1, 1), (2, 1), (3, 0), (4, 0), (5, 0), (6, 0), (7, 0)] (by kernel_rfl) fun wd hb => ?_
  replace E := hid (E.out.trans hb)
  replace V6 := hid (V6.out.up hb)
  replace V7 := hid (V7.out.up hb)
  replace Q2 := hid (Q2.out.up hb)
  replace Q3 := hid (Q3.out.up hb)
  clear hb
  refine WE.pure (d := some 36) rfl rfl (by rfl) (v := (.int .i64 n)) (fun w' hk => ?_) ?_
  · go_simp
  simp only [Act.put, List.setIfInBounds_toArray, List.set_cons_zero, List.set_cons_succ]
  refine WE.call (d := some 37) rfl rfl (by rfl) (f := 22) (args := #[(.int .i64 n)]) (by go_simp) ?_
  refine (of_z (n := n) HN1.out HN2.out _).mono ?_
  rintro e wn ⟨v1, rfl, x1, hb⟩
  obtain ⟨g5, A5, n5, c5, rfl⟩ := x1.shape
  refine ⟨_, rfl, hb, ?_⟩
  replace E := hid (E.out.trans hb)
  replace V6 := hid (V6.out.up hb)
  replace V7 := hid (V7.out.up hb)
  replace Q2 := hid (Q2.out.up hb)
  replace Q3 := hid (Q3.out.up hb)
  have Q5 := hid x1
  clear hb x1
  simp only [Act.put, List.setIfInBounds_toArray, List.set_cons_zero, List.set_cons_succ]
  refine WE.call (d := some 38) rfl rfl (by rfl) (f := 17) (args := #[(.agg #[.bool g5, .slice A5 n5 c5])]) (by go_simp) ?_
  refine (small_as Q5.out.worth (rfl) (Y := n) (⟨HN1.out, HN2.out⟩)).mono ?_
  rintro e wn ⟨rfl, hb⟩
  refine ⟨_, rfl, hb, ?_⟩
  replace E := hid (E.out.trans hb)
  replace V6 := hid (V6.out.up hb)
  replace V7 := hid (V7.out.up hb)
  replace Q2 := hid (Q2.out.up hb)
  replace Q3 := hid (Q3.out.up hb)
  replace Q5 := hid (Q5.out.up hb)
  clear hb
  simp only [Act.put, List.setIfInBounds_toArray, List.set_cons_zero, List.set_cons_succ]
  clear Q5
  refine WE.pure (d := some 35) rfl rfl (by rfl) (v := (.tuple #[(.int .i64 n), (.bool true)])) (fun w' hk => ?_) ?_
  · go_simp
  simp only [Act.put, List.setIfInBounds_toArray, List.set_cons_zero, List.set_cons_succ]
  refine WE.pure (d := some 39) rfl rfl (by rfl) (v := (.int .i64 n)) (fun w' hk => ?_) ?_
  · go_simp
  simp only [Act.put, List.setIfInBounds_toArray, List.set_cons_zero, List.set_cons_succ]
  refine WE.pure (d := some 40) rfl rfl (by rfl) (v := (.bool true)) (fun w' hk => ?_) ?_
  · go_simp
  simp only [Act.put, List.setIfInBounds_toArray, List.set_cons_zero, List.set_cons_succ]
  refine WE.pure (d := some 12) rfl rfl (by rfl) (v := (.int .i64 n)) (fun w' hk => ?_) ?_
  · go_simp
  simp only [Act.put, List.setIfInBounds_toArray, List.set_cons_zero, List.set_cons_succ]
  refine WE.pure (d := some 13) rfl rfl (by rfl) (v := (.bool true)) (fun w' hk => ?_) ?_
  · go_simp
  simp only [Act.put, List.setIfInBounds_toArray, List.set_cons_zero, List.set_cons_succ]
  refine WE.done ?_
  go_upto_region 10 with (fail)
  refine wp_region_E [(0, 0), (1, 0), (3, 0), (2, 1), (4, 1), (5, 1), (6, 0), (7, 0), (8, 0), (9, 0), (10, 0)] (fun _ => (0, #[])) rfl (by kernel_rfl) (by intro j hj; cases hj) (fun _ _ d _ _ => by cases d <;> exact Iff.rfl) fun wd hb => ?_
  replace E := hid (E.out.trans hb)
  replace V6 := hid (V6.out.up hb)
  replace V7 := hid (V7.out.up hb)
  replace Q2 := hid (Q2.out.up hb)
  replace Q3 := hid (Q3.out.up hb)
  clear hb
  refine WE.pure (d := some 42) rfl rfl (by rfl) (v := (.agg #[.bool g3, .slice A3 n3 c3])) (fun w' hk => ?_) ?_
  · have c0 := hk.cell (V7.out.cell (o := 0) (v := .bool g3) rfl); have c1 := hk.cell (V7.out.cell (o := 1) (v := .slice A3 n3 c3) rfl); go_simp
  simp only [Act.put, List.setIfInBounds_toArray, List.set_cons_zero, List.set_cons_succ]
  refine WE.pure (d := some 43) rfl rfl (by rfl) (v := (.agg #[.bool g2, .slice A2 n2 c2])) (fun w' hk => ?_) ?_
  · have c0 := hk.cell (V6.out.cell (o := 0) (v := .bool g2) rfl); have c1 := hk.cell (V6.out.cell (o := 1) (v := .slice A2 n2 c2) rfl); go_simp
  simp only [Act.put, List.setIfInBounds_toArray, List.set_cons_zero, List.set_cons_succ]
  refine WE.pure (d := some 45) rfl rfl (by rfl) (v := (.agg #[.bool g2, .slice A2 n2 c2])) (fun w' hk => ?_) ?_
  · have c0 := hk.cell (V6.out.cell (o := 0) (v := .bool g2) rfl); have c1 := hk.cell (V6.out.cell (o := 1) (v := .slice A2 n2 c2) rfl); go_simp
  simp only [Act.put, List.setIfInBounds_toArray, List.set_cons_zero, List.set_cons_succ]
  refine WE.call (d := some 44) rfl rfl (by rfl) (f := 34) (args := #[(.agg #[.bool g3, .slice A3 n3 c3]), (.agg #[.bool g2, .slice A2 n2 c2])]) (by go_simp) ?_
  refine (add_w Q3.out.worth Q2.out.worth (by omega) (by omega)).mono ?_
  rintro e wn ⟨v1, rfl, x1, hb⟩
  obtain ⟨g6, A6, n6, c6, rfl⟩ := x1.shape
  refine ⟨_, rfl, hb, ?_⟩
  replace E := hid (E.out.trans hb)
  replace V6 := hid (V6.out.up hb)
  replace V7 := hid (V7.out.up hb)
  replace Q2 := hid (Q2.out.up hb)
  replace Q3 := hid (Q3.out.up hb)
  have Q6 := hid x1
  clear hb x1
  simp only [Act.put, List.setIfInBounds_toArray, List.set_cons_zero, List.set_cons_succ]
  refine WE.call (d := some 46) rfl rfl (by rfl) (f := 36) (args := #[(.agg #[.bool g6, .slice A6 n6 c6]), (.agg #[.bool g2, .slice A2 n2 c2])]) (by go_simp) ?_
  refine (sub_w Q6.out.worth Q2.out.worth (by omega) (by omega)).mono ?_
  rintro e wn ⟨v1, rfl, x1, hb⟩
  obtain ⟨g7, A7, n7, c7, rfl⟩ := x1.shape
  refine ⟨_, rfl, hb, ?_⟩
  replace E := hid (E.out.trans hb)
  replace V6 := hid (V6.out.up hb)
  replace V7 := hid (V7.out.up hb)
  replace Q2 := hid (Q2.out.up hb)
  replace Q3 := hid (Q3.out.up hb)
  replace Q6 := hid (Q6.out.up hb)
  have Q7 := hid x1
  clear hb x1
  simp only [Act.put, List.setIfInBounds_toArray, List.set_cons_zero, List.set_cons_succ]
  clear Q6
  refine WE.call (d := some 47) rfl rfl (by rfl) (f := 17) (args := #[(.agg #[.bool g7, .slice A7 n7 c7])]) (by go_simp) ?_
  refine (small_as Q7.out.worth (by omega) (Y := 9223372036854775807) (by unfold M.fits; omega)).mono ?_
  rintro e wn ⟨rfl, hb⟩
  refine ⟨_, rfl, hb, ?_⟩
  replace E := hid (E.out.trans hb)
  replace V6 := hid (V6.out.up hb)
  replace V7 := hid (V7.out.up hb)
  replace Q2 := hid (Q2.out.up hb)
  replace Q3 := hid (Q3.out.up hb)
  replace Q7 := hid (Q7.out.up hb)
  clear hb
  simp only [Act.put, List.setIfInBounds_toArray, List.set_cons_zero, List.set_cons_succ]
  clear Q7
  refine WE.pure (d := some 41) rfl rfl (by rfl) (v := (.tuple #[(.int .i64 9223372036854775807), (.bool true)])) (fun w' hk => ?_) ?_
  · go_simp
  simp only [Act.put, List.setIfInBounds_toArray, List.set_cons_zero, List.set_cons_succ]
  refine WE.pure (d := some 48) rfl rfl (by rfl) (v := (.int .i64 9223372036854775807)) (fun w' hk => ?_) ?_
  · go_simp
  simp only [Act.put, List.setIfInBounds_toArray, List.set_cons_zero, List.set_cons_succ]
  refine WE.pure (d := some 49) rfl rfl (by rfl) (v := (.bool true)) (fun w' hk => ?_) ?_
  · go_simp
  simp only [Act.put, List.setIfInBounds_toArray, List.set_cons_zero, List.set_cons_succ]
  refine WE.pure (d := some 14) rfl rfl (by rfl) (v := (.int .i64 9223372036854775807)) (fun w' hk => ?_) ?_
  · go_simp
  simp only [Act.put, List.setIfInBounds_toArray, List.set_cons_zero, List.set_cons_succ]
  refine WE.pure (d := some 15) rfl rfl (by rfl) (v := (.bool true)) (fun w' hk => ?_) ?_
  · go_simp
  simp only [Act.put, List.setIfInBounds_toArray, List.set_cons_zero, List.set_cons_succ]
  refine WE.done ?_
  go_upto_region 11 with (fail)
  refine wp_region_T [(0, 0), (1, 0), (2, 0), (3, 0), (4, 0), (5, 0), (6, 0), (7, 0), (8, 0), (9, 0), (10, 0), (11, 0), (12, 0), (13, 0), (14, 0), (15, 0), (16, 0), (17, 0), (18, 0), (19, 0), (20, 0), (21, 0), (22, 0), (23, 0), (24, 0), (25, 0), (26, 0), (27, 0), (28, 1), (29, 0), (30, 1), (31, 1), (32, 0), (33, 1), (34, 0), (35, 0)] (by kernel_rfl) fun wd hb => ?_
  replace E := hid (E.out.trans hb)
  replace V6 := hid (V6.out.up hb)
  replace V7 := hid (V7.out.up hb)
  replace Q2 := hid (Q2.out.up hb)
  replace Q3 := hid (Q3.out.up hb)
  clear hb
  refine WE.pure (d := some 50) rfl rfl (by rfl) (v := (.bool true)) (fun w' hk => ?_) ?_
  · go_simp
  simp only [Act.put, List.setIfInBounds_toArray, List.set_cons_zero, List.set_cons_succ]
  refine WE.pure (d := some 51) rfl rfl (by rfl) (v := (.bool true)) (fun w' hk => ?_) ?_
  · go_simp
  simp only [Act.put, List.setIfInBounds_toArray, List.set_cons_zero, List.set_cons_succ]
  refine WE.pure (d := some 52) rfl rfl (by rfl) (v := (.int .i64 9223372036854775807)) (fun w' hk => ?_) ?_
  · go_simp
  simp only [Act.put, List.setIfInBounds_toArray, List.set_cons_zero, List.set_cons_succ]
  refine WE.pure (d := some 53) rfl rfl (by rfl) (v := (.int .i64 (9223372036854775807))) (fun w' hk => ?_) ?_
  · go_simp
  simp only [Act.put, List.setIfInBounds_toArray, List.set_cons_zero, List.set_cons_succ]
  refine WE.pure (d := some 54) rfl rfl (by rfl) (v := (.bool true)) (fun w' hk => ?_) ?_
  · go_simp
  simp only [Act.put, List.setIfInBounds_toArray, List.set_cons_zero, List.set_cons_succ]
  refine WE.pure (d := some 55) rfl rfl (by rfl) (v := (.bool true)) (fun w' hk => ?_) ?_
  · go_simp
  simp only [Act.put, List.setIfInBounds_toArray, List.set_cons_zero, List.set_cons_succ]
  refine WE.pure (d := some 56) rfl rfl (by rfl) (v := (.bool true)) (fun w' hk => ?_) ?_
  · go_simp
  simp only [Act.put, List.setIfInBounds_toArray, List.set_cons_zero, List.set_cons_succ]
  refine WE.pure (d := some 57) rfl rfl (by rfl) (v := (.bool false)) (fun w' hk => ?_) ?_
  · go_simp
  simp only [Act.put, List.setIfInBounds_toArray, List.set_cons_zero, List.set_cons_succ]
  refine WE.pure (d := some 58) rfl rfl (by rfl) (v := (.bool true)) (fun w' hk => ?_) ?_
  · go_simp
  simp only [Act.put, List.setIfInBounds_toArray, List.set_cons_zero, List.set_cons_succ]
  refine WE.pure (d := some 59) rfl rfl (by rfl) (v := (.bool true)) (fun w' hk => ?_) ?_
  · go_simp
  simp only [Act.put, List.setIfInBounds_toArray, List.set_cons_zero, List.set_cons_succ]
  refine WE.pure (d := some 60) rfl rfl (by rfl) (v := (.bool true)) (fun w' hk => ?_) ?_
  · go_simp
  simp only [Act.put, List.setIfInBounds_toArray, List.set_cons_zero, List.set_cons_succ]
  refine WE.pure (d := some 61) rfl rfl (by rfl) (v := (.bool true)) (fun w' hk => ?_) ?_
  · go_simp
  simp only [Act.put, List.setIfInBounds_toArray, List.set_cons_zero, List.set_cons_succ]
  refine WE.pure (d := some 62) rfl rfl (by rfl) (v := (.bool true)) (fun w' hk => ?_) ?_
  · go_simp
  simp only [Act.put, List.setIfInBounds_toArray, List.set_cons_zero, List.set_cons_succ]
  refine WE.pure (d := some 63) rfl rfl (by rfl) (v := (.bool true)) (fun w' hk => ?_) ?_
  · go_simp
  simp only [Act.put, List.setIfInBounds_toArray, List.set_cons_zero, List.set_cons_succ]
  refine WE.pure (d := some 64) rfl rfl (by rfl) (v := (.int .i64 n)) (fun w' hk => ?_) ?_
  · go_simp
  simp only [Act.put, List.setIfInBounds_toArray, List.set_cons_zero, List.set_cons_succ]
  refine WE.pure (d := some 65) rfl rfl (by rfl) (v := (.int .i64 n)) (fun w' hk => ?_) ?_
  · go_simp
  simp only [Act.put, List.setIfInBounds_toArray, List.set_cons_zero, List.set_cons_succ]
  refine WE.pure (d := some 66) rfl rfl (by rfl) (v := (.bool true)) (fun w' hk => ?_) ?_
  · go_simp
  simp only [Act.put, List.setIfInBounds_toArray, List.set_cons_zero, List.set_cons_succ]
  refine WE.pure (d := some 67) rfl rfl (by rfl) (v := (.bool true)) (fun w' hk => ?_) ?_
  · go_simp
  simp only [Act.put, List.setIfInBounds_toArray, List.set_cons_zero, List.set_cons_succ]
  refine WE.pure (d := some 68) rfl rfl (by rfl) (v := (.bool true)) (fun w' hk => ?_) ?_
  · go_simp
  simp only [Act.put, List.setIfInBounds_toArray, List.set_cons_zero, List.set_cons_succ]
  refine WE.pure (d := some 69) rfl rfl (by rfl) (v := (.bool true)) (fun w' hk => ?_) ?_
  · go_simp
  simp only [Act.put, List.setIfInBounds_toArray, List.set_cons_zero, List.set_cons_succ]
  refine WE.pure (d := some 70) rfl rfl (by rfl) (v := (.bool true)) (fun w' hk => ?_) ?_
  · go_simp
  simp only [Act.put, List.setIfInBounds_toArray, List.set_cons_zero, List.set_cons_succ]
  refine WE.pure (d := some 71) rfl rfl (by rfl) (v := (.bool true)) (fun w' hk => ?_) ?_
  · go_simp
  simp only [Act.put, List.setIfInBounds_toArray, List.set_cons_zero, List.set_cons_succ]
  refine WE.pure (d := some 72) rfl rfl (by rfl) (v := (.int .i64 9223372036854775807)) (fun w' hk => ?_) ?_
  · go_simp
  simp only [Act.put, List.setIfInBounds_toArray, List.set_cons_zero, List.set_cons_succ]
  refine WE.pure (d := some 73) rfl rfl (by rfl) (v := (.int .i64 (9223372036854775807))) (fun w' hk => ?_) ?_
  · go_simp
  simp only [Act.put, List.setIfInBounds_toArray, List.set_cons_zero, List.set_cons_succ]
  refine WE.pure (d := some 74) rfl rfl (by rfl) (v := (.bool true)) (fun w' hk => ?_) ?_
  · go_simp
  simp only [Act.put, List.setIfInBounds_toArray, List.set_cons_zero, List.set_cons_succ]
  refine WE.pure (d := some 75) rfl rfl (by rfl) (v := (.bool true)) (fun w' hk => ?_) ?_
  · go_simp
  simp only [Act.put, List.setIfInBounds_toArray, List.set_cons_zero, List.set_cons_succ]
  refine WE.pure (d := some 76) rfl rfl (by rfl) (v := (.bool true)) (fun w' hk => ?_) ?_
  · go_simp
  simp only [Act.put, List.setIfInBounds_toArray, List.set_cons_zero, List.set_cons_succ]
  refine WE.pure (d := some 77) rfl rfl (by rfl) (v := (.int .i64 n)) (fun w' hk => ?_) ?_
  · go_simp
  simp only [Act.put, List.setIfInBounds_toArray, List.set_cons_zero, List.set_cons_succ]
  refine WE.call (d := some 78) rfl rfl (by rfl) (f := 22) (args := #[(.int .i64 n)]) (by go_simp) ?_
  refine (of_z (n := n) HN1.out HN2.out _).mono ?_
  rintro e wn ⟨v1, rfl, x1, hb⟩
  obtain ⟨g8, A8, n8, c8, rfl⟩ := x1.shape
  refine ⟨_, rfl, hb, ?_⟩
  replace E := hid (E.out.trans hb)
  replace V6 := hid (V6.out.up hb)
  replace V7 := hid (V7.out.up hb)
  replace Q2 := hid (Q2.out.up hb)
  replace Q3 := hid (Q3.out.up hb)
  have Q8 := hid x1
  clear hb x1
  simp only [Act.put, List.setIfInBounds_toArray, List.set_cons_zero, List.set_cons_succ]
  refine WE.pure (d := some 79) rfl rfl (by rfl) (v := (.int .i64 n)) (fun w' hk => ?_) ?_
  · go_simp
  simp only [Act.put, List.setIfInBounds_toArray, List.set_cons_zero, List.set_cons_succ]
  refine WE.call (d := some 80) rfl rfl (by rfl) (f := 22) (args := #[(.int .i64 n)]) (by go_simp) ?_
  refine (of_z (n := n) HN1.out HN2.out _).mono ?_
  rintro e wn ⟨v1, rfl, x1, hb⟩
  obtain ⟨g9, A9, n9, c9, rfl⟩ := x1.shape
  refine ⟨_, rfl, hb, ?_⟩
  replace E := hid (E.out.trans hb)
  replace V6 := hid (V6.out.up hb)
  replace V7 := hid (V7.out.up hb)
  replace Q2 := hid (Q2.out.up hb)
  replace Q3 := hid (Q3.out.up hb)
  replace Q8 := hid (Q8.out.up hb)
  have Q9 := hid x1
  clear hb x1
  simp only [Act.put, List.setIfInBounds_toArray, List.set_cons_zero, List.set_cons_succ]
  refine WE.call (d := some 81) rfl rfl (by rfl) (f := 36) (args := #[(.agg #[.bool g8, .slice A8 n8 c8]), (.agg #[.bool g9, .slice A9 n9 c9])]) (by go_simp) ?_
  refine (sub_w Q8.out.worth Q9.out.worth (by omega) (by omega)).mono ?_
  rintro e wn ⟨v1, rfl, x1, hb⟩
  obtain ⟨g10, A10, n10, c10, rfl⟩ := x1.shape
  refine ⟨_, rfl, hb, ?_⟩
  replace E := hid (E.out.trans hb)
  replace V6 := hid (V6.out.up hb)
  replace V7 := hid (V7.out.up hb)
  replace Q2 := hid (Q2.out.up hb)
  replace Q3 := hid (Q3.out.up hb)
  replace Q8 := hid (Q8.out.up hb)
  replace Q9 := hid (Q9.out.up hb)
  have Q10 := hid x1
  clear hb x1
  simp only [Act.put, List.setIfInBounds_toArray, List.set_cons_zero, List.set_cons_succ]
  clear Q8
  clear Q9
  refine WE.pure (d := some 82) rfl rfl (by rfl) (v := (.agg #[.bool false, .slice none 0 0])) (fun w' hk => ?_) ?_
  · go_simp
  simp only [Act.put, List.setIfInBounds_toArray, List.set_cons_zero, List.set_cons_succ]
  refine WE.call (d := some 83) rfl rfl (by rfl) (f := 21) (args := #[(.agg #[.bool g10, .slice A10 n10 c10]), (.agg #[.bool false, .slice none 0 0])]) (by go_simp) ?_
  refine (equal_z (IsZ.to Q10.out ((show n - n = 0 by omega))) (IsZ.to zero_z (rfl))).mono ?_
  rintro e wn ⟨rfl, hb⟩
  refine ⟨_, rfl, hb, ?_⟩
  replace E := hid (E.out.trans hb)
  replace V6 := hid (V6.out.up hb)
  replace V7 := hid (V7.out.up hb)
  replace Q2 := hid (Q2.out.up hb)
  replace Q3 := hid (Q3.out.up hb)
  replace Q10 := hid (Q10.out.up hb)
  clear hb
  simp only [Act.put, List.setIfInBounds_toArray, List.set_cons_zero, List.set_cons_succ]
  clear Q10
  refine WE.pure (d := some 84) rfl rfl (by rfl) (v := (.bool true)) (fun w' hk => ?_) ?_
  · go_simp
  simp only [Act.put, List.setIfInBounds_toArray, List.set_cons_zero, List.set_cons_succ]
  refine WE.pure (d := some 4) rfl rfl (by rfl) (v := (.bool true)) (fun w' hk => ?_) ?_
  · go_simp
  simp only [Act.put, List.setIfInBounds_toArray, List.set_cons_zero, List.set_cons_succ]
  refine WE.done ?_
  go_wp2
  go_ret
  exact ⟨rfl, E.out⟩

theorem i64_of_wf {n : Int} (h : (Lit.int .i64 n).wf = true) : -9223372036854775808 ≤ n ∧ n ≤ 9223372036854775807 := by
  simpa [Lit.wf, IntKind.min, IntKind.max, IntKind.signed, IntKind.bits] using h

theorem wholeEnds_walk (W : World) (u : Bool) (n : Int) (h : -9223372036854775808 ≤ n ∧ n ≤ 9223372036854775807) :
    Calls Try.prog 8 #[.bool u, .int .i64 n] W (fun e w' => e = .returned (.bool true) ∧ Ext W w') := by
  cases u
  · exact wholeEnds_false W n h.1 h.2
  · exact wholeEnds_true W n h.1 h.2

set_option maxRecDepth 100000 in
theorem wholeEnds_lifted (os : Os) (started : os.Started) (H : Type) (enc : TypeId × Value → H) :
    ReturnsInHanded {} Try.checked os 8 .any (Rows.wholeEndsSpec.pre6 enc Try.prog Try.f8 Rows.wholeEndsRow.domain false) (Rows.wholeEndsSpec.post enc Try.prog Try.f8 false true false false) := by
  refine returnsInHanded_of_change (C := Try.checked) own started (by kernel_rfl) Try.func8
    (ChangeSpec.witness6 (enc := enc) (C := Try.checked) false ⟨#[], #[.bool false, .int .i64 0], []⟩ 8 (by kernel_rfl) (by kernel_rfl) (by kernel_rfl) (by kernel_rfl)) ?_
  intro W base args ds gs before hval0 hW _ _
  have hval : ∀ (j : Nat) t v, Try.f8.params[j]? = some t → args[j]? = some v → Value.okWide Try.prog W .any base t v := hval0
  have hW' := hW
  obtain ⟨p, q, hA0, hV, rfl, hfz, hnd⟩ := hW
  have hA : DataW.TrodAll enc Try.prog W 0 (fun _ => true) true Try.f8.params.toList args.toList ds p := hA0
  rw [Try.params8] at hA hval
  obtain ⟨v0, vs0, d0, ds0, p0, q0, hargs, rfl, rfl, h0, r0⟩ := trodAll_cons hA
  obtain ⟨v1, vs1, d1, ds1, p1, q1, rfl, rfl, rfl, h1, r1⟩ := trodAll_cons r0
  obtain ⟨rfl, rfl, rfl⟩ := trodAll_nil r1
  obtain rfl : args = #[v0, v1] := by cases args; simp_all
  obtain ⟨rfl, rfl⟩ := trodVars_none hV
  obtain ⟨b0, rfl, -, -⟩ := open_bool Try.underlying4 (hval 0 4 v0 rfl rfl) h0
  obtain ⟨a1, rfl, -, -, w1⟩ := open_int Try.underlying2 (hval 1 2 v1 rfl rfl) h1
  clear hA0 hval0
  refine (wholeEnds_walk W b0 a1 (i64_of_wf w1)).mono fun e W' ⟨he, hg⟩ => ?_
  subst he
  exact ⟨_, rfl, law_post hW' rfl rfl (by kernel_rfl) (by kernel_rfl) hg⟩

theorem wholeEnds_over : Rows.wholeEndsRow.holds Try.pinned (OpenSpec.ofChange Rows.wholeEndsSpec) :=
  OpenClaim.holds_of_wide 8 Try.f8 rfl rfl rfl rfl rfl rfl rfl ⟨rfl, rfl, rfl, rfl, rfl⟩ rfl rfl rfl rfl rfl (by kernel_rfl) Try.func8 (by kernel_rfl)
    (of_decide_eq_true (by kernel_rfl)) (by unfold Func.isWrapper; first | (rw [if_pos (by decide +kernel)]; kernel_rfl) | (rw [if_neg (by decide +kernel)]; exact ⟨rfl, rfl⟩))
    (fun os started H enc _ => wholeEnds_lifted os started H enc)

theorem wholeEnds_proved : Rows.WholeEndsSaid := wholeEnds_over

end Go.Proofs.Ytjmonmbgfihgmaa
