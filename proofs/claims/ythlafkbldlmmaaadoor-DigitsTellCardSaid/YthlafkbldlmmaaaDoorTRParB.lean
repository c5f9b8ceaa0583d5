/-
  The reference's Parse, no brackets.
-/
import Derived.Test.YthlafkbldlmmaaaDoorTRParM
import Derived.Test.YthlafkbldlmmaaaDoorTRPrint
import Derived.Test.YthlafkbldlmmaaaDoorRZA
namespace Go.Proofs.YthlafkbldlmmaaaDoor
open Go.RowKit
set_option linter.unusedSimpArgs false
set_option linter.unusedVariables false

set_option maxHeartbeats 1000000 in
theorem rparse_a_no {l : List UInt8} (hl : l.length ≤ 1000000) (h1 : decide (4 < (l.length : Int)) = false) (hnu : M.numeral l = false) (w : World) :
    Calls Tryd.prog 10 #[str l] w (GivesP w 0 (M.limbs (M.num l)).length 10) := by
  obtain ⟨n1, hn1⟩ : ∃ n1, n1 = l.length - 1 := ⟨_, rfl⟩
  have HN1 := hid hn1
  clear hn1
  have HL := hid hl
  have H1 := hid h1
  have HNU := hid hnu
  clear hl h1 hnu
  go_enter Tryd.func10, Tryd.ntmps10
  go_upto_region 1 with (fail)
  have E := hid ((Ext.refl w).alloc' (.cells #[.bool false, .slice none 0 0] 24))
  have B1 : Hid (Box (w.alloc (.cells #[.bool false, .slice none 0 0] 24)) (w.heap.size) #[.bool false, .slice none 0 0] 24) := hid (Box.at_ (w := w) #[.bool false, .slice none 0 0] 24 (by simp))
  refine wp_region_T [(0, 0), (1, 0), (2, 0)] (by kernel_rfl) fun wd hb => ?_
  replace E := hid (E.out.trans hb)
  replace B1 := hid (B1.out.up hb)
  clear hb
  refine WE.pure (d := some 6) rfl rfl (by rfl) (v := (str l)) (fun w' hk => ?_) ?_
  · go_simp
  simp only [Act.put, List.setIfInBounds_toArray, List.set_cons_zero, List.set_cons_succ]
  refine WE.pure (d := some 4) rfl rfl (by rfl) (v := (str l)) (fun w' hk => ?_) ?_
  · go_simp
  simp only [Act.put, List.setIfInBounds_toArray, List.set_cons_zero, List.set_cons_succ]
  refine WE.pure (d := some 5) rfl rfl (by rfl) (v := (.bool false)) (fun w' hk => ?_) ?_
  · go_simp
  simp only [Act.put, List.setIfInBounds_toArray, List.set_cons_zero, List.set_cons_succ]
  refine WE.done ?_
  go_upto_region 2 with (fail)
  refine wp_region_T [(0, 0), (1, 0), (2, 0), (3, 0), (4, 0), (5, 0), (6, 0), (7, 0), (8, 0), (9, 0), (10, 0), (11, 0), (12, 0), (13, 1), (14, 0), (15, 0)] (by kernel_rfl) fun wd hb => ?_
  replace E := hid (E.out.trans hb)
  replace B1 := hid (B1.out.up hb)
  clear hb
  refine WE.pure (d := some 7) rfl rfl (by rfl) (v := (str l)) (fun w' hk => ?_) ?_
  · go_simp
  simp only [Act.put, List.setIfInBounds_toArray, List.set_cons_zero, List.set_cons_succ]
  refine WE.pure (d := some 8) rfl rfl (by rfl) (v := (.int .i64 (l.length : Int))) (fun w' hk => ?_) ?_
  · go_simp
  simp only [Act.put, List.setIfInBounds_toArray, List.set_cons_zero, List.set_cons_succ]
  refine WE.pure (d := some 9) rfl rfl (by rfl) (v := (.bool false)) (fun w' hk => ?_) ?_
  · have q := H1.out; go_simp
  simp only [Act.put, List.setIfInBounds_toArray, List.set_cons_zero, List.set_cons_succ]
  refine WE.pure (d := some 10) rfl rfl (by rfl) (v := (.bool false)) (fun w' hk => ?_) ?_
  · go_simp
  simp only [Act.put, List.setIfInBounds_toArray, List.set_cons_zero, List.set_cons_succ]
  refine WE.skip (d := some 11) rfl rfl (by rfl) ?_
  simp only [Act.put, List.setIfInBounds_toArray, List.set_cons_zero, List.set_cons_succ]
  refine WE.skip (d := some 12) rfl rfl (by rfl) ?_
  simp only [Act.put, List.setIfInBounds_toArray, List.set_cons_zero, List.set_cons_succ]
  refine WE.skip (d := some 13) rfl rfl (by rfl) ?_
  simp only [Act.put, List.setIfInBounds_toArray, List.set_cons_zero, List.set_cons_succ]
  refine WE.pure (d := some 14) rfl rfl (by rfl) (v := (.bool false)) (fun w' hk => ?_) ?_
  · go_simp
  simp only [Act.put, List.setIfInBounds_toArray, List.set_cons_zero, List.set_cons_succ]
  refine WE.pure (d := some 15) rfl rfl (by rfl) (v := (.bool false)) (fun w' hk => ?_) ?_
  · go_simp
  simp only [Act.put, List.setIfInBounds_toArray, List.set_cons_zero, List.set_cons_succ]
  refine WE.skip (d := some 16) rfl rfl (by rfl) ?_
  simp only [Act.put, List.setIfInBounds_toArray, List.set_cons_zero, List.set_cons_succ]
  refine WE.skip (d := some 17) rfl rfl (by rfl) ?_
  simp only [Act.put, List.setIfInBounds_toArray, List.set_cons_zero, List.set_cons_succ]
  refine WE.skip (d := some 18) rfl rfl (by rfl) ?_
  simp only [Act.put, List.setIfInBounds_toArray, List.set_cons_zero, List.set_cons_succ]
  refine WE.skip (d := some 19) rfl rfl (by rfl) ?_
  simp only [Act.put, List.setIfInBounds_toArray, List.set_cons_zero, List.set_cons_succ]
  refine WE.pass (d := some 20) rfl rfl (by rfl) ?_
  simp only [Act.put, List.setIfInBounds_toArray, List.set_cons_zero, List.set_cons_succ]
  refine WE.skip (d := some 21) rfl rfl (by rfl) ?_
  simp only [Act.put, List.setIfInBounds_toArray, List.set_cons_zero, List.set_cons_succ]
  refine WE.pure (d := some 22) rfl rfl (by rfl) (v := (.bool false)) (fun w' hk => ?_) ?_
  · go_simp
  simp only [Act.put, List.setIfInBounds_toArray, List.set_cons_zero, List.set_cons_succ]
  refine WE.done ?_
  go_upto_region 4 with (fail)
  refine wp_region_T [(0, 0), (1, 1), (2, 0), (3, 0), (4, 0), (5, 0), (6, 0), (7, 0), (8, 0), (9, 0)] (by kernel_rfl) fun wd hb => ?_
  replace E := hid (E.out.trans hb)
  replace B1 := hid (B1.out.up hb)
  clear hb
  refine WE.pure (d := some 28) rfl rfl (by rfl) (v := (str l)) (fun w' hk => ?_) ?_
  · go_simp
  simp only [Act.put, List.setIfInBounds_toArray, List.set_cons_zero, List.set_cons_succ]
  refine WE.call (d := some 29) rfl rfl (by rfl) (f := 16) (args := #[(str l)]) (by go_simp) ?_
  refine (rNumeral_n l _ (Nat.le_trans HL.out (by decide))).mono ?_
  rw [HNU.out]
  rintro e wq ⟨rfl, rfl⟩
  refine ⟨_, rfl, Ext.refl _, ?_⟩
  simp only [Act.put, List.setIfInBounds_toArray, List.set_cons_zero, List.set_cons_succ]
  refine WE.pure (d := some 30) rfl rfl (by rfl) (v := (.bool true)) (fun w' hk => ?_) ?_
  · go_simp
  simp only [Act.put, List.setIfInBounds_toArray, List.set_cons_zero, List.set_cons_succ]
  refine WE.pure (d := some 31) rfl rfl (by rfl) (v := (.bool true)) (fun w' hk => ?_) ?_
  · go_simp
  simp only [Act.put, List.setIfInBounds_toArray, List.set_cons_zero, List.set_cons_succ]
  refine WE.skip (d := some 32) rfl rfl (by rfl) ?_
  simp only [Act.put, List.setIfInBounds_toArray, List.set_cons_zero, List.set_cons_succ]
  refine WE.skip (d := some 33) rfl rfl (by rfl) ?_
  simp only [Act.put, List.setIfInBounds_toArray, List.set_cons_zero, List.set_cons_succ]
  refine WE.skip (d := some 34) rfl rfl (by rfl) ?_
  simp only [Act.put, List.setIfInBounds_toArray, List.set_cons_zero, List.set_cons_succ]
  refine WE.skip (d := some 35) rfl rfl (by rfl) ?_
  simp only [Act.put, List.setIfInBounds_toArray, List.set_cons_zero, List.set_cons_succ]
  refine WE.skip (d := some 36) rfl rfl (by rfl) ?_
  simp only [Act.put, List.setIfInBounds_toArray, List.set_cons_zero, List.set_cons_succ]
  refine WE.pure (d := some 37) rfl rfl (by rfl) (v := (.bool true)) (fun w' hk => ?_) ?_
  · go_simp
  simp only [Act.put, List.setIfInBounds_toArray, List.set_cons_zero, List.set_cons_succ]
  refine WE.done ?_
  go_upto_region 5 with (fail)
  refine wp_region_T [(0, 0), (1, 4), (2, 0)] (by kernel_rfl) fun wd hb => ?_
  replace E := hid (E.out.trans hb)
  replace B1 := hid (B1.out.up hb)
  clear hb
  refine WE.pure (d := some 38) rfl rfl (by rfl) (v := (.agg #[.bool false, .slice none 0 0])) (fun w' hk => ?_) ?_
  · go_simp
  simp only [Act.put, List.setIfInBounds_toArray, List.set_cons_zero, List.set_cons_succ]
  refine WE.store2 (g := (w.heap.size)) (x := .bool false) (y := .slice none 0 0) (t := 24) rfl rfl (by rfl) (fun w hb => ?_) B1.out (by rfl) fun ws hk hs => ?_
  · have c0 := hb.cell (o := 0) (v := .bool false) rfl; have f0 := hb.free 0; have c1 := hb.cell (o := 1) (v := .slice none 0 0) rfl; have f1 := hb.free 1; go_simp
  intro hbx
  replace E := hid (E.out.keptG hk (by simp))
  replace B1 := hid hbx
  clear hk hs hbx
  refine WE.pure (d := some 3) rfl rfl (by rfl) (v := (.int .i64 (10))) (fun w' hk => ?_) ?_
  · go_simp
  simp only [Act.put, List.setIfInBounds_toArray, List.set_cons_zero, List.set_cons_succ]
  refine WE.done ?_
  have r0 := B1.out.cell (o := 0) (v := .bool false) rfl
  have r1 := B1.out.cell (o := 1) (v := .slice none 0 0) rfl
  go_wp2
  exact bodyPost_ret (v := .tuple #[.agg #[.bool false, .slice none 0 0], .int .i64 10]) (by simp [results, Tryd.results10, go_sem, r0, r1]) rfl ⟨_, rfl, IsZ.nil.wide (Nat.zero_le _), E.out⟩

set_option maxHeartbeats 1000000 in
theorem rparse_a_big {l : List UInt8} (hl : l.length ≤ 1000000) (h1 : decide (4 < (l.length : Int)) = false) (hnu : M.numeral l = true) (hb : decide (360 < (l.length : Int)) = true) (w : World) :
    Calls Tryd.prog 10 #[str l] w (GivesP w 0 (M.limbs (M.num l)).length 11) := by
  obtain ⟨n1, hn1⟩ : ∃ n1, n1 = l.length - 1 := ⟨_, rfl⟩
  have HN1 := hid hn1
  clear hn1
  have HL := hid hl
  have H1 := hid h1
  have HNU := hid hnu
  have HB := hid hb
  clear hl h1 hnu hb
  go_enter Tryd.func10, Tryd.ntmps10
  go_upto_region 1 with (fail)
  have E := hid ((Ext.refl w).alloc' (.cells #[.bool false, .slice none 0 0] 24))
  have B1 : Hid (Box (w.alloc (.cells #[.bool false, .slice none 0 0] 24)) (w.heap.size) #[.bool false, .slice none 0 0] 24) := hid (Box.at_ (w := w) #[.bool false, .slice none 0 0] 24 (by simp))
  refine wp_region_T [(0, 0), (1, 0), (2, 0)] (by kernel_rfl) fun wd hb => ?_
  replace E := hid (E.out.trans hb)
  replace B1 := hid (B1.out.up hb)
  clear hb
  refine WE.pure (d := some 6) rfl rfl (by rfl) (v := (str l)) (fun w' hk => ?_) ?_
  · go_simp
  simp only [Act.put, List.setIfInBounds_toArray, List.set_cons_zero, List.set_cons_succ]
  refine WE.pure (d := some 4) rfl rfl (by rfl) (v := (str l)) (fun w' hk => ?_) ?_
  · go_simp
  simp only [Act.put, List.setIfInBounds_toArray, List.set_cons_zero, List.set_cons_succ]
  refine WE.pure (d := some 5) rfl rfl (by rfl) (v := (.bool false)) (fun w' hk => ?_) ?_
  · go_simp
  simp only [Act.put, List.setIfInBounds_toArray, List.set_cons_zero, List.set_cons_succ]
  refine WE.done ?_
  go_upto_region 2 with (fail)
  refine wp_region_T [(0, 0), (1, 0), (2, 0), (3, 0), (4, 0), (5, 0), (6, 0), (7, 0), (8, 0), (9, 0), (10, 0), (11, 0), (12, 0), (13, 1), (14, 0), (15, 0)] (by kernel_rfl) fun wd hb => ?_
  replace E := hid (E.out.trans hb)
  replace B1 := hid (B1.out.up hb)
  clear hb
  refine WE.pure (d := some 7) rfl rfl (by rfl) (v := (str l)) (fun w' hk => ?_) ?_
  · go_simp
  simp only [Act.put, List.setIfInBounds_toArray, List.set_cons_zero, List.set_cons_succ]
  refine WE.pure (d := some 8) rfl rfl (by rfl) (v := (.int .i64 (l.length : Int))) (fun w' hk => ?_) ?_
  · go_simp
  simp only [Act.put, List.setIfInBounds_toArray, List.set_cons_zero, List.set_cons_succ]
  refine WE.pure (d := some 9) rfl rfl (by rfl) (v := (.bool false)) (fun w' hk => ?_) ?_
  · have q := H1.out; go_simp
  simp only [Act.put, List.setIfInBounds_toArray, List.set_cons_zero, List.set_cons_succ]
  refine WE.pure (d := some 10) rfl rfl (by rfl) (v := (.bool false)) (fun w' hk => ?_) ?_
  · go_simp
  simp only [Act.put, List.setIfInBounds_toArray, List.set_cons_zero, List.set_cons_succ]
  refine WE.skip (d := some 11) rfl rfl (by rfl) ?_
  simp only [Act.put, List.setIfInBounds_toArray, List.set_cons_zero, List.set_cons_succ]
  refine WE.skip (d := some 12) rfl rfl (by rfl) ?_
  simp only [Act.put, List.setIfInBounds_toArray, List.set_cons_zero, List.set_cons_succ]
  refine WE.skip (d := some 13) rfl rfl (by rfl) ?_
  simp only [Act.put, List.setIfInBounds_toArray, List.set_cons_zero, List.set_cons_succ]
  refine WE.pure (d := some 14) rfl rfl (by rfl) (v := (.bool false)) (fun w' hk => ?_) ?_
  · go_simp
  simp only [Act.put, List.setIfInBounds_toArray, List.set_cons_zero, List.set_cons_succ]
  refine WE.pure (d := some 15) rfl rfl (by rfl) (v := (.bool false)) (fun w' hk => ?_) ?_
  · go_simp
  simp only [Act.put, List.setIfInBounds_toArray, List.set_cons_zero, List.set_cons_succ]
  refine WE.skip (d := some 16) rfl rfl (by rfl) ?_
  simp only [Act.put, List.setIfInBounds_toArray, List.set_cons_zero, List.set_cons_succ]
  refine WE.skip (d := some 17) rfl rfl (by rfl) ?_
  simp only [Act.put, List.setIfInBounds_toArray, List.set_cons_zero, List.set_cons_succ]
  refine WE.skip (d := some 18) rfl rfl (by rfl) ?_
  simp only [Act.put, List.setIfInBounds_toArray, List.set_cons_zero, List.set_cons_succ]
  refine WE.skip (d := some 19) rfl rfl (by rfl) ?_
  simp only [Act.put, List.setIfInBounds_toArray, List.set_cons_zero, List.set_cons_succ]
  refine WE.pass (d := some 20) rfl rfl (by rfl) ?_
  simp only [Act.put, List.setIfInBounds_toArray, List.set_cons_zero, List.set_cons_succ]
  refine WE.skip (d := some 21) rfl rfl (by rfl) ?_
  simp only [Act.put, List.setIfInBounds_toArray, List.set_cons_zero, List.set_cons_succ]
  refine WE.pure (d := some 22) rfl rfl (by rfl) (v := (.bool false)) (fun w' hk => ?_) ?_
  · go_simp
  simp only [Act.put, List.setIfInBounds_toArray, List.set_cons_zero, List.set_cons_succ]
  refine WE.done ?_
  go_upto_region 4 with (fail)
  refine wp_region_T [(0, 0), (1, 1), (2, 0), (3, 0), (4, 0), (5, 0), (6, 0), (7, 0), (8, 0), (9, 0)] (by kernel_rfl) fun wd hb => ?_
  replace E := hid (E.out.trans hb)
  replace B1 := hid (B1.out.up hb)
  clear hb
  refine WE.pure (d := some 28) rfl rfl (by rfl) (v := (str l)) (fun w' hk => ?_) ?_
  · go_simp
  simp only [Act.put, List.setIfInBounds_toArray, List.set_cons_zero, List.set_cons_succ]
  refine WE.call (d := some 29) rfl rfl (by rfl) (f := 16) (args := #[(str l)]) (by go_simp) ?_
  refine (rNumeral_n l _ (Nat.le_trans HL.out (by decide))).mono ?_
  rw [HNU.out]
  rintro e wq ⟨rfl, rfl⟩
  refine ⟨_, rfl, Ext.refl _, ?_⟩
  simp only [Act.put, List.setIfInBounds_toArray, List.set_cons_zero, List.set_cons_succ]
  refine WE.pure (d := some 30) rfl rfl (by rfl) (v := (.bool false)) (fun w' hk => ?_) ?_
  · go_simp
  simp only [Act.put, List.setIfInBounds_toArray, List.set_cons_zero, List.set_cons_succ]
  refine WE.pure (d := some 31) rfl rfl (by rfl) (v := (.bool false)) (fun w' hk => ?_) ?_
  · go_simp
  simp only [Act.put, List.setIfInBounds_toArray, List.set_cons_zero, List.set_cons_succ]
  refine WE.pure (d := some 32) rfl rfl (by rfl) (v := (.bool false)) (fun w' hk => ?_) ?_
  · go_simp
  simp only [Act.put, List.setIfInBounds_toArray, List.set_cons_zero, List.set_cons_succ]
  refine WE.pure (d := some 33) rfl rfl (by rfl) (v := (.bool false)) (fun w' hk => ?_) ?_
  · go_simp
  simp only [Act.put, List.setIfInBounds_toArray, List.set_cons_zero, List.set_cons_succ]
  refine WE.skip (d := some 34) rfl rfl (by rfl) ?_
  simp only [Act.put, List.setIfInBounds_toArray, List.set_cons_zero, List.set_cons_succ]
  refine WE.skip (d := some 35) rfl rfl (by rfl) ?_
  simp only [Act.put, List.setIfInBounds_toArray, List.set_cons_zero, List.set_cons_succ]
  refine WE.pure (d := some 36) rfl rfl (by rfl) (v := (.bool false)) (fun w' hk => ?_) ?_
  · go_simp
  simp only [Act.put, List.setIfInBounds_toArray, List.set_cons_zero, List.set_cons_succ]
  refine WE.pure (d := some 37) rfl rfl (by rfl) (v := (.bool false)) (fun w' hk => ?_) ?_
  · go_simp
  simp only [Act.put, List.setIfInBounds_toArray, List.set_cons_zero, List.set_cons_succ]
  refine WE.done ?_
  go_upto_region 6 with (fail)
  refine wp_region_T [(0, 0), (1, 0), (2, 0)] (by kernel_rfl) fun wd hb => ?_
  replace E := hid (E.out.trans hb)
  replace B1 := hid (B1.out.up hb)
  clear hb
  refine WE.pure (d := some 39) rfl rfl (by rfl) (v := (str l)) (fun w' hk => ?_) ?_
  · go_simp
  simp only [Act.put, List.setIfInBounds_toArray, List.set_cons_zero, List.set_cons_succ]
  refine WE.pure (d := some 40) rfl rfl (by rfl) (v := (.int .i64 (l.length : Int))) (fun w' hk => ?_) ?_
  · go_simp
  simp only [Act.put, List.setIfInBounds_toArray, List.set_cons_zero, List.set_cons_succ]
  refine WE.pure (d := some 41) rfl rfl (by rfl) (v := (.bool true)) (fun w' hk => ?_) ?_
  · have q := HB.out; go_simp
  simp only [Act.put, List.setIfInBounds_toArray, List.set_cons_zero, List.set_cons_succ]
  refine WE.done ?_
  go_upto_region 7 with (fail)
  refine wp_region_T [(0, 0), (1, 4), (2, 0)] (by kernel_rfl) fun wd hb => ?_
  replace E := hid (E.out.trans hb)
  replace B1 := hid (B1.out.up hb)
  clear hb
  refine WE.pure (d := some 42) rfl rfl (by rfl) (v := (.agg #[.bool false, .slice none 0 0])) (fun w' hk => ?_) ?_
  · go_simp
  simp only [Act.put, List.setIfInBounds_toArray, List.set_cons_zero, List.set_cons_succ]
  refine WE.store2 (g := (w.heap.size)) (x := .bool false) (y := .slice none 0 0) (t := 24) rfl rfl (by rfl) (fun w hb => ?_) B1.out (by rfl) fun ws hk hs => ?_
  · have c0 := hb.cell (o := 0) (v := .bool false) rfl; have f0 := hb.free 0; have c1 := hb.cell (o := 1) (v := .slice none 0 0) rfl; have f1 := hb.free 1; go_simp
  intro hbx
  replace E := hid (E.out.keptG hk (by simp))
  replace B1 := hid hbx
  clear hk hs hbx
  refine WE.pure (d := some 3) rfl rfl (by rfl) (v := (.int .i64 (11))) (fun w' hk => ?_) ?_
  · go_simp
  simp only [Act.put, List.setIfInBounds_toArray, List.set_cons_zero, List.set_cons_succ]
  refine WE.done ?_
  have r0 := B1.out.cell (o := 0) (v := .bool false) rfl
  have r1 := B1.out.cell (o := 1) (v := .slice none 0 0) rfl
  go_wp2
  exact bodyPost_ret (v := .tuple #[.agg #[.bool false, .slice none 0 0], .int .i64 11]) (by simp [results, Tryd.results10, go_sem, r0, r1]) rfl ⟨_, rfl, IsZ.nil.wide (Nat.zero_le _), E.out⟩

set_option maxHeartbeats 1000000 in
theorem rparse_a_good {l : List UInt8} (hl : l.length ≤ 1000000) (h1 : decide (4 < (l.length : Int)) = false) (hnu : M.numeral l = true) (hb : decide (360 < (l.length : Int)) = false) (w : World) :
    Calls Tryd.prog 10 #[str l] w (GivesP w (M.num l : Int) (M.limbs (M.num l)).length 0) := by
  obtain ⟨n1, hn1⟩ : ∃ n1, n1 = l.length - 1 := ⟨_, rfl⟩
  have HN1 := hid hn1
  clear hn1
  have HL := hid hl
  have H1 := hid h1
  have HNU := hid hnu
  have HB := hid hb
  clear hl h1 hnu hb
  go_enter Tryd.func10, Tryd.ntmps10
  go_upto_region 1 with (fail)
  have E := hid ((Ext.refl w).alloc' (.cells #[.bool false, .slice none 0 0] 24))
  have B1 : Hid (Box (w.alloc (.cells #[.bool false, .slice none 0 0] 24)) (w.heap.size) #[.bool false, .slice none 0 0] 24) := hid (Box.at_ (w := w) #[.bool false, .slice none 0 0] 24 (by simp))
  refine wp_region_T [(0, 0), (1, 0), (2, 0)] (by kernel_rfl) fun wd hb => ?_
  replace E := hid (E.out.trans hb)
  replace B1 := hid (B1.out.up hb)
  clear hb
  refine WE.pure (d := some 6) rfl rfl (by rfl) (v := (str l)) (fun w' hk => ?_) ?_
  · go_simp
  simp only [Act.put, List.setIfInBounds_toArray, List.set_cons_zero, List.set_cons_succ]
  refine WE.pure (d := some 4) rfl rfl (by rfl) (v := (str l)) (fun w' hk => ?_) ?_
  · go_simp
  simp only [Act.put, List.setIfInBounds_toArray, List.set_cons_zero, List.set_cons_succ]
  refine WE.pure (d := some 5) rfl rfl (by rfl) (v := (.bool false)) (fun w' hk => ?_) ?_
  · go_simp
  simp only [Act.put, List.setIfInBounds_toArray, List.set_cons_zero, List.set_cons_succ]
  refine WE.done ?_
  go_upto_region 2 with (fail)
  refine wp_region_T [(0, 0), (1, 0), (2, 0), (3, 0), (4, 0), (5, 0), (6, 0), (7, 0), (8, 0), (9, 0), (10, 0), (11, 0), (12, 0), (13, 1), (14, 0), (15, 0)] (by kernel_rfl) fun wd hb => ?_
  replace E := hid (E.out.trans hb)
  replace B1 := hid (B1.out.up hb)
  clear hb
  refine WE.pure (d := some 7) rfl rfl (by rfl) (v := (str l)) (fun w' hk => ?_) ?_
  · go_simp
  simp only [Act.put, List.setIfInBounds_toArray, List.set_cons_zero, List.set_cons_succ]
  refine WE.pure (d := some 8) rfl rfl (by rfl) (v := (.int .i64 (l.length : Int))) (fun w' hk => ?_) ?_
  · go_simp
  simp only [Act.put, List.setIfInBounds_toArray, List.set_cons_zero, List.set_cons_succ]
  refine WE.pure (d := some 9) rfl rfl (by rfl) (v := (.bool false)) (fun w' hk => ?_) ?_
  · have q := H1.out; go_simp
  simp only [Act.put, List.setIfInBounds_toArray, List.set_cons_zero, List.set_cons_succ]
  refine WE.pure (d := some 10) rfl rfl (by rfl) (v := (.bool false)) (fun w' hk => ?_) ?_
  · go_simp
  simp only [Act.put, List.setIfInBounds_toArray, List.set_cons_zero, List.set_cons_succ]
  refine WE.skip (d := some 11) rfl rfl (by rfl) ?_
  simp only [Act.put, List.setIfInBounds_toArray, List.set_cons_zero, List.set_cons_succ]
  refine WE.skip (d := some 12) rfl rfl (by rfl) ?_
  simp only [Act.put, List.setIfInBounds_toArray, List.set_cons_zero, List.set_cons_succ]
  refine WE.skip (d := some 13) rfl rfl (by rfl) ?_
  simp only [Act.put, List.setIfInBounds_toArray, List.set_cons_zero, List.set_cons_succ]
  refine WE.pure (d := some 14) rfl rfl (by rfl) (v := (.bool false)) (fun w' hk => ?_) ?_
  · go_simp
  simp only [Act.put, List.setIfInBounds_toArray, List.set_cons_zero, List.set_cons_succ]
  refine WE.pure (d := some 15) rfl rfl (by rfl) (v := (.bool false)) (fun w' hk => ?_) ?_
  · go_simp
  simp only [Act.put, List.setIfInBounds_toArray, List.set_cons_zero, List.set_cons_succ]
  refine WE.skip (d := some 16) rfl rfl (by rfl) ?_
  simp only [Act.put, List.setIfInBounds_toArray, List.set_cons_zero, List.set_cons_succ]
  refine WE.skip (d := some 17) rfl rfl (by rfl) ?_
  simp only [Act.put, List.setIfInBounds_toArray, List.set_cons_zero, List.set_cons_succ]
  refine WE.skip (d := some 18) rfl rfl (by rfl) ?_
  simp only [Act.put, List.setIfInBounds_toArray, List.set_cons_zero, List.set_cons_succ]
  refine WE.skip (d := some 19) rfl rfl (by rfl) ?_
  simp only [Act.put, List.setIfInBounds_toArray, List.set_cons_zero, List.set_cons_succ]
  refine WE.pass (d := some 20) rfl rfl (by rfl) ?_
  simp only [Act.put, List.setIfInBounds_toArray, List.set_cons_zero, List.set_cons_succ]
  refine WE.skip (d := some 21) rfl rfl (by rfl) ?_
  simp only [Act.put, List.setIfInBounds_toArray, List.set_cons_zero, List.set_cons_succ]
  refine WE.pure (d := some 22) rfl rfl (by rfl) (v := (.bool false)) (fun w' hk => ?_) ?_
  · go_simp
  simp only [Act.put, List.setIfInBounds_toArray, List.set_cons_zero, List.set_cons_succ]
  refine WE.done ?_
  go_upto_region 4 with (fail)
  refine wp_region_T [(0, 0), (1, 1), (2, 0), (3, 0), (4, 0), (5, 0), (6, 0), (7, 0), (8, 0), (9, 0)] (by kernel_rfl) fun wd hb => ?_
  replace E := hid (E.out.trans hb)
  replace B1 := hid (B1.out.up hb)
  clear hb
  refine WE.pure (d := some 28) rfl rfl (by rfl) (v := (str l)) (fun w' hk => ?_) ?_
  · go_simp
  simp only [Act.put, List.setIfInBounds_toArray, List.set_cons_zero, List.set_cons_succ]
  refine WE.call (d := some 29) rfl rfl (by rfl) (f := 16) (args := #[(str l)]) (by go_simp) ?_
  refine (rNumeral_n l _ (Nat.le_trans HL.out (by decide))).mono ?_
  rw [HNU.out]
  rintro e wq ⟨rfl, rfl⟩
  refine ⟨_, rfl, Ext.refl _, ?_⟩
  simp only [Act.put, List.setIfInBounds_toArray, List.set_cons_zero, List.set_cons_succ]
  refine WE.pure (d := some 30) rfl rfl (by rfl) (v := (.bool false)) (fun w' hk => ?_) ?_
  · go_simp
  simp only [Act.put, List.setIfInBounds_toArray, List.set_cons_zero, List.set_cons_succ]
  refine WE.pure (d := some 31) rfl rfl (by rfl) (v := (.bool false)) (fun w' hk => ?_) ?_
  · go_simp
  simp only [Act.put, List.setIfInBounds_toArray, List.set_cons_zero, List.set_cons_succ]
  refine WE.pure (d := some 32) rfl rfl (by rfl) (v := (.bool false)) (fun w' hk => ?_) ?_
  · go_simp
  simp only [Act.put, List.setIfInBounds_toArray, List.set_cons_zero, List.set_cons_succ]
  refine WE.pure (d := some 33) rfl rfl (by rfl) (v := (.bool false)) (fun w' hk => ?_) ?_
  · go_simp
  simp only [Act.put, List.setIfInBounds_toArray, List.set_cons_zero, List.set_cons_succ]
  refine WE.skip (d := some 34) rfl rfl (by rfl) ?_
  simp only [Act.put, List.setIfInBounds_toArray, List.set_cons_zero, List.set_cons_succ]
  refine WE.skip (d := some 35) rfl rfl (by rfl) ?_
  simp only [Act.put, List.setIfInBounds_toArray, List.set_cons_zero, List.set_cons_succ]
  refine WE.pure (d := some 36) rfl rfl (by rfl) (v := (.bool false)) (fun w' hk => ?_) ?_
  · go_simp
  simp only [Act.put, List.setIfInBounds_toArray, List.set_cons_zero, List.set_cons_succ]
  refine WE.pure (d := some 37) rfl rfl (by rfl) (v := (.bool false)) (fun w' hk => ?_) ?_
  · go_simp
  simp only [Act.put, List.setIfInBounds_toArray, List.set_cons_zero, List.set_cons_succ]
  refine WE.done ?_
  go_upto_region 6 with (fail)
  refine wp_region_T [(0, 0), (1, 0), (2, 0)] (by kernel_rfl) fun wd hb => ?_
  replace E := hid (E.out.trans hb)
  replace B1 := hid (B1.out.up hb)
  clear hb
  refine WE.pure (d := some 39) rfl rfl (by rfl) (v := (str l)) (fun w' hk => ?_) ?_
  · go_simp
  simp only [Act.put, List.setIfInBounds_toArray, List.set_cons_zero, List.set_cons_succ]
  refine WE.pure (d := some 40) rfl rfl (by rfl) (v := (.int .i64 (l.length : Int))) (fun w' hk => ?_) ?_
  · go_simp
  simp only [Act.put, List.setIfInBounds_toArray, List.set_cons_zero, List.set_cons_succ]
  refine WE.pure (d := some 41) rfl rfl (by rfl) (v := (.bool false)) (fun w' hk => ?_) ?_
  · have q := HB.out; go_simp
  simp only [Act.put, List.setIfInBounds_toArray, List.set_cons_zero, List.set_cons_succ]
  refine WE.done ?_
  go_upto_region 8 with (fail)
  refine wp_region_T [(0, 0), (1, 0), (2, 1), (3, 1), (4, 4), (5, 0)] (by kernel_rfl) fun wd hb => ?_
  replace E := hid (E.out.trans hb)
  replace B1 := hid (B1.out.up hb)
  clear hb
  refine WE.pure (d := some 43) rfl rfl (by rfl) (v := (.bool false)) (fun w' hk => ?_) ?_
  · go_simp
  simp only [Act.put, List.setIfInBounds_toArray, List.set_cons_zero, List.set_cons_succ]
  refine WE.pure (d := some 44) rfl rfl (by rfl) (v := (str l)) (fun w' hk => ?_) ?_
  · go_simp
  simp only [Act.put, List.setIfInBounds_toArray, List.set_cons_zero, List.set_cons_succ]
  refine WE.call (d := some 45) rfl rfl (by rfl) (f := 28) (args := #[(str l)]) (by go_simp) ?_
  refine (rnatural_N l (M.numeral_all' HNU.out) HL.out _).mono ?_
  rintro e wn ⟨vx, rfl, hx, hb⟩
  obtain ⟨A1, n1, c1, rfl⟩ := hx.1.slice
  refine ⟨_, rfl, hb, ?_⟩
  replace E := hid (E.out.trans hb)
  replace B1 := hid (B1.out.up hb)
  have R1 := hid hx
  clear hb hx
  simp only [Act.put, List.setIfInBounds_toArray, List.set_cons_zero, List.set_cons_succ]
  refine WE.call (d := some 46) rfl rfl (by rfl) (f := 27) (args := #[(.bool false), (.slice A1 n1 c1)]) (by go_simp) ?_
  refine (rsign_n R1.out (Z := (M.num l : Int)) (by simp) (fun hne => by rw [eq_comm, decide_eq_false_iff_not]; omega)).mono ?_
  rintro e wn ⟨vx, rfl, hx, hb⟩
  obtain ⟨g2, A2, n2, c2, rfl, hs2, hr2⟩ := hx.form
  clear hx
  refine ⟨_, rfl, hb, ?_⟩
  replace E := hid (E.out.trans hb)
  replace B1 := hid (B1.out.up hb)
  replace R1 := hid (R1.out.up hb)
  have HS2 := hid hs2
  have R2 := hid hr2
  clear hb hs2 hr2
  simp only [Act.put, List.setIfInBounds_toArray, List.set_cons_zero, List.set_cons_succ]
  refine WE.store2 (g := (w.heap.size)) (x := .bool g2) (y := .slice A2 n2 c2) (t := 24) rfl rfl (by rfl) (fun w hb => ?_) B1.out (by rfl) fun ws hk hs => ?_
  · have c0 := hb.cell (o := 0) (v := .bool false) rfl; have f0 := hb.free 0; have c1 := hb.cell (o := 1) (v := .slice none 0 0) rfl; have f1 := hb.free 1; go_simp
  intro hbx
  replace E := hid (E.out.keptG hk (by simp))
  replace B1 := hid hbx
  replace R1 := hid (R1.out.kz hs)
  replace R2 := hid (R2.out.kz hs)
  clear hk hs hbx
  refine WE.pure (d := some 3) rfl rfl (by rfl) (v := (.int .i64 (0))) (fun w' hk => ?_) ?_
  · go_simp
  simp only [Act.put, List.setIfInBounds_toArray, List.set_cons_zero, List.set_cons_succ]
  refine WE.done ?_
  have r0 := B1.out.cell (o := 0) (v := .bool g2) rfl
  have r1 := B1.out.cell (o := 1) (v := .slice A2 n2 c2) rfl
  go_wp2
  exact bodyPost_ret (v := .tuple #[.agg #[.bool g2, .slice A2 n2 c2], .int .i64 0]) (by simp [results, Tryd.results10, go_sem, r0, r1]) rfl ⟨_, rfl, IsZ.mk HS2.out R2.out, E.out⟩

set_option maxHeartbeats 1000000 in
theorem rparse_b_no {l : List UInt8} (hl : l.length ≤ 1000000) (h1 : decide (4 < (l.length : Int)) = true) (h2 : (l.take 3 == [40, 45, 32]) = false) (hnu : M.numeral l = false) (w : World) :
    Calls Tryd.prog 10 #[str l] w (GivesP w 0 (M.limbs (M.num l)).length 10) := by
  obtain ⟨n1, hn1⟩ : ∃ n1, n1 = l.length - 1 := ⟨_, rfl⟩
  have HN1 := hid hn1
  clear hn1
  have HL := hid hl
  have H1 := hid h1
  have H2 := hid h2
  have HNU := hid hnu
  clear hl h1 h2 hnu
  go_enter Tryd.func10, Tryd.ntmps10
  go_upto_region 1 with (fail)
  have E := hid ((Ext.refl w).alloc' (.cells #[.bool false, .slice none 0 0] 24))
  have B1 : Hid (Box (w.alloc (.cells #[.bool false, .slice none 0 0] 24)) (w.heap.size) #[.bool false, .slice none 0 0] 24) := hid (Box.at_ (w := w) #[.bool false, .slice none 0 0] 24 (by simp))
  refine wp_region_T [(0, 0), (1, 0), (2, 0)] (by kernel_rfl) fun wd hb => ?_
  replace E := hid (E.out.trans hb)
  replace B1 := hid (B1.out.up hb)
  clear hb
  refine WE.pure (d := some 6) rfl rfl (by rfl) (v := (str l)) (fun w' hk => ?_) ?_
  · go_simp
  simp only [Act.put, List.setIfInBounds_toArray, List.set_cons_zero, List.set_cons_succ]
  refine WE.pure (d := some 4) rfl rfl (by rfl) (v := (str l)) (fun w' hk => ?_) ?_
  · go_simp
  simp only [Act.put, List.setIfInBounds_toArray, List.set_cons_zero, List.set_cons_succ]
  refine WE.pure (d := some 5) rfl rfl (by rfl) (v := (.bool false)) (fun w' hk => ?_) ?_
  · go_simp
  simp only [Act.put, List.setIfInBounds_toArray, List.set_cons_zero, List.set_cons_succ]
  refine WE.done ?_
  go_upto_region 2 with (fail)
  refine wp_region_T [(0, 0), (1, 0), (2, 0), (3, 0), (4, 0), (5, 0), (6, 0), (7, 0), (8, 0), (9, 0), (10, 0), (11, 0), (12, 0), (13, 1), (14, 0), (15, 0)] (by kernel_rfl) fun wd hb => ?_
  replace E := hid (E.out.trans hb)
  replace B1 := hid (B1.out.up hb)
  clear hb
  refine WE.pure (d := some 7) rfl rfl (by rfl) (v := (str l)) (fun w' hk => ?_) ?_
  · go_simp
  simp only [Act.put, List.setIfInBounds_toArray, List.set_cons_zero, List.set_cons_succ]
  refine WE.pure (d := some 8) rfl rfl (by rfl) (v := (.int .i64 (l.length : Int))) (fun w' hk => ?_) ?_
  · go_simp
  simp only [Act.put, List.setIfInBounds_toArray, List.set_cons_zero, List.set_cons_succ]
  refine WE.pure (d := some 9) rfl rfl (by rfl) (v := (.bool true)) (fun w' hk => ?_) ?_
  · have q := H1.out; go_simp
  simp only [Act.put, List.setIfInBounds_toArray, List.set_cons_zero, List.set_cons_succ]
  refine WE.pure (d := some 10) rfl rfl (by rfl) (v := (.bool true)) (fun w' hk => ?_) ?_
  · go_simp
  simp only [Act.put, List.setIfInBounds_toArray, List.set_cons_zero, List.set_cons_succ]
  refine WE.pure (d := some 11) rfl rfl (by rfl) (v := (str l)) (fun w' hk => ?_) ?_
  · go_simp
  simp only [Act.put, List.setIfInBounds_toArray, List.set_cons_zero, List.set_cons_succ]
  refine WE.pure (d := some 12) rfl rfl (by rfl) (v := (str (l.take 3))) (fun w' hk => ?_) ?_
  · have q9 : 3 ≤ l.length := (by have := H1.out; simp at this; omega); have q8 : ¬ (l.length : Int) < 3 := (by omega); have q := ext_str l 0 3; go_simp
  simp only [Act.put, List.setIfInBounds_toArray, List.set_cons_zero, List.set_cons_succ]
  refine WE.pure (d := some 13) rfl rfl (by rfl) (v := (.bool false)) (fun w' hk => ?_) ?_
  · have q := H2.out; go_simp
  simp only [Act.put, List.setIfInBounds_toArray, List.set_cons_zero, List.set_cons_succ]
  refine WE.pure (d := some 14) rfl rfl (by rfl) (v := (.bool false)) (fun w' hk => ?_) ?_
  · go_simp
  simp only [Act.put, List.setIfInBounds_toArray, List.set_cons_zero, List.set_cons_succ]
  refine WE.pure (d := some 15) rfl rfl (by rfl) (v := (.bool false)) (fun w' hk => ?_) ?_
  · go_simp
  simp only [Act.put, List.setIfInBounds_toArray, List.set_cons_zero, List.set_cons_succ]
  refine WE.skip (d := some 16) rfl rfl (by rfl) ?_
  simp only [Act.put, List.setIfInBounds_toArray, List.set_cons_zero, List.set_cons_succ]
  refine WE.skip (d := some 17) rfl rfl (by rfl) ?_
  simp only [Act.put, List.setIfInBounds_toArray, List.set_cons_zero, List.set_cons_succ]
  refine WE.skip (d := some 18) rfl rfl (by rfl) ?_
  simp only [Act.put, List.setIfInBounds_toArray, List.set_cons_zero, List.set_cons_succ]
  refine WE.skip (d := some 19) rfl rfl (by rfl) ?_
  simp only [Act.put, List.setIfInBounds_toArray, List.set_cons_zero, List.set_cons_succ]
  refine WE.pass (d := some 20) rfl rfl (by rfl) ?_
  simp only [Act.put, List.setIfInBounds_toArray, List.set_cons_zero, List.set_cons_succ]
  refine WE.skip (d := some 21) rfl rfl (by rfl) ?_
  simp only [Act.put, List.setIfInBounds_toArray, List.set_cons_zero, List.set_cons_succ]
  refine WE.pure (d := some 22) rfl rfl (by rfl) (v := (.bool false)) (fun w' hk => ?_) ?_
  · go_simp
  simp only [Act.put, List.setIfInBounds_toArray, List.set_cons_zero, List.set_cons_succ]
  refine WE.done ?_
  go_upto_region 4 with (fail)
  refine wp_region_T [(0, 0), (1, 1), (2, 0), (3, 0), (4, 0), (5, 0), (6, 0), (7, 0), (8, 0), (9, 0)] (by kernel_rfl) fun wd hb => ?_
  replace E := hid (E.out.trans hb)
  replace B1 := hid (B1.out.up hb)
  clear hb
  refine WE.pure (d := some 28) rfl rfl (by rfl) (v := (str l)) (fun w' hk => ?_) ?_
  · go_simp
  simp only [Act.put, List.setIfInBounds_toArray, List.set_cons_zero, List.set_cons_succ]
  refine WE.call (d := some 29) rfl rfl (by rfl) (f := 16) (args := #[(str l)]) (by go_simp) ?_
  refine (rNumeral_n l _ (Nat.le_trans HL.out (by decide))).mono ?_
  rw [HNU.out]
  rintro e wq ⟨rfl, rfl⟩
  refine ⟨_, rfl, Ext.refl _, ?_⟩
  simp only [Act.put, List.setIfInBounds_toArray, List.set_cons_zero, List.set_cons_succ]
  refine WE.pure (d := some 30) rfl rfl (by rfl) (v := (.bool true)) (fun w' hk => ?_) ?_
  · go_simp
  simp only [Act.put, List.setIfInBounds_toArray, List.set_cons_zero, List.set_cons_succ]
  refine WE.pure (d := some 31) rfl rfl (by rfl) (v := (.bool true)) (fun w' hk => ?_) ?_
  · go_simp
  simp only [Act.put, List.setIfInBounds_toArray, List.set_cons_zero, List.set_cons_succ]
  refine WE.skip (d := some 32) rfl rfl (by rfl) ?_
  simp only [Act.put, List.setIfInBounds_toArray, List.set_cons_zero, List.set_cons_succ]
  refine WE.skip (d := some 33) rfl rfl (by rfl) ?_
  simp only [Act.put, List.setIfInBounds_toArray, List.set_cons_zero, List.set_cons_succ]
  refine WE.skip (d := some 34) rfl rfl (by rfl) ?_
  simp only [Act.put, List.setIfInBounds_toArray, List.set_cons_zero, List.set_cons_succ]
  refine WE.skip (d := some 35) rfl rfl (by rfl) ?_
  simp only [Act.put, List.setIfInBounds_toArray, List.set_cons_zero, List.set_cons_succ]
  refine WE.skip (d := some 36) rfl rfl (by rfl) ?_
  simp only [Act.put, List.setIfInBounds_toArray, List.set_cons_zero, List.set_cons_succ]
  refine WE.pure (d := some 37) rfl rfl (by rfl) (v := (.bool true)) (fun w' hk => ?_) ?_
  · go_simp
  simp only [Act.put, List.setIfInBounds_toArray, List.set_cons_zero, List.set_cons_succ]
  refine WE.done ?_
  go_upto_region 5 with (fail)
  refine wp_region_T [(0, 0), (1, 4), (2, 0)] (by kernel_rfl) fun wd hb => ?_
  replace E := hid (E.out.trans hb)
  replace B1 := hid (B1.out.up hb)
  clear hb
  refine WE.pure (d := some 38) rfl rfl (by rfl) (v := (.agg #[.bool false, .slice none 0 0])) (fun w' hk => ?_) ?_
  · go_simp
  simp only [Act.put, List.setIfInBounds_toArray, List.set_cons_zero, List.set_cons_succ]
  refine WE.store2 (g := (w.heap.size)) (x := .bool false) (y := .slice none 0 0) (t := 24) rfl rfl (by rfl) (fun w hb => ?_) B1.out (by rfl) fun ws hk hs => ?_
  · have c0 := hb.cell (o := 0) (v := .bool false) rfl; have f0 := hb.free 0; have c1 := hb.cell (o := 1) (v := .slice none 0 0) rfl; have f1 := hb.free 1; go_simp
  intro hbx
  replace E := hid (E.out.keptG hk (by simp))
  replace B1 := hid hbx
  clear hk hs hbx
  refine WE.pure (d := some 3) rfl rfl (by rfl) (v := (.int .i64 (10))) (fun w' hk => ?_) ?_
  · go_simp
  simp only [Act.put, List.setIfInBounds_toArray, List.set_cons_zero, List.set_cons_succ]
  refine WE.done ?_
  have r0 := B1.out.cell (o := 0) (v := .bool false) rfl
  have r1 := B1.out.cell (o := 1) (v := .slice none 0 0) rfl
  go_wp2
  exact bodyPost_ret (v := .tuple #[.agg #[.bool false, .slice none 0 0], .int .i64 10]) (by simp [results, Tryd.results10, go_sem, r0, r1]) rfl ⟨_, rfl, IsZ.nil.wide (Nat.zero_le _), E.out⟩

set_option maxHeartbeats 1000000 in
theorem rparse_b_big {l : List UInt8} (hl : l.length ≤ 1000000) (h1 : decide (4 < (l.length : Int)) = true) (h2 : (l.take 3 == [40, 45, 32]) = false) (hnu : M.numeral l = true) (hb : decide (360 < (l.length : Int)) = true) (w : World) :
    Calls Tryd.prog 10 #[str l] w (GivesP w 0 (M.limbs (M.num l)).length 11) := by
  obtain ⟨n1, hn1⟩ : ∃ n1, n1 = l.length - 1 := ⟨_, rfl⟩
  have HN1 := hid hn1
  clear hn1
  have HL := hid hl
  have H1 := hid h1
  have H2 := hid h2
  have HNU := hid hnu
  have HB := hid hb
  clear hl h1 h2 hnu hb
  go_enter Tryd.func10, Tryd.ntmps10
  go_upto_region 1 with (fail)
  have E := hid ((Ext.refl w).alloc' (.cells #[.bool false, .slice none 0 0] 24))
  have B1 : Hid (Box (w.alloc (.cells #[.bool false, .slice none 0 0] 24)) (w.heap.size) #[.bool false, .slice none 0 0] 24) := hid (Box.at_ (w := w) #[.bool false, .slice none 0 0] 24 (by simp))
  refine wp_region_T [(0, 0), (1, 0), (2, 0)] (by kernel_rfl) fun wd hb => ?_
  replace E := hid (E.out.trans hb)
  replace B1 := hid (B1.out.up hb)
  clear hb
  refine WE.pure (d := some 6) rfl rfl (by rfl) (v := (str l)) (fun w' hk => ?_) ?_
  · go_simp
  simp only [Act.put, List.setIfInBounds_toArray, List.set_cons_zero, List.set_cons_succ]
  refine WE.pure (d := some 4) rfl rfl (by rfl) (v := (str l)) (fun w' hk => ?_) ?_
  · go_simp
  simp only [Act.put, List.setIfInBounds_toArray, List.set_cons_zero, List.set_cons_succ]
  refine WE.pure (d := some 5) rfl rfl (by rfl) (v := (.bool false)) (fun w' hk => ?_) ?_
  · go_simp
  simp only [Act.put, List.setIfInBounds_toArray, List.set_cons_zero, List.set_cons_succ]
  refine WE.done ?_
  go_upto_region 2 with (fail)
  refine wp_region_T [(0, 0), (1, 0), (2, 0), (3, 0), (4, 0), (5, 0), (6, 0), (7, 0), (8, 0), (9, 0), (10, 0), (11, 0), (12, 0), (13, 1), (14, 0), (15, 0)] (by kernel_rfl) fun wd hb => ?_
  replace E := hid (E.out.trans hb)
  replace B1 := hid (B1.out.up hb)
  clear hb
  refine WE.pure (d := some 7) rfl rfl (by rfl) (v := (str l)) (fun w' hk => ?_) ?_
  · go_simp
  simp only [Act.put, List.setIfInBounds_toArray, List.set_cons_zero, List.set_cons_succ]
  refine WE.pure (d := some 8) rfl rfl (by rfl) (v := (.int .i64 (l.length : Int))) (fun w' hk => ?_) ?_
  · go_simp
  simp only [Act.put, List.setIfInBounds_toArray, List.set_cons_zero, List.set_cons_succ]
  refine WE.pure (d := some 9) rfl rfl (by rfl) (v := (.bool true)) (fun w' hk => ?_) ?_
  · have q := H1.out; go_simp
  simp only [Act.put, List.setIfInBounds_toArray, List.set_cons_zero, List.set_cons_succ]
  refine WE.pure (d := some 10) rfl rfl (by rfl) (v := (.bool true)) (fun w' hk => ?_) ?_
  · go_simp
  simp only [Act.put, List.setIfInBounds_toArray, List.set_cons_zero, List.set_cons_succ]
  refine WE.pure (d := some 11) rfl rfl (by rfl) (v := (str l)) (fun w' hk => ?_) ?_
  · go_simp
  simp only [Act.put, List.setIfInBounds_toArray, List.set_cons_zero, List.set_cons_succ]
  refine WE.pure (d := some 12) rfl rfl (by rfl) (v := (str (l.take 3))) (fun w' hk => ?_) ?_
  · have q9 : 3 ≤ l.length := (by have := H1.out; simp at this; omega); have q8 : ¬ (l.length : Int) < 3 := (by omega); have q := ext_str l 0 3; go_simp
  simp only [Act.put, List.setIfInBounds_toArray, List.set_cons_zero, List.set_cons_succ]
  refine WE.pure (d := some 13) rfl rfl (by rfl) (v := (.bool false)) (fun w' hk => ?_) ?_
  · have q := H2.out; go_simp
  simp only [Act.put, List.setIfInBounds_toArray, List.set_cons_zero, List.set_cons_succ]
  refine WE.pure (d := some 14) rfl rfl (by rfl) (v := (.bool false)) (fun w' hk => ?_) ?_
  · go_simp
  simp only [Act.put, List.setIfInBounds_toArray, List.set_cons_zero, List.set_cons_succ]
  refine WE.pure (d := some 15) rfl rfl (by rfl) (v := (.bool false)) (fun w' hk => ?_) ?_
  · go_simp
  simp only [Act.put, List.setIfInBounds_toArray, List.set_cons_zero, List.set_cons_succ]
  refine WE.skip (d := some 16) rfl rfl (by rfl) ?_
  simp only [Act.put, List.setIfInBounds_toArray, List.set_cons_zero, List.set_cons_succ]
  refine WE.skip (d := some 17) rfl rfl (by rfl) ?_
  simp only [Act.put, List.setIfInBounds_toArray, List.set_cons_zero, List.set_cons_succ]
  refine WE.skip (d := some 18) rfl rfl (by rfl) ?_
  simp only [Act.put, List.setIfInBounds_toArray, List.set_cons_zero, List.set_cons_succ]
  refine WE.skip (d := some 19) rfl rfl (by rfl) ?_
  simp only [Act.put, List.setIfInBounds_toArray, List.set_cons_zero, List.set_cons_succ]
  refine WE.pass (d := some 20) rfl rfl (by rfl) ?_
  simp only [Act.put, List.setIfInBounds_toArray, List.set_cons_zero, List.set_cons_succ]
  refine WE.skip (d := some 21) rfl rfl (by rfl) ?_
  simp only [Act.put, List.setIfInBounds_toArray, List.set_cons_zero, List.set_cons_succ]
  refine WE.pure (d := some 22) rfl rfl (by rfl) (v := (.bool false)) (fun w' hk => ?_) ?_
  · go_simp
  simp only [Act.put, List.setIfInBounds_toArray, List.set_cons_zero, List.set_cons_succ]
  refine WE.done ?_
  go_upto_region 4 with (fail)
  refine wp_region_T [(0, 0), (1, 1), (2, 0), (3, 0), (4, 0), (5, 0), (6, 0), (7, 0), (8, 0), (9, 0)] (by kernel_rfl) fun wd hb => ?_
  replace E := hid (E.out.trans hb)
  replace B1 := hid (B1.out.up hb)
  clear hb
  refine WE.pure (d := some 28) rfl rfl (by rfl) (v := (str l)) (fun w' hk => ?_) ?_
  · go_simp
  simp only [Act.put, List.setIfInBounds_toArray, List.set_cons_zero, List.set_cons_succ]
  refine WE.call (d := some 29) rfl rfl (by rfl) (f := 16) (args := #[(str l)]) (by go_simp) ?_
  refine (rNumeral_n l _ (Nat.le_trans HL.out (by decide))).mono ?_
  rw [HNU.out]
  rintro e wq ⟨rfl, rfl⟩
  refine ⟨_, rfl, Ext.refl _, ?_⟩
  simp only [Act.put, List.setIfInBounds_toArray, List.set_cons_zero, List.set_cons_succ]
  refine WE.pure (d := some 30) rfl rfl (by rfl) (v := (.bool false)) (fun w' hk => ?_) ?_
  · go_simp
  simp only [Act.put, List.setIfInBounds_toArray, List.set_cons_zero, List.set_cons_succ]
  refine WE.pure (d := some 31) rfl rfl (by rfl) (v := (.bool false)) (fun w' hk => ?_) ?_
  · go_simp
  simp only [Act.put, List.setIfInBounds_toArray, List.set_cons_zero, List.set_cons_succ]
  refine WE.pure (d := some 32) rfl rfl (by rfl) (v := (.bool false)) (fun w' hk => ?_) ?_
  · go_simp
  simp only [Act.put, List.setIfInBounds_toArray, List.set_cons_zero, List.set_cons_succ]
  refine WE.pure (d := some 33) rfl rfl (by rfl) (v := (.bool false)) (fun w' hk => ?_) ?_
  · go_simp
  simp only [Act.put, List.setIfInBounds_toArray, List.set_cons_zero, List.set_cons_succ]
  refine WE.skip (d := some 34) rfl rfl (by rfl) ?_
  simp only [Act.put, List.setIfInBounds_toArray, List.set_cons_zero, List.set_cons_succ]
  refine WE.skip (d := some 35) rfl rfl (by rfl) ?_
  simp only [Act.put, List.setIfInBounds_toArray, List.set_cons_zero, List.set_cons_succ]
  refine WE.pure (d := some 36) rfl rfl (by rfl) (v := (.bool false)) (fun w' hk => ?_) ?_
  · go_simp
  simp only [Act.put, List.setIfInBounds_toArray, List.set_cons_zero, List.set_cons_succ]
  refine WE.pure (d := some 37) rfl rfl (by rfl) (v := (.bool false)) (fun w' hk => ?_) ?_
  · go_simp
  simp only [Act.put, List.setIfInBounds_toArray, List.set_cons_zero, List.set_cons_succ]
  refine WE.done ?_
  go_upto_region 6 with (fail)
  refine wp_region_T [(0, 0), (1, 0), (2, 0)] (by kernel_rfl) fun wd hb => ?_
  replace E := hid (E.out.trans hb)
  replace B1 := hid (B1.out.up hb)
  clear hb
  refine WE.pure (d := some 39) rfl rfl (by rfl) (v := (str l)) (fun w' hk => ?_) ?_
  · go_simp
  simp only [Act.put, List.setIfInBounds_toArray, List.set_cons_zero, List.set_cons_succ]
  refine WE.pure (d := some 40) rfl rfl (by rfl) (v := (.int .i64 (l.length : Int))) (fun w' hk => ?_) ?_
  · go_simp
  simp only [Act.put, List.setIfInBounds_toArray, List.set_cons_zero, List.set_cons_succ]
  refine WE.pure (d := some 41) rfl rfl (by rfl) (v := (.bool true)) (fun w' hk => ?_) ?_
  · have q := HB.out; go_simp
  simp only [Act.put, List.setIfInBounds_toArray, List.set_cons_zero, List.set_cons_succ]
  refine WE.done ?_
  go_upto_region 7 with (fail)
  refine wp_region_T [(0, 0), (1, 4), (2, 0)] (by kernel_rfl) fun wd hb => ?_
  replace E := hid (E.out.trans hb)
  replace B1 := hid (B1.out.up hb)
  clear hb
  refine WE.pure (d := some 42) rfl rfl (by rfl) (v := (.agg #[.bool false, .slice none 0 0])) (fun w' hk => ?_) ?_
  · go_simp
  simp only [Act.put, List.setIfInBounds_toArray, List.set_cons_zero, List.set_cons_succ]
  refine WE.store2 (g := (w.heap.size)) (x := .bool false) (y := .slice none 0 0) (t := 24) rfl rfl (by rfl) (fun w hb => ?_) B1.out (by rfl) fun ws hk hs => ?_
  · have c0 := hb.cell (o := 0) (v := .bool false) rfl; have f0 := hb.free 0; have c1 := hb.cell (o := 1) (v := .slice none 0 0) rfl; have f1 := hb.free 1; go_simp
  intro hbx
  replace E := hid (E.out.keptG hk (by simp))
  replace B1 := hid hbx
  clear hk hs hbx
  refine WE.pure (d := some 3) rfl rfl (by rfl) (v := (.int .i64 (11))) (fun w' hk => ?_) ?_
  · go_simp
  simp only [Act.put, List.setIfInBounds_toArray, List.set_cons_zero, List.set_cons_succ]
  refine WE.done ?_
  have r0 := B1.out.cell (o := 0) (v := .bool false) rfl
  have r1 := B1.out.cell (o := 1) (v := .slice none 0 0) rfl
  go_wp2
  exact bodyPost_ret (v := .tuple #[.agg #[.bool false, .slice none 0 0], .int .i64 11]) (by simp [results, Tryd.results10, go_sem, r0, r1]) rfl ⟨_, rfl, IsZ.nil.wide (Nat.zero_le _), E.out⟩

set_option maxHeartbeats 1000000 in
theorem rparse_b_good {l : List UInt8} (hl : l.length ≤ 1000000) (h1 : decide (4 < (l.length : Int)) = true) (h2 : (l.take 3 == [40, 45, 32]) = false) (hnu : M.numeral l = true) (hb : decide (360 < (l.length : Int)) = false) (w : World) :
    Calls Tryd.prog 10 #[str l] w (GivesP w (M.num l : Int) (M.limbs (M.num l)).length 0) := by
  obtain ⟨n1, hn1⟩ : ∃ n1, n1 = l.length - 1 := ⟨_, rfl⟩
  have HN1 := hid hn1
  clear hn1
  have HL := hid hl
  have H1 := hid h1
  have H2 := hid h2
  have HNU := hid hnu
  have HB := hid hb
  clear hl h1 h2 hnu hb
  go_enter Tryd.func10, Tryd.ntmps10
  go_upto_region 1 with (fail)
  have E := hid ((Ext.refl w).alloc' (.cells #[.bool false, .slice none 0 0] 24))
  have B1 : Hid (Box (w.alloc (.cells #[.bool false, .slice none 0 0] 24)) (w.heap.size) #[.bool false, .slice none 0 0] 24) := hid (Box.at_ (w := w) #[.bool false, .slice none 0 0] 24 (by simp))
  refine wp_region_T [(0, 0), (1, 0), (2, 0)] (by kernel_rfl) fun wd hb => ?_
  replace E := hid (E.out.trans hb)
  replace B1 := hid (B1.out.up hb)
  clear hb
  refine WE.pure (d := some 6) rfl rfl (by rfl) (v := (str l)) (fun w' hk => ?_) ?_
  · go_simp
  simp only [Act.put, List.setIfInBounds_toArray, List.set_cons_zero, List.set_cons_succ]
  refine WE.pure (d := some 4) rfl rfl (by rfl) (v := (str l)) (fun w' hk => ?_) ?_
  · go_simp
  simp only [Act.put, List.setIfInBounds_toArray, List.set_cons_zero, List.set_cons_succ]
  refine WE.pure (d := some 5) rfl rfl (by rfl) (v := (.bool false)) (fun w' hk => ?_) ?_
  · go_simp
  simp only [Act.put, List.setIfInBounds_toArray, List.set_cons_zero, List.set_cons_succ]
  refine WE.done ?_
  go_upto_region 2 with (fail)
  refine wp_region_T [(0, 0), (1, 0), (2, 0), (3, 0), (4, 0), (5, 0), (6, 0), (7, 0), (8, 0), (9, 0), (10, 0), (11, 0), (12, 0), (13, 1), (14, 0), (15, 0)] (by kernel_rfl) fun wd hb => ?_
  replace E := hid (E.out.trans hb)
  replace B1 := hid (B1.out.up hb)
  clear hb
  refine WE.pure (d := some 7) rfl rfl (by rfl) (v := (str l)) (fun w' hk => ?_) ?_
  · go_simp
  simp only [Act.put, List.setIfInBounds_toArray, List.set_cons_zero, List.set_cons_succ]
  refine WE.pure (d := some 8) rfl rfl (by rfl) (v := (.int .i64 (l.length : Int))) (fun w' hk => ?_) ?_
  · go_simp
  simp only [Act.put, List.setIfInBounds_toArray, List.set_cons_zero, List.set_cons_succ]
  refine WE.pure (d := some 9) rfl rfl (by rfl) (v := (.bool true)) (fun w' hk => ?_) ?_
  · have q := H1.out; go_simp
  simp only [Act.put, List.setIfInBounds_toArray, List.set_cons_zero, List.set_cons_succ]
  refine WE.pure (d := some 10) rfl rfl (by rfl) (v := (.bool true)) (fun w' hk => ?_) ?_
  · go_simp
  simp only [Act.put, List.setIfInBounds_toArray, List.set_cons_zero, List.set_cons_succ]
  refine WE.pure (d := some 11) rfl rfl (by rfl) (v := (str l)) (fun w' hk => ?_) ?_
  · go_simp
  simp only [Act.put, List.setIfInBounds_toArray, List.set_cons_zero, List.set_cons_succ]
  refine WE.pure (d := some 12) rfl rfl (by rfl) (v := (str (l.take 3))) (fun w' hk => ?_) ?_
  · have q9 : 3 ≤ l.length := (by have := H1.out; simp at this; omega); have q8 : ¬ (l.length : Int) < 3 := (by omega); have q := ext_str l 0 3; go_simp
  simp only [Act.put, List.setIfInBounds_toArray, List.set_cons_zero, List.set_cons_succ]
  refine WE.pure (d := some 13) rfl rfl (by rfl) (v := (.bool false)) (fun w' hk => ?_) ?_
  · have q := H2.out; go_simp
  simp only [Act.put, List.setIfInBounds_toArray, List.set_cons_zero, List.set_cons_succ]
  refine WE.pure (d := some 14) rfl rfl (by rfl) (v := (.bool false)) (fun w' hk => ?_) ?_
  · go_simp
  simp only [Act.put, List.setIfInBounds_toArray, List.set_cons_zero, List.set_cons_succ]
  refine WE.pure (d := some 15) rfl rfl (by rfl) (v := (.bool false)) (fun w' hk => ?_) ?_
  · go_simp
  simp only [Act.put, List.setIfInBounds_toArray, List.set_cons_zero, List.set_cons_succ]
  refine WE.skip (d := some 16) rfl rfl (by rfl) ?_
  simp only [Act.put, List.setIfInBounds_toArray, List.set_cons_zero, List.set_cons_succ]
  refine WE.skip (d := some 17) rfl rfl (by rfl) ?_
  simp only [Act.put, List.setIfInBounds_toArray, List.set_cons_zero, List.set_cons_succ]
  refine WE.skip (d := some 18) rfl rfl (by rfl) ?_
  simp only [Act.put, List.setIfInBounds_toArray, List.set_cons_zero, List.set_cons_succ]
  refine WE.skip (d := some 19) rfl rfl (by rfl) ?_
  simp only [Act.put, List.setIfInBounds_toArray, List.set_cons_zero, List.set_cons_succ]
  refine WE.pass (d := some 20) rfl rfl (by rfl) ?_
  simp only [Act.put, List.setIfInBounds_toArray, List.set_cons_zero, List.set_cons_succ]
  refine WE.skip (d := some 21) rfl rfl (by rfl) ?_
  simp only [Act.put, List.setIfInBounds_toArray, List.set_cons_zero, List.set_cons_succ]
  refine WE.pure (d := some 22) rfl rfl (by rfl) (v := (.bool false)) (fun w' hk => ?_) ?_
  · go_simp
  simp only [Act.put, List.setIfInBounds_toArray, List.set_cons_zero, List.set_cons_succ]
  refine WE.done ?_
  go_upto_region 4 with (fail)
  refine wp_region_T [(0, 0), (1, 1), (2, 0), (3, 0), (4, 0), (5, 0), (6, 0), (7, 0), (8, 0), (9, 0)] (by kernel_rfl) fun wd hb => ?_
  replace E := hid (E.out.trans hb)
  replace B1 := hid (B1.out.up hb)
  clear hb
  refine WE.pure (d := some 28) rfl rfl (by rfl) (v := (str l)) (fun w' hk => ?_) ?_
  · go_simp
  simp only [Act.put, List.setIfInBounds_toArray, List.set_cons_zero, List.set_cons_succ]
  refine WE.call (d := some 29) rfl rfl (by rfl) (f := 16) (args := #[(str l)]) (by go_simp) ?_
  refine (rNumeral_n l _ (Nat.le_trans HL.out (by decide))).mono ?_
  rw [HNU.out]
  rintro e wq ⟨rfl, rfl⟩
  refine ⟨_, rfl, Ext.refl _, ?_⟩
  simp only [Act.put, List.setIfInBounds_toArray, List.set_cons_zero, List.set_cons_succ]
  refine WE.pure (d := some 30) rfl rfl (by rfl) (v := (.bool false)) (fun w' hk => ?_) ?_
  · go_simp
  simp only [Act.put, List.setIfInBounds_toArray, List.set_cons_zero, List.set_cons_succ]
  refine WE.pure (d := some 31) rfl rfl (by rfl) (v := (.bool false)) (fun w' hk => ?_) ?_
  · go_simp
  simp only [Act.put, List.setIfInBounds_toArray, List.set_cons_zero, List.set_cons_succ]
  refine WE.pure (d := some 32) rfl rfl (by rfl) (v := (.bool false)) (fun w' hk => ?_) ?_
  · go_simp
  simp only [Act.put, List.setIfInBounds_toArray, List.set_cons_zero, List.set_cons_succ]
  refine WE.pure (d := some 33) rfl rfl (by rfl) (v := (.bool false)) (fun w' hk => ?_) ?_
  · go_simp
  simp only [Act.put, List.setIfInBounds_toArray, List.set_cons_zero, List.set_cons_succ]
  refine WE.skip (d := some 34) rfl rfl (by rfl) ?_
  simp only [Act.put, List.setIfInBounds_toArray, List.set_cons_zero, List.set_cons_succ]
  refine WE.skip (d := some 35) rfl rfl (by rfl) ?_
  simp only [Act.put, List.setIfInBounds_toArray, List.set_cons_zero, List.set_cons_succ]
  refine WE.pure (d := some 36) rfl rfl (by rfl) (v := (.bool false)) (fun w' hk => ?_) ?_
  · go_simp
  simp only [Act.put, List.setIfInBounds_toArray, List.set_cons_zero, List.set_cons_succ]
  refine WE.pure (d := some 37) rfl rfl (by rfl) (v := (.bool false)) (fun w' hk => ?_) ?_
  · go_simp
  simp only [Act.put, List.setIfInBounds_toArray, List.set_cons_zero, List.set_cons_succ]
  refine WE.done ?_
  go_upto_region 6 with (fail)
  refine wp_region_T [(0, 0), (1, 0), (2, 0)] (by kernel_rfl) fun wd hb => ?_
  replace E := hid (E.out.trans hb)
  replace B1 := hid (B1.out.up hb)
  clear hb
  refine WE.pure (d := some 39) rfl rfl (by rfl) (v := (str l)) (fun w' hk => ?_) ?_
  · go_simp
  simp only [Act.put, List.setIfInBounds_toArray, List.set_cons_zero, List.set_cons_succ]
  refine WE.pure (d := some 40) rfl rfl (by rfl) (v := (.int .i64 (l.length : Int))) (fun w' hk => ?_) ?_
  · go_simp
  simp only [Act.put, List.setIfInBounds_toArray, List.set_cons_zero, List.set_cons_succ]
  refine WE.pure (d := some 41) rfl rfl (by rfl) (v := (.bool false)) (fun w' hk => ?_) ?_
  · have q := HB.out; go_simp
  simp only [Act.put, List.setIfInBounds_toArray, List.set_cons_zero, List.set_cons_succ]
  refine WE.done ?_
  go_upto_region 8 with (fail)
  refine wp_region_T [(0, 0), (1, 0), (2, 1), (3, 1), (4, 4), (5, 0)] (by kernel_rfl) fun wd hb => ?_
  replace E := hid (E.out.trans hb)
  replace B1 := hid (B1.out.up hb)
  clear hb
  refine WE.pure (d := some 43) rfl rfl (by rfl) (v := (.bool false)) (fun w' hk => ?_) ?_
  · go_simp
  simp only [Act.put, List.setIfInBounds_toArray, List.set_cons_zero, List.set_cons_succ]
  refine WE.pure (d := some 44) rfl rfl (by rfl) (v := (str l)) (fun w' hk => ?_) ?_
  · go_simp
  simp only [Act.put, List.setIfInBounds_toArray, List.set_cons_zero, List.set_cons_succ]
  refine WE.call (d := some 45) rfl rfl (by rfl) (f := 28) (args := #[(str l)]) (by go_simp) ?_
  refine (rnatural_N l (M.numeral_all' HNU.out) HL.out _).mono ?_
  rintro e wn ⟨vx, rfl, hx, hb⟩
  obtain ⟨A1, n1, c1, rfl⟩ := hx.1.slice
  refine ⟨_, rfl, hb, ?_⟩
  replace E := hid (E.out.trans hb)
  replace B1 := hid (B1.out.up hb)
  have R1 := hid hx
  clear hb hx
  simp only [Act.put, List.setIfInBounds_toArray, List.set_cons_zero, List.set_cons_succ]
  refine WE.call (d := some 46) rfl rfl (by rfl) (f := 27) (args := #[(.bool false), (.slice A1 n1 c1)]) (by go_simp) ?_
  refine (rsign_n R1.out (Z := (M.num l : Int)) (by simp) (fun hne => by rw [eq_comm, decide_eq_false_iff_not]; omega)).mono ?_
  rintro e wn ⟨vx, rfl, hx, hb⟩
  obtain ⟨g2, A2, n2, c2, rfl, hs2, hr2⟩ := hx.form
  clear hx
  refine ⟨_, rfl, hb, ?_⟩
  replace E := hid (E.out.trans hb)
  replace B1 := hid (B1.out.up hb)
  replace R1 := hid (R1.out.up hb)
  have HS2 := hid hs2
  have R2 := hid hr2
  clear hb hs2 hr2
  simp only [Act.put, List.setIfInBounds_toArray, List.set_cons_zero, List.set_cons_succ]
  refine WE.store2 (g := (w.heap.size)) (x := .bool g2) (y := .slice A2 n2 c2) (t := 24) rfl rfl (by rfl) (fun w hb => ?_) B1.out (by rfl) fun ws hk hs => ?_
  · have c0 := hb.cell (o := 0) (v := .bool false) rfl; have f0 := hb.free 0; have c1 := hb.cell (o := 1) (v := .slice none 0 0) rfl; have f1 := hb.free 1; go_simp
  intro hbx
  replace E := hid (E.out.keptG hk (by simp))
  replace B1 := hid hbx
  replace R1 := hid (R1.out.kz hs)
  replace R2 := hid (R2.out.kz hs)
  clear hk hs hbx
  refine WE.pure (d := some 3) rfl rfl (by rfl) (v := (.int .i64 (0))) (fun w' hk => ?_) ?_
  · go_simp
  simp only [Act.put, List.setIfInBounds_toArray, List.set_cons_zero, List.set_cons_succ]
  refine WE.done ?_
  have r0 := B1.out.cell (o := 0) (v := .bool g2) rfl
  have r1 := B1.out.cell (o := 1) (v := .slice A2 n2 c2) rfl
  go_wp2
  exact bodyPost_ret (v := .tuple #[.agg #[.bool g2, .slice A2 n2 c2], .int .i64 0]) (by simp [results, Tryd.results10, go_sem, r0, r1]) rfl ⟨_, rfl, IsZ.mk HS2.out R2.out, E.out⟩

set_option maxHeartbeats 1000000 in
theorem rparse_c_no {l : List UInt8} (hl : l.length ≤ 1000000) (h1 : decide (4 < (l.length : Int)) = true) (h2 : (l.take 3 == [40, 45, 32]) = true) {ch : UInt8} (hc : l[l.length - 1]? = some ch) (h3 : (ch.toNat == 41) = false) (hnu : M.numeral l = false) (w : World) :
    Calls Tryd.prog 10 #[str l] w (GivesP w 0 (M.limbs (M.num l)).length 10) := by
  obtain ⟨n1, hn1⟩ : ∃ n1, n1 = l.length - 1 := ⟨_, rfl⟩
  rw [← hn1] at hc
  have HN1 := hid hn1
  clear hn1
  have HL := hid hl
  have H1 := hid h1
  have H2 := hid h2
  have HC := hid hc
  have H3 := hid h3
  have HNU := hid hnu
  clear hl h1 h2 hc h3 hnu
  go_enter Tryd.func10, Tryd.ntmps10
  go_upto_region 1 with (fail)
  have E := hid ((Ext.refl w).alloc' (.cells #[.bool false, .slice none 0 0] 24))
  have B1 : Hid (Box (w.alloc (.cells #[.bool false, .slice none 0 0] 24)) (w.heap.size) #[.bool false, .slice none 0 0] 24) := hid (Box.at_ (w := w) #[.bool false, .slice none 0 0] 24 (by simp))
  refine wp_region_T [(0, 0), (1, 0), (2, 0)] (by kernel_rfl) fun wd hb => ?_
  replace E := hid (E.out.trans hb)
  replace B1 := hid (B1.out.up hb)
  clear hb
  refine WE.pure (d := some 6) rfl rfl (by rfl) (v := (str l)) (fun w' hk => ?_) ?_
  · go_simp
  simp only [Act.put, List.setIfInBounds_toArray, List.set_cons_zero, List.set_cons_succ]
  refine WE.pure (d := some 4) rfl rfl (by rfl) (v := (str l)) (fun w' hk => ?_) ?_
  · go_simp
  simp only [Act.put, List.setIfInBounds_toArray, List.set_cons_zero, List.set_cons_succ]
  refine WE.pure (d := some 5) rfl rfl (by rfl) (v := (.bool false)) (fun w' hk => ?_) ?_
  · go_simp
  simp only [Act.put, List.setIfInBounds_toArray, List.set_cons_zero, List.set_cons_succ]
  refine WE.done ?_
  go_upto_region 2 with (fail)
  refine wp_region_T [(0, 0), (1, 0), (2, 0), (3, 0), (4, 0), (5, 0), (6, 0), (7, 0), (8, 0), (9, 0), (10, 0), (11, 0), (12, 0), (13, 1), (14, 0), (15, 0)] (by kernel_rfl) fun wd hb => ?_
  replace E := hid (E.out.trans hb)
  replace B1 := hid (B1.out.up hb)
  clear hb
  refine WE.pure (d := some 7) rfl rfl (by rfl) (v := (str l)) (fun w' hk => ?_) ?_
  · go_simp
  simp only [Act.put, List.setIfInBounds_toArray, List.set_cons_zero, List.set_cons_succ]
  refine WE.pure (d := some 8) rfl rfl (by rfl) (v := (.int .i64 (l.length : Int))) (fun w' hk => ?_) ?_
  · go_simp
  simp only [Act.put, List.setIfInBounds_toArray, List.set_cons_zero, List.set_cons_succ]
  refine WE.pure (d := some 9) rfl rfl (by rfl) (v := (.bool true)) (fun w' hk => ?_) ?_
  · have q := H1.out; go_simp
  simp only [Act.put, List.setIfInBounds_toArray, List.set_cons_zero, List.set_cons_succ]
  refine WE.pure (d := some 10) rfl rfl (by rfl) (v := (.bool true)) (fun w' hk => ?_) ?_
  · go_simp
  simp only [Act.put, List.setIfInBounds_toArray, List.set_cons_zero, List.set_cons_succ]
  refine WE.pure (d := some 11) rfl rfl (by rfl) (v := (str l)) (fun w' hk => ?_) ?_
  · go_simp
  simp only [Act.put, List.setIfInBounds_toArray, List.set_cons_zero, List.set_cons_succ]
  refine WE.pure (d := some 12) rfl rfl (by rfl) (v := (str (l.take 3))) (fun w' hk => ?_) ?_
  · have q9 : 3 ≤ l.length := (by have := H1.out; simp at this; omega); have q8 : ¬ (l.length : Int) < 3 := (by omega); have q := ext_str l 0 3; go_simp
  simp only [Act.put, List.setIfInBounds_toArray, List.set_cons_zero, List.set_cons_succ]
  refine WE.pure (d := some 13) rfl rfl (by rfl) (v := (.bool true)) (fun w' hk => ?_) ?_
  · have q := H2.out; go_simp
  simp only [Act.put, List.setIfInBounds_toArray, List.set_cons_zero, List.set_cons_succ]
  refine WE.pure (d := some 14) rfl rfl (by rfl) (v := (.bool true)) (fun w' hk => ?_) ?_
  · go_simp
  simp only [Act.put, List.setIfInBounds_toArray, List.set_cons_zero, List.set_cons_succ]
  refine WE.pure (d := some 15) rfl rfl (by rfl) (v := (.bool true)) (fun w' hk => ?_) ?_
  · go_simp
  simp only [Act.put, List.setIfInBounds_toArray, List.set_cons_zero, List.set_cons_succ]
  refine WE.pure (d := some 16) rfl rfl (by rfl) (v := (str l)) (fun w' hk => ?_) ?_
  · go_simp
  simp only [Act.put, List.setIfInBounds_toArray, List.set_cons_zero, List.set_cons_succ]
  refine WE.pure (d := some 17) rfl rfl (by rfl) (v := (str l)) (fun w' hk => ?_) ?_
  · go_simp
  simp only [Act.put, List.setIfInBounds_toArray, List.set_cons_zero, List.set_cons_succ]
  refine WE.pure (d := some 18) rfl rfl (by rfl) (v := (.int .i64 (l.length : Int))) (fun w' hk => ?_) ?_
  · go_simp
  simp only [Act.put, List.setIfInBounds_toArray, List.set_cons_zero, List.set_cons_succ]
  refine WE.pure (d := some 19) rfl rfl (by rfl) (v := (.int .i64 (n1 : Int))) (fun w' hk => ?_) ?_
  · have q : IntKind.i64.wrap ((l.length : Int) - 1) = (n1 : Int) := (by rw [IntKind.wrap_i64]; have := H1.out; have := HN1.out; have := HL.out; simp at *; omega); go_simp
  simp only [Act.put, List.setIfInBounds_toArray, List.set_cons_zero, List.set_cons_succ]
  refine WE.act (d := some 20) (v := (.int .u8 (ch.toNat : Int))) rfl rfl (by rfl) (by have q := idx_str 9 Tryd.underlying9 l n1 ch rfl HC.out; go_simp) (Ext.refl _) ?_
  simp only [Act.put, List.setIfInBounds_toArray, List.set_cons_zero, List.set_cons_succ]
  refine WE.pure (d := some 21) rfl rfl (by rfl) (v := (.bool false)) (fun w' hk => ?_) ?_
  · have q : ((ch.toNat : Int) == 41) = false := (by have := H3.out; simp at this ⊢; omega); go_simp
  simp only [Act.put, List.setIfInBounds_toArray, List.set_cons_zero, List.set_cons_succ]
  refine WE.pure (d := some 22) rfl rfl (by rfl) (v := (.bool false)) (fun w' hk => ?_) ?_
  · go_simp
  simp only [Act.put, List.setIfInBounds_toArray, List.set_cons_zero, List.set_cons_succ]
  refine WE.done ?_
  go_upto_region 4 with (fail)
  refine wp_region_T [(0, 0), (1, 1), (2, 0), (3, 0), (4, 0), (5, 0), (6, 0), (7, 0), (8, 0), (9, 0)] (by kernel_rfl) fun wd hb => ?_
  replace E := hid (E.out.trans hb)
  replace B1 := hid (B1.out.up hb)
  clear hb
  refine WE.pure (d := some 28) rfl rfl (by rfl) (v := (str l)) (fun w' hk => ?_) ?_
  · go_simp
  simp only [Act.put, List.setIfInBounds_toArray, List.set_cons_zero, List.set_cons_succ]
  refine WE.call (d := some 29) rfl rfl (by rfl) (f := 16) (args := #[(str l)]) (by go_simp) ?_
  refine (rNumeral_n l _ (Nat.le_trans HL.out (by decide))).mono ?_
  rw [HNU.out]
  rintro e wq ⟨rfl, rfl⟩
  refine ⟨_, rfl, Ext.refl _, ?_⟩
  simp only [Act.put, List.setIfInBounds_toArray, List.set_cons_zero, List.set_cons_succ]
  refine WE.pure (d := some 30) rfl rfl (by rfl) (v := (.bool true)) (fun w' hk => ?_) ?_
  · go_simp
  simp only [Act.put, List.setIfInBounds_toArray, List.set_cons_zero, List.set_cons_succ]
  refine WE.pure (d := some 31) rfl rfl (by rfl) (v := (.bool true)) (fun w' hk => ?_) ?_
  · go_simp
  simp only [Act.put, List.setIfInBounds_toArray, List.set_cons_zero, List.set_cons_succ]
  refine WE.skip (d := some 32) rfl rfl (by rfl) ?_
  simp only [Act.put, List.setIfInBounds_toArray, List.set_cons_zero, List.set_cons_succ]
  refine WE.skip (d := some 33) rfl rfl (by rfl) ?_
  simp only [Act.put, List.setIfInBounds_toArray, List.set_cons_zero, List.set_cons_succ]
  refine WE.skip (d := some 34) rfl rfl (by rfl) ?_
  simp only [Act.put, List.setIfInBounds_toArray, List.set_cons_zero, List.set_cons_succ]
  refine WE.skip (d := some 35) rfl rfl (by rfl) ?_
  simp only [Act.put, List.setIfInBounds_toArray, List.set_cons_zero, List.set_cons_succ]
  refine WE.skip (d := some 36) rfl rfl (by rfl) ?_
  simp only [Act.put, List.setIfInBounds_toArray, List.set_cons_zero, List.set_cons_succ]
  refine WE.pure (d := some 37) rfl rfl (by rfl) (v := (.bool true)) (fun w' hk => ?_) ?_
  · go_simp
  simp only [Act.put, List.setIfInBounds_toArray, List.set_cons_zero, List.set_cons_succ]
  refine WE.done ?_
  go_upto_region 5 with (fail)
  refine wp_region_T [(0, 0), (1, 4), (2, 0)] (by kernel_rfl) fun wd hb => ?_
  replace E := hid (E.out.trans hb)
  replace B1 := hid (B1.out.up hb)
  clear hb
  refine WE.pure (d := some 38) rfl rfl (by rfl) (v := (.agg #[.bool false, .slice none 0 0])) (fun w' hk => ?_) ?_
  · go_simp
  simp only [Act.put, List.setIfInBounds_toArray, List.set_cons_zero, List.set_cons_succ]
  refine WE.store2 (g := (w.heap.size)) (x := .bool false) (y := .slice none 0 0) (t := 24) rfl rfl (by rfl) (fun w hb => ?_) B1.out (by rfl) fun ws hk hs => ?_
  · have c0 := hb.cell (o := 0) (v := .bool false) rfl; have f0 := hb.free 0; have c1 := hb.cell (o := 1) (v := .slice none 0 0) rfl; have f1 := hb.free 1; go_simp
  intro hbx
  replace E := hid (E.out.keptG hk (by simp))
  replace B1 := hid hbx
  clear hk hs hbx
  refine WE.pure (d := some 3) rfl rfl (by rfl) (v := (.int .i64 (10))) (fun w' hk => ?_) ?_
  · go_simp
  simp only [Act.put, List.setIfInBounds_toArray, List.set_cons_zero, List.set_cons_succ]
  refine WE.done ?_
  have r0 := B1.out.cell (o := 0) (v := .bool false) rfl
  have r1 := B1.out.cell (o := 1) (v := .slice none 0 0) rfl
  go_wp2
  exact bodyPost_ret (v := .tuple #[.agg #[.bool false, .slice none 0 0], .int .i64 10]) (by simp [results, Tryd.results10, go_sem, r0, r1]) rfl ⟨_, rfl, IsZ.nil.wide (Nat.zero_le _), E.out⟩

set_option maxHeartbeats 1000000 in
theorem rparse_c_big {l : List UInt8} (hl : l.length ≤ 1000000) (h1 : decide (4 < (l.length : Int)) = true) (h2 : (l.take 3 == [40, 45, 32]) = true) {ch : UInt8} (hc : l[l.length - 1]? = some ch) (h3 : (ch.toNat == 41) = false) (hnu : M.numeral l = true) (hb : decide (360 < (l.length : Int)) = true) (w : World) :
    Calls Tryd.prog 10 #[str l] w (GivesP w 0 (M.limbs (M.num l)).length 11) := by
  obtain ⟨n1, hn1⟩ : ∃ n1, n1 = l.length - 1 := ⟨_, rfl⟩
  rw [← hn1] at hc
  have HN1 := hid hn1
  clear hn1
  have HL := hid hl
  have H1 := hid h1
  have H2 := hid h2
  have HC := hid hc
  have H3 := hid h3
  have HNU := hid hnu
  have HB := hid hb
  clear hl h1 h2 hc h3 hnu hb
  go_enter Tryd.func10, Tryd.ntmps10
  go_upto_region 1 with (fail)
  have E := hid ((Ext.refl w).alloc' (.cells #[.bool false, .slice none 0 0] 24))
  have B1 : Hid (Box (w.alloc (.cells #[.bool false, .slice none 0 0] 24)) (w.heap.size) #[.bool false, .slice none 0 0] 24) := hid (Box.at_ (w := w) #[.bool false, .slice none 0 0] 24 (by simp))
  refine wp_region_T [(0, 0), (1, 0), (2, 0)] (by kernel_rfl) fun wd hb => ?_
  replace E := hid (E.out.trans hb)
  replace B1 := hid (B1.out.up hb)
  clear hb
  refine WE.pure (d := some 6) rfl rfl (by rfl) (v := (str l)) (fun w' hk => ?_) ?_
  · go_simp
  simp only [Act.put, List.setIfInBounds_toArray, List.set_cons_zero, List.set_cons_succ]
  refine WE.pure (d := some 4) rfl rfl (by rfl) (v := (str l)) (fun w' hk => ?_) ?_
  · go_simp
  simp only [Act.put, List.setIfInBounds_toArray, List.set_cons_zero, List.set_cons_succ]
  refine WE.pure (d := some 5) rfl rfl (by rfl) (v := (.bool false)) (fun w' hk => ?_) ?_
  · go_simp
  simp only [Act.put, List.setIfInBounds_toArray, List.set_cons_zero, List.set_cons_succ]
  refine WE.done ?_
  go_upto_region 2 with (fail)
  refine wp_region_T [(0, 0), (1, 0), (2, 0), (3, 0), (4, 0), (5, 0), (6, 0), (7, 0), (8, 0), (9, 0), (10, 0), (11, 0), (12, 0), (13, 1), (14, 0), (15, 0)] (by kernel_rfl) fun wd hb => ?_
  replace E := hid (E.out.trans hb)
  replace B1 := hid (B1.out.up hb)
  clear hb
  refine WE.pure (d := some 7) rfl rfl (by rfl) (v := (str l)) (fun w' hk => ?_) ?_
  · go_simp
  simp only [Act.put, List.setIfInBounds_toArray, List.set_cons_zero, List.set_cons_succ]
  refine WE.pure (d := some 8) rfl rfl (by rfl) (v := (.int .i64 (l.length : Int))) (fun w' hk => ?_) ?_
  · go_simp
  simp only [Act.put, List.setIfInBounds_toArray, List.set_cons_zero, List.set_cons_succ]
  refine WE.pure (d := some 9) rfl rfl (by rfl) (v := (.bool true)) (fun w' hk => ?_) ?_
  · have q := H1.out; go_simp
  simp only [Act.put, List.setIfInBounds_toArray, List.set_cons_zero, List.set_cons_succ]
  refine WE.pure (d := some 10) rfl rfl (by rfl) (v := (.bool true)) (fun w' hk => ?_) ?_
  · go_simp
  simp only [Act.put, List.setIfInBounds_toArray, List.set_cons_zero, List.set_cons_succ]
  refine WE.pure (d := some 11) rfl rfl (by rfl) (v := (str l)) (fun w' hk => ?_) ?_
  · go_simp
  simp only [Act.put, List.setIfInBounds_toArray, List.set_cons_zero, List.set_cons_succ]
  refine WE.pure (d := some 12) rfl rfl (by rfl) (v := (str (l.take 3))) (fun w' hk => ?_) ?_
  · have q9 : 3 ≤ l.length := (by have := H1.out; simp at this; omega); have q8 : ¬ (l.length : Int) < 3 := (by omega); have q := ext_str l 0 3; go_simp
  simp only [Act.put, List.setIfInBounds_toArray, List.set_cons_zero, List.set_cons_succ]
  refine WE.pure (d := some 13) rfl rfl (by rfl) (v := (.bool true)) (fun w' hk => ?_) ?_
  · have q := H2.out; go_simp
  simp only [Act.put, List.setIfInBounds_toArray, List.set_cons_zero, List.set_cons_succ]
  refine WE.pure (d := some 14) rfl rfl (by rfl) (v := (.bool true)) (fun w' hk => ?_) ?_
  · go_simp
  simp only [Act.put, List.setIfInBounds_toArray, List.set_cons_zero, List.set_cons_succ]
  refine WE.pure (d := some 15) rfl rfl (by rfl) (v := (.bool true)) (fun w' hk => ?_) ?_
  · go_simp
  simp only [Act.put, List.setIfInBounds_toArray, List.set_cons_zero, List.set_cons_succ]
  refine WE.pure (d := some 16) rfl rfl (by rfl) (v := (str l)) (fun w' hk => ?_) ?_
  · go_simp
  simp only [Act.put, List.setIfInBounds_toArray, List.set_cons_zero, List.set_cons_succ]
  refine WE.pure (d := some 17) rfl rfl (by rfl) (v := (str l)) (fun w' hk => ?_) ?_
  · go_simp
  simp only [Act.put, List.setIfInBounds_toArray, List.set_cons_zero, List.set_cons_succ]
  refine WE.pure (d := some 18) rfl rfl (by rfl) (v := (.int .i64 (l.length : Int))) (fun w' hk => ?_) ?_
  · go_simp
  simp only [Act.put, List.setIfInBounds_toArray, List.set_cons_zero, List.set_cons_succ]
  refine WE.pure (d := some 19) rfl rfl (by rfl) (v := (.int .i64 (n1 : Int))) (fun w' hk => ?_) ?_
  · have q : IntKind.i64.wrap ((l.length : Int) - 1) = (n1 : Int) := (by rw [IntKind.wrap_i64]; have := H1.out; have := HN1.out; have := HL.out; simp at *; omega); go_simp
  simp only [Act.put, List.setIfInBounds_toArray, List.set_cons_zero, List.set_cons_succ]
  refine WE.act (d := some 20) (v := (.int .u8 (ch.toNat : Int))) rfl rfl (by rfl) (by have q := idx_str 9 Tryd.underlying9 l n1 ch rfl HC.out; go_simp) (Ext.refl _) ?_
  simp only [Act.put, List.setIfInBounds_toArray, List.set_cons_zero, List.set_cons_succ]
  refine WE.pure (d := some 21) rfl rfl (by rfl) (v := (.bool false)) (fun w' hk => ?_) ?_
  · have q : ((ch.toNat : Int) == 41) = false := (by have := H3.out; simp at this ⊢; omega); go_simp
  simp only [Act.put, List.setIfInBounds_toArray, List.set_cons_zero, List.set_cons_succ]
  refine WE.pure (d := some 22) rfl rfl (by rfl) (v := (.bool false)) (fun w' hk => ?_) ?_
  · go_simp
  simp only [Act.put, List.setIfInBounds_toArray, List.set_cons_zero, List.set_cons_succ]
  refine WE.done ?_
  go_upto_region 4 with (fail)
  refine wp_region_T [(0, 0), (1, 1), (2, 0), (3, 0), (4, 0), (5, 0), (6, 0), (7, 0), (8, 0), (9, 0)] (by kernel_rfl) fun wd hb => ?_
  replace E := hid (E.out.trans hb)
  replace B1 := hid (B1.out.up hb)
  clear hb
  refine WE.pure (d := some 28) rfl rfl (by rfl) (v := (str l)) (fun w' hk => ?_) ?_
  · go_simp
  simp only [Act.put, List.setIfInBounds_toArray, List.set_cons_zero, List.set_cons_succ]
  refine WE.call (d := some 29) rfl rfl (by rfl) (f := 16) (args := #[(str l)]) (by go_simp) ?_
  refine (rNumeral_n l _ (Nat.le_trans HL.out (by decide))).mono ?_
  rw [HNU.out]
  rintro e wq ⟨rfl, rfl⟩
  refine ⟨_, rfl, Ext.refl _, ?_⟩
  simp only [Act.put, List.setIfInBounds_toArray, List.set_cons_zero, List.set_cons_succ]
  refine WE.pure (d := some 30) rfl rfl (by rfl) (v := (.bool false)) (fun w' hk => ?_) ?_
  · go_simp
  simp only [Act.put, List.setIfInBounds_toArray, List.set_cons_zero, List.set_cons_succ]
  refine WE.pure (d := some 31) rfl rfl (by rfl) (v := (.bool false)) (fun w' hk => ?_) ?_
  · go_simp
  simp only [Act.put, List.setIfInBounds_toArray, List.set_cons_zero, List.set_cons_succ]
  refine WE.pure (d := some 32) rfl rfl (by rfl) (v := (.bool false)) (fun w' hk => ?_) ?_
  · go_simp
  simp only [Act.put, List.setIfInBounds_toArray, List.set_cons_zero, List.set_cons_succ]
  refine WE.pure (d := some 33) rfl rfl (by rfl) (v := (.bool false)) (fun w' hk => ?_) ?_
  · go_simp
  simp only [Act.put, List.setIfInBounds_toArray, List.set_cons_zero, List.set_cons_succ]
  refine WE.skip (d := some 34) rfl rfl (by rfl) ?_
  simp only [Act.put, List.setIfInBounds_toArray, List.set_cons_zero, List.set_cons_succ]
  refine WE.skip (d := some 35) rfl rfl (by rfl) ?_
  simp only [Act.put, List.setIfInBounds_toArray, List.set_cons_zero, List.set_cons_succ]
  refine WE.pure (d := some 36) rfl rfl (by rfl) (v := (.bool false)) (fun w' hk => ?_) ?_
  · go_simp
  simp only [Act.put, List.setIfInBounds_toArray, List.set_cons_zero, List.set_cons_succ]
  refine WE.pure (d := some 37) rfl rfl (by rfl) (v := (.bool false)) (fun w' hk => ?_) ?_
  · go_simp
  simp only [Act.put, List.setIfInBounds_toArray, List.set_cons_zero, List.set_cons_succ]
  refine WE.done ?_
  go_upto_region 6 with (fail)
  refine wp_region_T [(0, 0), (1, 0), (2, 0)] (by kernel_rfl) fun wd hb => ?_
  replace E := hid (E.out.trans hb)
  replace B1 := hid (B1.out.up hb)
  clear hb
  refine WE.pure (d := some 39) rfl rfl (by rfl) (v := (str l)) (fun w' hk => ?_) ?_
  · go_simp
  simp only [Act.put, List.setIfInBounds_toArray, List.set_cons_zero, List.set_cons_succ]
  refine WE.pure (d := some 40) rfl rfl (by rfl) (v := (.int .i64 (l.length : Int))) (fun w' hk => ?_) ?_
  · go_simp
  simp only [Act.put, List.setIfInBounds_toArray, List.set_cons_zero, List.set_cons_succ]
  refine WE.pure (d := some 41) rfl rfl (by rfl) (v := (.bool true)) (fun w' hk => ?_) ?_
  · have q := HB.out; go_simp
  simp only [Act.put, List.setIfInBounds_toArray, List.set_cons_zero, List.set_cons_succ]
  refine WE.done ?_
  go_upto_region 7 with (fail)
  refine wp_region_T [(0, 0), (1, 4), (2, 0)] (by kernel_rfl) fun wd hb => ?_
  replace E := hid (E.out.trans hb)
  replace B1 := hid (B1.out.up hb)
  clear hb
  refine WE.pure (d := some 42) rfl rfl (by rfl) (v := (.agg #[.bool false, .slice none 0 0])) (fun w' hk => ?_) ?_
  · go_simp
  simp only [Act.put, List.setIfInBounds_toArray, List.set_cons_zero, List.set_cons_succ]
  refine WE.store2 (g := (w.heap.size)) (x := .bool false) (y := .slice none 0 0) (t := 24) rfl rfl (by rfl) (fun w hb => ?_) B1.out (by rfl) fun ws hk hs => ?_
  · have c0 := hb.cell (o := 0) (v := .bool false) rfl; have f0 := hb.free 0; have c1 := hb.cell (o := 1) (v := .slice none 0 0) rfl; have f1 := hb.free 1; go_simp
  intro hbx
  replace E := hid (E.out.keptG hk (by simp))
  replace B1 := hid hbx
  clear hk hs hbx
  refine WE.pure (d := some 3) rfl rfl (by rfl) (v := (.int .i64 (11))) (fun w' hk => ?_) ?_
  · go_simp
  simp only [Act.put, List.setIfInBounds_toArray, List.set_cons_zero, List.set_cons_succ]
  refine WE.done ?_
  have r0 := B1.out.cell (o := 0) (v := .bool false) rfl
  have r1 := B1.out.cell (o := 1) (v := .slice none 0 0) rfl
  go_wp2
  exact bodyPost_ret (v := .tuple #[.agg #[.bool false, .slice none 0 0], .int .i64 11]) (by simp [results, Tryd.results10, go_sem, r0, r1]) rfl ⟨_, rfl, IsZ.nil.wide (Nat.zero_le _), E.out⟩

set_option maxHeartbeats 1000000 in
theorem rparse_c_good {l : List UInt8} (hl : l.length ≤ 1000000) (h1 : decide (4 < (l.length : Int)) = true) (h2 : (l.take 3 == [40, 45, 32]) = true) {ch : UInt8} (hc : l[l.length - 1]? = some ch) (h3 : (ch.toNat == 41) = false) (hnu : M.numeral l = true) (hb : decide (360 < (l.length : Int)) = false) (w : World) :
    Calls Tryd.prog 10 #[str l] w (GivesP w (M.num l : Int) (M.limbs (M.num l)).length 0) := by
  obtain ⟨n1, hn1⟩ : ∃ n1, n1 = l.length - 1 := ⟨_, rfl⟩
  rw [← hn1] at hc
  have HN1 := hid hn1
  clear hn1
  have HL := hid hl
  have H1 := hid h1
  have H2 := hid h2
  have HC := hid hc
  have H3 := hid h3
  have HNU := hid hnu
  have HB := hid hb
  clear hl h1 h2 hc h3 hnu hb
  go_enter Tryd.func10, Tryd.ntmps10
  go_upto_region 1 with (fail)
  have E := hid ((Ext.refl w).alloc' (.cells #[.bool false, .slice none 0 0] 24))
  have B1 : Hid (Box (w.alloc (.cells #[.bool false, .slice none 0 0] 24)) (w.heap.size) #[.bool false, .slice none 0 0] 24) := hid (Box.at_ (w := w) #[.bool false, .slice none 0 0] 24 (by simp))
  refine wp_region_T [(0, 0), (1, 0), (2, 0)] (by kernel_rfl) fun wd hb => ?_
  replace E := hid (E.out.trans hb)
  replace B1 := hid (B1.out.up hb)
  clear hb
  refine WE.pure (d := some 6) rfl rfl (by rfl) (v := (str l)) (fun w' hk => ?_) ?_
  · go_simp
  simp only [Act.put, List.setIfInBounds_toArray, List.set_cons_zero, List.set_cons_succ]
  refine WE.pure (d := some 4) rfl rfl (by rfl) (v := (str l)) (fun w' hk => ?_) ?_
  · go_simp
  simp only [Act.put, List.setIfInBounds_toArray, List.set_cons_zero, List.set_cons_succ]
  refine WE.pure (d := some 5) rfl rfl (by rfl) (v := (.bool false)) (fun w' hk => ?_) ?_
  · go_simp
  simp only [Act.put, List.setIfInBounds_toArray, List.set_cons_zero, List.set_cons_succ]
  refine WE.done ?_
  go_upto_region 2 with (fail)
  refine wp_region_T [(0, 0), (1, 0), (2, 0), (3, 0), (4, 0), (5, 0), (6, 0), (7, 0), (8, 0), (9, 0), (10, 0), (11, 0), (12, 0), (13, 1), (14, 0), (15, 0)] (by kernel_rfl) fun wd hb => ?_
  replace E := hid (E.out.trans hb)
  replace B1 := hid (B1.out.up hb)
  clear hb
  refine WE.pure (d := some 7) rfl rfl (by rfl) (v := (str l)) (fun w' hk => ?_) ?_
  · go_simp
  simp only [Act.put, List.setIfInBounds_toArray, List.set_cons_zero, List.set_cons_succ]
  refine WE.pure (d := some 8) rfl rfl (by rfl) (v := (.int .i64 (l.length : Int))) (fun w' hk => ?_) ?_
  · go_simp
  simp only [Act.put, List.setIfInBounds_toArray, List.set_cons_zero, List.set_cons_succ]
  refine WE.pure (d := some 9) rfl rfl (by rfl) (v := (.bool true)) (fun w' hk => ?_) ?_
  · have q := H1.out; go_simp
  simp only [Act.put, List.setIfInBounds_toArray, List.set_cons_zero, List.set_cons_succ]
  refine WE.pure (d := some 10) rfl rfl (by rfl) (v := (.bool true)) (fun w' hk => ?_) ?_
  · go_simp
  simp only [Act.put, List.setIfInBounds_toArray, List.set_cons_zero, List.set_cons_succ]
  refine WE.pure (d := some 11) rfl rfl (by rfl) (v := (str l)) (fun w' hk => ?_) ?_
  · go_simp
  simp only [Act.put, List.setIfInBounds_toArray, List.set_cons_zero, List.set_cons_succ]
  refine WE.pure (d := some 12) rfl rfl (by rfl) (v := (str (l.take 3))) (fun w' hk => ?_) ?_
  · have q9 : 3 ≤ l.length := (by have := H1.out; simp at this; omega); have q8 : ¬ (l.length : Int) < 3 := (by omega); have q := ext_str l 0 3; go_simp
  simp only [Act.put, List.setIfInBounds_toArray, List.set_cons_zero, List.set_cons_succ]
  refine WE.pure (d := some 13) rfl rfl (by rfl) (v := (.bool true)) (fun w' hk => ?_) ?_
  · have q := H2.out; go_simp
  simp only [Act.put, List.setIfInBounds_toArray, List.set_cons_zero, List.set_cons_succ]
  refine WE.pure (d := some 14) rfl rfl (by rfl) (v := (.bool true)) (fun w' hk => ?_) ?_
  · go_simp
  simp only [Act.put, List.setIfInBounds_toArray, List.set_cons_zero, List.set_cons_succ]
  refine WE.pure (d := some 15) rfl rfl (by rfl) (v := (.bool true)) (fun w' hk => ?_) ?_
  · go_simp
  simp only [Act.put, List.setIfInBounds_toArray, List.set_cons_zero, List.set_cons_succ]
  refine WE.pure (d := some 16) rfl rfl (by rfl) (v := (str l)) (fun w' hk => ?_) ?_
  · go_simp
  simp only [Act.put, List.setIfInBounds_toArray, List.set_cons_zero, List.set_cons_succ]
  refine WE.pure (d := some 17) rfl rfl (by rfl) (v := (str l)) (fun w' hk => ?_) ?_
  · go_simp
  simp only [Act.put, List.setIfInBounds_toArray, List.set_cons_zero, List.set_cons_succ]
  refine WE.pure (d := some 18) rfl rfl (by rfl) (v := (.int .i64 (l.length : Int))) (fun w' hk => ?_) ?_
  · go_simp
  simp only [Act.put, List.setIfInBounds_toArray, List.set_cons_zero, List.set_cons_succ]
  refine WE.pure (d := some 19) rfl rfl (by rfl) (v := (.int .i64 (n1 : Int))) (fun w' hk => ?_) ?_
  · have q : IntKind.i64.wrap ((l.length : Int) - 1) = (n1 : Int) := (by rw [IntKind.wrap_i64]; have := H1.out; have := HN1.out; have := HL.out; simp at *; omega); go_simp
  simp only [Act.put, List.setIfInBounds_toArray, List.set_cons_zero, List.set_cons_succ]
  refine WE.act (d := some 20) (v := (.int .u8 (ch.toNat : Int))) rfl rfl (by rfl) (by have q := idx_str 9 Tryd.underlying9 l n1 ch rfl HC.out; go_simp) (Ext.refl _) ?_
  simp only [Act.put, List.setIfInBounds_toArray, List.set_cons_zero, List.set_cons_succ]
  refine WE.pure (d := some 21) rfl rfl (by rfl) (v := (.bool false)) (fun w' hk => ?_) ?_
  · have q : ((ch.toNat : Int) == 41) = false := (by have := H3.out; simp at this ⊢; omega); go_simp
  simp only [Act.put, List.setIfInBounds_toArray, List.set_cons_zero, List.set_cons_succ]
  refine WE.pure (d := some 22) rfl rfl (by rfl) (v := (.bool false)) (fun w' hk => ?_) ?_
  · go_simp
  simp only [Act.put, List.setIfInBounds_toArray, List.set_cons_zero, List.set_cons_succ]
  refine WE.done ?_
  go_upto_region 4 with (fail)
  refine wp_region_T [(0, 0), (1, 1), (2, 0), (3, 0), (4, 0), (5, 0), (6, 0), (7, 0), (8, 0), (9, 0)] (by kernel_rfl) fun wd hb => ?_
  replace E := hid (E.out.trans hb)
  replace B1 := hid (B1.out.up hb)
  clear hb
  refine WE.pure (d := some 28) rfl rfl (by rfl) (v := (str l)) (fun w' hk => ?_) ?_
  · go_simp
  simp only [Act.put, List.setIfInBounds_toArray, List.set_cons_zero, List.set_cons_succ]
  refine WE.call (d := some 29) rfl rfl (by rfl) (f := 16) (args := #[(str l)]) (by go_simp) ?_
  refine (rNumeral_n l _ (Nat.le_trans HL.out (by decide))).mono ?_
  rw [HNU.out]
  rintro e wq ⟨rfl, rfl⟩
  refine ⟨_, rfl, Ext.refl _, ?_⟩
  simp only [Act.put, List.setIfInBounds_toArray, List.set_cons_zero, List.set_cons_succ]
  refine WE.pure (d := some 30) rfl rfl (by rfl) (v := (.bool false)) (fun w' hk => ?_) ?_
  · go_simp
  simp only [Act.put, List.setIfInBounds_toArray, List.set_cons_zero, List.set_cons_succ]
  refine WE.pure (d := some 31) rfl rfl (by rfl) (v := (.bool false)) (fun w' hk => ?_) ?_
  · go_simp
  simp only [Act.put, List.setIfInBounds_toArray, List.set_cons_zero, List.set_cons_succ]
  refine WE.pure (d := some 32) rfl rfl (by rfl) (v := (.bool false)) (fun w' hk => ?_) ?_
  · go_simp
  simp only [Act.put, List.setIfInBounds_toArray, List.set_cons_zero, List.set_cons_succ]
  refine WE.pure (d := some 33) rfl rfl (by rfl) (v := (.bool false)) (fun w' hk => ?_) ?_
  · go_simp
  simp only [Act.put, List.setIfInBounds_toArray, List.set_cons_zero, List.set_cons_succ]
  refine WE.skip (d := some 34) rfl rfl (by rfl) ?_
  simp only [Act.put, List.setIfInBounds_toArray, List.set_cons_zero, List.set_cons_succ]
  refine WE.skip (d := some 35) rfl rfl (by rfl) ?_
  simp only [Act.put, List.setIfInBounds_toArray, List.set_cons_zero, List.set_cons_succ]
  refine WE.pure (d := some 36) rfl rfl (by rfl) (v := (.bool false)) (fun w' hk => ?_) ?_
  · go_simp
  simp only [Act.put, List.setIfInBounds_toArray, List.set_cons_zero, List.set_cons_succ]
  refine WE.pure (d := some 37) rfl rfl (by rfl) (v := (.bool false)) (fun w' hk => ?_) ?_
  · go_simp
  simp only [Act.put, List.setIfInBounds_toArray, List.set_cons_zero, List.set_cons_succ]
  refine WE.done ?_
  go_upto_region 6 with (fail)
  refine wp_region_T [(0, 0), (1, 0), (2, 0)] (by kernel_rfl) fun wd hb => ?_
  replace E := hid (E.out.trans hb)
  replace B1 := hid (B1.out.up hb)
  clear hb
  refine WE.pure (d := some 39) rfl rfl (by rfl) (v := (str l)) (fun w' hk => ?_) ?_
  · go_simp
  simp only [Act.put, List.setIfInBounds_toArray, List.set_cons_zero, List.set_cons_succ]
  refine WE.pure (d := some 40) rfl rfl (by rfl) (v := (.int .i64 (l.length : Int))) (fun w' hk => ?_) ?_
  · go_simp
  simp only [Act.put, List.setIfInBounds_toArray, List.set_cons_zero, List.set_cons_succ]
  refine WE.pure (d := some 41) rfl rfl (by rfl) (v := (.bool false)) (fun w' hk => ?_) ?_
  · have q := HB.out; go_simp
  simp only [Act.put, List.setIfInBounds_toArray, List.set_cons_zero, List.set_cons_succ]
  refine WE.done ?_
  go_upto_region 8 with (fail)
  refine wp_region_T [(0, 0), (1, 0), (2, 1), (3, 1), (4, 4), (5, 0)] (by kernel_rfl) fun wd hb => ?_
  replace E := hid (E.out.trans hb)
  replace B1 := hid (B1.out.up hb)
  clear hb
  refine WE.pure (d := some 43) rfl rfl (by rfl) (v := (.bool false)) (fun w' hk => ?_) ?_
  · go_simp
  simp only [Act.put, List.setIfInBounds_toArray, List.set_cons_zero, List.set_cons_succ]
  refine WE.pure (d := some 44) rfl rfl (by rfl) (v := (str l)) (fun w' hk => ?_) ?_
  · go_simp
  simp only [Act.put, List.setIfInBounds_toArray, List.set_cons_zero, List.set_cons_succ]
  refine WE.call (d := some 45) rfl rfl (by rfl) (f := 28) (args := #[(str l)]) (by go_simp) ?_
  refine (rnatural_N l (M.numeral_all' HNU.out) HL.out _).mono ?_
  rintro e wn ⟨vx, rfl, hx, hb⟩
  obtain ⟨A1, n1, c1, rfl⟩ := hx.1.slice
  refine ⟨_, rfl, hb, ?_⟩
  replace E := hid (E.out.trans hb)
  replace B1 := hid (B1.out.up hb)
  have R1 := hid hx
  clear hb hx
  simp only [Act.put, List.setIfInBounds_toArray, List.set_cons_zero, List.set_cons_succ]
  refine WE.call (d := some 46) rfl rfl (by rfl) (f := 27) (args := #[(.bool false), (.slice A1 n1 c1)]) (by go_simp) ?_
  refine (rsign_n R1.out (Z := (M.num l : Int)) (by simp) (fun hne => by rw [eq_comm, decide_eq_false_iff_not]; omega)).mono ?_
  rintro e wn ⟨vx, rfl, hx, hb⟩
  obtain ⟨g2, A2, n2, c2, rfl, hs2, hr2⟩ := hx.form
  clear hx
  refine ⟨_, rfl, hb, ?_⟩
  replace E := hid (E.out.trans hb)
  replace B1 := hid (B1.out.up hb)
  replace R1 := hid (R1.out.up hb)
  have HS2 := hid hs2
  have R2 := hid hr2
  clear hb hs2 hr2
  simp only [Act.put, List.setIfInBounds_toArray, List.set_cons_zero, List.set_cons_succ]
  refine WE.store2 (g := (w.heap.size)) (x := .bool g2) (y := .slice A2 n2 c2) (t := 24) rfl rfl (by rfl) (fun w hb => ?_) B1.out (by rfl) fun ws hk hs => ?_
  · have c0 := hb.cell (o := 0) (v := .bool false) rfl; have f0 := hb.free 0; have c1 := hb.cell (o := 1) (v := .slice none 0 0) rfl; have f1 := hb.free 1; go_simp
  intro hbx
  replace E := hid (E.out.keptG hk (by simp))
  replace B1 := hid hbx
  replace R1 := hid (R1.out.kz hs)
  replace R2 := hid (R2.out.kz hs)
  clear hk hs hbx
  refine WE.pure (d := some 3) rfl rfl (by rfl) (v := (.int .i64 (0))) (fun w' hk => ?_) ?_
  · go_simp
  simp only [Act.put, List.setIfInBounds_toArray, List.set_cons_zero, List.set_cons_succ]
  refine WE.done ?_
  have r0 := B1.out.cell (o := 0) (v := .bool g2) rfl
  have r1 := B1.out.cell (o := 1) (v := .slice A2 n2 c2) rfl
  go_wp2
  exact bodyPost_ret (v := .tuple #[.agg #[.bool g2, .slice A2 n2 c2], .int .i64 0]) (by simp [results, Tryd.results10, go_sem, r0, r1]) rfl ⟨_, rfl, IsZ.mk HS2.out R2.out, E.out⟩

end Go.Proofs.YthlafkbldlmmaaaDoor
