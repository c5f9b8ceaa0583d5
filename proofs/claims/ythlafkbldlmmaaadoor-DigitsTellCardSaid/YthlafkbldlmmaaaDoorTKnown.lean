/-
  What each law of layer 3 asks first.
-/
import Derived.Test.YthlafkbldlmmaaaDoorTPrint
import Derived.Test.YthlafkbldlmmaaaDoorRZC
namespace Go.Proofs.YthlafkbldlmmaaaDoor
open Go.RowKit
set_option linter.unusedSimpArgs false
set_option linter.unusedVariables false

theorem equal_z {w : World} {u v : Value} {Z : Int} {j k : Nat} (hu : IsZ w u Z j) (hv : IsZ w v Z k) : Calls Tryd.prog 17 #[u, v] w (GivesB w true) := by
  obtain ⟨A, n, c, rfl, h1, _⟩ := hu
  obtain ⟨A', n', c', rfl, h2, _⟩ := hv
  obtain ⟨g, hg⟩ : ∃ g : Bool, g = decide (Z < 0) := ⟨_, rfl⟩
  rw [← hg]
  have R := hid h1
  have R' := hid h2
  clear h1 h2 hg
  have hgg : (g == g) = true := by simp
  cases g
  all_goals
    go_enter Tryd.func17, Tryd.ntmps17
    go_wp2_with fail
    refine (same_l (R.out.up ((Ext.alloc _ _).alloc' _)) (R'.out.up ((Ext.alloc _ _).alloc' _)) rfl).mono ?_
    rintro e wn ⟨rfl, hb⟩
    have E := hid (((Ext.alloc _ _).alloc' _).trans hb)
    clear hb
    go_wp2
    go_ret
    exact ⟨rfl, E.out⟩

theorem print_to {w : World} {u : Value} {Z : Int} {j : Nat} {l : List UInt8} (hu : Worth w u Z j) (hj : j ≤ 1000000) (ht : Tab w) (h : M.print Z = l) : Calls Tryd.prog 11 #[u] w (GivesT w l) := h ▸ print_w hu hj ht
theorem digitsNat_to {w : World} {v : Value} {l : List Nat} {t : List UInt8} (hv : Num w w.heap.size v l) (hle : l.length ≤ 1000000) (ht : Tab w) (h : Lib.decDigits (M.nv l) = t) : Calls Tryd.prog 13 #[v] w (GivesT w t) := h ▸ digitsNat_n hv hle ht
theorem numeral_to (l : List UInt8) (w : World) (hl : l.length ≤ 1000000000000) {b : Bool} (h : M.numeral l = b) : Calls Tryd.prog 15 #[str l] w fun e w' => e = .returned (.bool b) ∧ w' = w := h ▸ numeral_n l w hl
theorem parse_to {l : List UInt8} (hl : l.length ≤ 1000000000000) (w : World) {Z n : Int} (hZ : M.pval l = Z) (hn : M.perr l = n) : Calls Tryd.prog 9 #[str l] w (GivesP w Z 40 n) := by
  subst hZ hn; exact parse_n l hl w
theorem K.p1 : M.pval [40, 45, 32, 49, 48, 48, 48, 48, 48, 48, 48, 48, 53, 41] = -1000000005 ∧ M.perr [40, 45, 32, 49, 48, 48, 48, 48, 48, 48, 48, 48, 53, 41] = 0 := by decide +kernel
theorem K.p2 : M.pval [48, 55] = 0 ∧ M.perr [48, 55] = 10 := by decide +kernel
theorem K.t1 : M.print (-5) = [40, 45, 32, 53, 41] := by
  rw [M.print, if_pos (by decide), show (-5 : Int).natAbs = 5 from rfl, M.dec_small (by decide)]; rfl
theorem K.t2 : Go.Lib.decDigits (M.nv [7, 1]) = [49, 48, 48, 48, 48, 48, 48, 48, 48, 55] := by
  rw [show M.nv [7, 1] = 1 * 10 ^ 9 + 7 by decide +kernel, M.dec_pad 9 1 7 (by decide) (by decide), M.dec_small (by decide)]; decide +kernel
theorem K.t3 : M.print 0 = [48] := by
  rw [M.print, if_neg (by decide), show (0 : Int).natAbs = 0 from rfl, M.dec_small (by decide)]; rfl

set_option maxRecDepth 100000 in
set_option maxHeartbeats 4000000 in
theorem known3 (w : World) (ht : Tab w) :
    Calls Tryd.prog 8 #[] w (fun e w' => e = .returned (.bool true) ∧ Ext w w') := by
  have HT := hid ht
  clear ht
  go_enter Tryd.func8, Tryd.ntmps8
  go_upto_region 1 with (fail)
  have E := hid (Ext.refl w)
  refine wp_region_T [(0, 1), (1, 0), (2, 0), (3, 0), (4, 1), (5, 4), (6, 0)] (by kernel_rfl) fun wd hb => ?_
  replace E := hid (E.out.trans hb)
  clear hb
  refine WE.call (d := some 6) rfl rfl (by rfl) (f := 9) (args := #[(Value.string { data := #[40, 45, 32, 49, 48, 48, 48, 48, 48, 48, 48, 48, 53, 41] })]) (by go_simp) ?_
  refine (parse_to (l := [40, 45, 32, 49, 48, 48, 48, 48, 48, 48, 48, 48, 53, 41]) (by decide) _ K.p1.1 K.p1.2).mono ?_
  rintro e wn ⟨vx, rfl, hx, hb⟩
  obtain ⟨g1, A1, n1, c1, rfl, hs1, hr1⟩ := hx.form
  clear hx
  refine ⟨_, rfl, hb, ?_⟩
  replace E := hid (E.out.trans hb)
  have HS1 := hid hs1
  have R1 := hid hr1
  clear hb hs1 hr1
  simp only [Act.put, List.setIfInBounds_toArray, List.set_cons_zero, List.set_cons_succ]
  refine WE.pure (d := some 5) rfl rfl (by rfl) (v := (.tuple #[(.agg #[.bool g1, .slice A1 n1 c1]), (.int .i64 0)])) (fun w' hk => ?_) ?_
  · go_simp
  simp only [Act.put, List.setIfInBounds_toArray, List.set_cons_zero, List.set_cons_succ]
  refine WE.pure (d := some 7) rfl rfl (by rfl) (v := (.agg #[.bool g1, .slice A1 n1 c1])) (fun w' hk => ?_) ?_
  · go_simp
  simp only [Act.put, List.setIfInBounds_toArray, List.set_cons_zero, List.set_cons_succ]
  refine WE.pure (d := some 8) rfl rfl (by rfl) (v := (.int .i64 0)) (fun w' hk => ?_) ?_
  · go_simp
  simp only [Act.put, List.setIfInBounds_toArray, List.set_cons_zero, List.set_cons_succ]
  refine WE.new (d := some 1) (cs := #[.bool false, .slice none 0 0]) (t := 24) (v := fun g => (.pointer (some ⟨g, 0, none⟩))) rfl rfl (by rfl) (fun w => by go_simp) fun gN1 wv hx0 hbox hge => ?_
  have HGN1 := hid (show w.heap.size ≤ gN1 by have := E.out.size; omega)
  replace E := hid (E.out.trans hx0)
  replace R1 := hid (R1.out.up hx0)
  have N1 : Hid (Box wv gN1 #[.bool false, .slice none 0 0] 24) := hid hbox
  clear hx0 hbox hge
  simp only [Act.put, List.setIfInBounds_toArray, List.set_cons_zero, List.set_cons_succ]
  refine WE.store2 (g := gN1) (x := .bool g1) (y := .slice A1 n1 c1) (t := 24) rfl rfl (by rfl) (fun w hb => ?_) N1.out (by rfl) fun ws hk hs => ?_
  · have c0 := hb.cell (o := 0) (v := .bool false) rfl; have f0 := hb.free 0; have c1 := hb.cell (o := 1) (v := .slice none 0 0) rfl; have f1 := hb.free 1; go_simp
  intro hbx
  replace E := hid (E.out.keptG hk HGN1.out)
  replace N1 := hid hbx
  replace R1 := hid (R1.out.kz hs)
  clear hk hs hbx
  refine WE.pure (d := some 2) rfl rfl (by rfl) (v := (.int .i64 0)) (fun w' hk => ?_) ?_
  · go_simp
  simp only [Act.put, List.setIfInBounds_toArray, List.set_cons_zero, List.set_cons_succ]
  refine WE.done ?_
  go_upto_region 2 with (fail)
  refine wp_region_T [(0, 1), (1, 0), (2, 0), (3, 0), (4, 1), (5, 4), (6, 0)] (by kernel_rfl) fun wd hb => ?_
  replace E := hid (E.out.trans hb)
  replace N1 := hid (N1.out.up hb)
  replace R1 := hid (R1.out.up hb)
  clear hb
  refine WE.call (d := some 10) rfl rfl (by rfl) (f := 9) (args := #[(Value.string { data := #[48, 55] })]) (by go_simp) ?_
  refine (parse_to (l := [48, 55]) (by decide) _ K.p2.1 K.p2.2).mono ?_
  rintro e wn ⟨vx, rfl, hx, hb⟩
  obtain ⟨g2, A2, n2, c2, rfl, hs2, hr2⟩ := hx.form
  clear hx
  refine ⟨_, rfl, hb, ?_⟩
  replace E := hid (E.out.trans hb)
  replace N1 := hid (N1.out.up hb)
  replace R1 := hid (R1.out.up hb)
  have HS2 := hid hs2
  have R2 := hid hr2
  clear hb hs2 hr2
  simp only [Act.put, List.setIfInBounds_toArray, List.set_cons_zero, List.set_cons_succ]
  refine WE.pure (d := some 9) rfl rfl (by rfl) (v := (.tuple #[(.agg #[.bool g2, .slice A2 n2 c2]), (.int .i64 10)])) (fun w' hk => ?_) ?_
  · go_simp
  simp only [Act.put, List.setIfInBounds_toArray, List.set_cons_zero, List.set_cons_succ]
  refine WE.pure (d := some 11) rfl rfl (by rfl) (v := (.agg #[.bool g2, .slice A2 n2 c2])) (fun w' hk => ?_) ?_
  · go_simp
  simp only [Act.put, List.setIfInBounds_toArray, List.set_cons_zero, List.set_cons_succ]
  refine WE.pure (d := some 12) rfl rfl (by rfl) (v := (.int .i64 10)) (fun w' hk => ?_) ?_
  · go_simp
  simp only [Act.put, List.setIfInBounds_toArray, List.set_cons_zero, List.set_cons_succ]
  refine WE.new (d := some 3) (cs := #[.bool false, .slice none 0 0]) (t := 24) (v := fun g => (.pointer (some ⟨g, 0, none⟩))) rfl rfl (by rfl) (fun w => by go_simp) fun gN2 wv hx0 hbox hge => ?_
  have HNN2N1 := hid (show gN2 ≠ gN1 by have := N1.out.lt; omega)
  have HGN2 := hid (show w.heap.size ≤ gN2 by have := E.out.size; omega)
  replace E := hid (E.out.trans hx0)
  replace N1 := hid (N1.out.up hx0)
  replace R1 := hid (R1.out.up hx0)
  replace R2 := hid (R2.out.up hx0)
  have N2 : Hid (Box wv gN2 #[.bool false, .slice none 0 0] 24) := hid hbox
  clear hx0 hbox hge
  simp only [Act.put, List.setIfInBounds_toArray, List.set_cons_zero, List.set_cons_succ]
  refine WE.store2 (g := gN2) (x := .bool g2) (y := .slice A2 n2 c2) (t := 24) rfl rfl (by rfl) (fun w hb => ?_) N2.out (by rfl) fun ws hk hs => ?_
  · have c0 := hb.cell (o := 0) (v := .bool false) rfl; have f0 := hb.free 0; have c1 := hb.cell (o := 1) (v := .slice none 0 0) rfl; have f1 := hb.free 1; go_simp
  intro hbx
  replace E := hid (E.out.keptG hk HGN2.out)
  replace N1 := hid (N1.out.kept hk (by simpa using HNN2N1.out.symm))
  replace N2 := hid hbx
  replace R1 := hid (R1.out.kz hs)
  replace R2 := hid (R2.out.kz hs)
  clear hk hs hbx
  refine WE.pure (d := some 4) rfl rfl (by rfl) (v := (.int .i64 10)) (fun w' hk => ?_) ?_
  · go_simp
  simp only [Act.put, List.setIfInBounds_toArray, List.set_cons_zero, List.set_cons_succ]
  refine WE.done ?_
  go_upto_region 3 with (fail)
  refine wp_region_E [(0, 1), (1, 1), (2, 0), (3, 0), (4, 1), (5, 1), (6, 0), (7, 0), (8, 0), (9, 0), (10, 0), (11, 0), (12, 0), (13, 0), (14, 1), (15, 1), (16, 0), (17, 0), (18, 0), (19, 0), (20, 0), (21, 0), (22, 1), (23, 0), (24, 0), (25, 1), (26, 0), (27, 0), (28, 0), (29, 0), (30, 1), (31, 0), (32, 0), (33, 0)] (fun _ => (0, #[])) rfl (by kernel_rfl) (by intro j hj; cases hj) (fun _ _ d _ _ => by cases d <;> exact Iff.rfl) fun wd hb => ?_
  replace E := hid (E.out.trans hb)
  replace N1 := hid (N1.out.up hb)
  replace N2 := hid (N2.out.up hb)
  replace R1 := hid (R1.out.up hb)
  replace R2 := hid (R2.out.up hb)
  clear hb
  refine WE.call (d := some 13) rfl rfl (by rfl) (f := 22) (args := #[(.int .i64 (-5))]) (by go_simp) ?_
  refine (rOf_z (n := -5) (by decide) (by decide) _).mono ?_
  rintro e wn ⟨vx, rfl, hx, hb⟩
  obtain ⟨g3, A3, n3, c3, rfl, hs3, hr3⟩ := hx.form
  clear hx
  refine ⟨_, rfl, hb, ?_⟩
  replace E := hid (E.out.trans hb)
  replace N1 := hid (N1.out.up hb)
  replace N2 := hid (N2.out.up hb)
  replace R1 := hid (R1.out.up hb)
  replace R2 := hid (R2.out.up hb)
  have HS3 := hid hs3
  have R3 := hid hr3
  clear hb hs3 hr3
  simp only [Act.put, List.setIfInBounds_toArray, List.set_cons_zero, List.set_cons_succ]
  refine WE.call (d := some 14) rfl rfl (by rfl) (f := 11) (args := #[(.agg #[.bool g3, .slice A3 n3 c3])]) (by go_simp) ?_
  refine (print_to (IsZ.mk HS3.out R3.out).worth (by omega) (HT.out.up E.out) K.t1).mono ?_
  rintro e wn ⟨rfl, hb⟩
  refine ⟨_, rfl, hb, ?_⟩
  replace E := hid (E.out.trans hb)
  replace N1 := hid (N1.out.up hb)
  replace N2 := hid (N2.out.up hb)
  replace R1 := hid (R1.out.up hb)
  replace R2 := hid (R2.out.up hb)
  replace R3 := hid (R3.out.up hb)
  clear hb
  simp only [Act.put, List.setIfInBounds_toArray, List.set_cons_zero, List.set_cons_succ]
  refine WE.pure (d := some 15) rfl rfl (by rfl) (v := (.bool true)) (fun w' hk => ?_) ?_
  · go_simp
  simp only [Act.put, List.setIfInBounds_toArray, List.set_cons_zero, List.set_cons_succ]
  refine WE.pure (d := some 16) rfl rfl (by rfl) (v := (.bool true)) (fun w' hk => ?_) ?_
  · go_simp
  simp only [Act.put, List.setIfInBounds_toArray, List.set_cons_zero, List.set_cons_succ]
  refine WE.new (d := some 17) (cs := #[.int .u32 7, .int .u32 1]) (t := 46) (v := fun g => (.slice (some ⟨g, 0, none⟩) 2 2)) rfl rfl (by rfl) (fun w => by go_simp) fun gL1 wv hx0 hbox hge => ?_
  have HNL1N1 := hid (show gL1 ≠ gN1 by have := N1.out.lt; omega)
  have HNL1N2 := hid (show gL1 ≠ gN2 by have := N2.out.lt; omega)
  have HGL1 := hid (show w.heap.size ≤ gL1 by have := E.out.size; omega)
  replace E := hid (E.out.trans hx0)
  replace N1 := hid (N1.out.up hx0)
  replace N2 := hid (N2.out.up hx0)
  replace R1 := hid (R1.out.up hx0)
  replace R2 := hid (R2.out.up hx0)
  replace R3 := hid (R3.out.up hx0)
  have L1 : Hid (Box wv gL1 #[.int .u32 7, .int .u32 1] 46) := hid hbox
  clear hx0 hbox hge
  simp only [Act.put, List.setIfInBounds_toArray, List.set_cons_zero, List.set_cons_succ]
  refine WE.call (d := some 18) rfl rfl (by rfl) (f := 13) (args := #[(.slice (some ⟨gL1, 0, none⟩) 2 2)]) (by go_simp) ?_
  refine (digitsNat_to (l := [7, 1]) ((show Blk _ gL1 [7, 1] from L1.out).num (by decide) (by unfold maxLen; decide) rfl) (by decide) (HT.out.up E.out) K.t2).mono ?_
  rintro e wn ⟨rfl, hb⟩
  refine ⟨_, rfl, hb, ?_⟩
  replace E := hid (E.out.trans hb)
  replace N1 := hid (N1.out.up hb)
  replace N2 := hid (N2.out.up hb)
  replace L1 := hid (L1.out.up hb)
  replace R1 := hid (R1.out.up hb)
  replace R2 := hid (R2.out.up hb)
  replace R3 := hid (R3.out.up hb)
  clear hb
  simp only [Act.put, List.setIfInBounds_toArray, List.set_cons_zero, List.set_cons_succ]
  refine WE.pure (d := some 19) rfl rfl (by rfl) (v := (.bool true)) (fun w' hk => ?_) ?_
  · go_simp
  simp only [Act.put, List.setIfInBounds_toArray, List.set_cons_zero, List.set_cons_succ]
  refine WE.pure (d := some 20) rfl rfl (by rfl) (v := (.bool true)) (fun w' hk => ?_) ?_
  · go_simp
  simp only [Act.put, List.setIfInBounds_toArray, List.set_cons_zero, List.set_cons_succ]
  refine WE.pure (d := some 21) rfl rfl (by rfl) (v := (.bool true)) (fun w' hk => ?_) ?_
  · go_simp
  simp only [Act.put, List.setIfInBounds_toArray, List.set_cons_zero, List.set_cons_succ]
  refine WE.pure (d := some 22) rfl rfl (by rfl) (v := (.int .i64 0)) (fun w' hk => ?_) ?_
  · go_simp
  simp only [Act.put, List.setIfInBounds_toArray, List.set_cons_zero, List.set_cons_succ]
  refine WE.pure (d := some 23) rfl rfl (by rfl) (v := (.bool true)) (fun w' hk => ?_) ?_
  · go_simp
  simp only [Act.put, List.setIfInBounds_toArray, List.set_cons_zero, List.set_cons_succ]
  refine WE.pure (d := some 24) rfl rfl (by rfl) (v := (.bool true)) (fun w' hk => ?_) ?_
  · go_simp
  simp only [Act.put, List.setIfInBounds_toArray, List.set_cons_zero, List.set_cons_succ]
  refine WE.pure (d := some 25) rfl rfl (by rfl) (v := (.bool true)) (fun w' hk => ?_) ?_
  · go_simp
  simp only [Act.put, List.setIfInBounds_toArray, List.set_cons_zero, List.set_cons_succ]
  refine WE.pure (d := some 26) rfl rfl (by rfl) (v := (.agg #[.bool g1, .slice A1 n1 c1])) (fun w' hk => ?_) ?_
  · have c0 := hk.cell (N1.out.cell (o := 0) (v := .bool g1) rfl); have c1 := hk.cell (N1.out.cell (o := 1) (v := .slice A1 n1 c1) rfl); go_simp
  simp only [Act.put, List.setIfInBounds_toArray, List.set_cons_zero, List.set_cons_succ]
  refine WE.call (d := some 27) rfl rfl (by rfl) (f := 22) (args := #[(.int .i64 (-1000000005))]) (by go_simp) ?_
  refine (rOf_z (n := -1000000005) (by decide) (by decide) _).mono ?_
  rintro e wn ⟨vx, rfl, hx, hb⟩
  obtain ⟨g4, A4, n4, c4, rfl, hs4, hr4⟩ := hx.form
  clear hx
  refine ⟨_, rfl, hb, ?_⟩
  replace E := hid (E.out.trans hb)
  replace N1 := hid (N1.out.up hb)
  replace N2 := hid (N2.out.up hb)
  replace L1 := hid (L1.out.up hb)
  replace R1 := hid (R1.out.up hb)
  replace R2 := hid (R2.out.up hb)
  replace R3 := hid (R3.out.up hb)
  have HS4 := hid hs4
  have R4 := hid hr4
  clear hb hs4 hr4
  simp only [Act.put, List.setIfInBounds_toArray, List.set_cons_zero, List.set_cons_succ]
  refine WE.call (d := some 28) rfl rfl (by rfl) (f := 17) (args := #[(.agg #[.bool g1, .slice A1 n1 c1]), (.agg #[.bool g4, .slice A4 n4 c4])]) (by go_simp) ?_
  refine (equal_z (IsZ.mk HS1.out R1.out) (IsZ.mk HS4.out R4.out)).mono ?_
  rintro e wn ⟨rfl, hb⟩
  refine ⟨_, rfl, hb, ?_⟩
  replace E := hid (E.out.trans hb)
  replace N1 := hid (N1.out.up hb)
  replace N2 := hid (N2.out.up hb)
  replace L1 := hid (L1.out.up hb)
  replace R1 := hid (R1.out.up hb)
  replace R2 := hid (R2.out.up hb)
  replace R3 := hid (R3.out.up hb)
  replace R4 := hid (R4.out.up hb)
  clear hb
  simp only [Act.put, List.setIfInBounds_toArray, List.set_cons_zero, List.set_cons_succ]
  refine WE.pure (d := some 29) rfl rfl (by rfl) (v := (.bool true)) (fun w' hk => ?_) ?_
  · go_simp
  simp only [Act.put, List.setIfInBounds_toArray, List.set_cons_zero, List.set_cons_succ]
  refine WE.pure (d := some 30) rfl rfl (by rfl) (v := (.bool true)) (fun w' hk => ?_) ?_
  · go_simp
  simp only [Act.put, List.setIfInBounds_toArray, List.set_cons_zero, List.set_cons_succ]
  refine WE.pure (d := some 31) rfl rfl (by rfl) (v := (.int .i64 10)) (fun w' hk => ?_) ?_
  · go_simp
  simp only [Act.put, List.setIfInBounds_toArray, List.set_cons_zero, List.set_cons_succ]
  refine WE.pure (d := some 32) rfl rfl (by rfl) (v := (.bool true)) (fun w' hk => ?_) ?_
  · go_simp
  simp only [Act.put, List.setIfInBounds_toArray, List.set_cons_zero, List.set_cons_succ]
  refine WE.pure (d := some 33) rfl rfl (by rfl) (v := (.bool true)) (fun w' hk => ?_) ?_
  · go_simp
  simp only [Act.put, List.setIfInBounds_toArray, List.set_cons_zero, List.set_cons_succ]
  refine WE.pure (d := some 34) rfl rfl (by rfl) (v := (.bool true)) (fun w' hk => ?_) ?_
  · go_simp
  simp only [Act.put, List.setIfInBounds_toArray, List.set_cons_zero, List.set_cons_succ]
  refine WE.call (d := some 35) rfl rfl (by rfl) (f := 15) (args := #[(Value.string { data := #[48] })]) (by go_simp) ?_
  refine (numeral_to [48] _ (by decide) (b := true) (by decide)).mono ?_
  rintro e wq ⟨rfl, rfl⟩
  refine ⟨_, rfl, Ext.refl _, ?_⟩
  simp only [Act.put, List.setIfInBounds_toArray, List.set_cons_zero, List.set_cons_succ]
  refine WE.pure (d := some 36) rfl rfl (by rfl) (v := (.bool true)) (fun w' hk => ?_) ?_
  · go_simp
  simp only [Act.put, List.setIfInBounds_toArray, List.set_cons_zero, List.set_cons_succ]
  refine WE.pure (d := some 37) rfl rfl (by rfl) (v := (.bool true)) (fun w' hk => ?_) ?_
  · go_simp
  simp only [Act.put, List.setIfInBounds_toArray, List.set_cons_zero, List.set_cons_succ]
  refine WE.call (d := some 38) rfl rfl (by rfl) (f := 15) (args := #[(Value.string { data := #[] })]) (by go_simp) ?_
  refine (numeral_to [] _ (by decide) (b := false) (by decide)).mono ?_
  rintro e wq ⟨rfl, rfl⟩
  refine ⟨_, rfl, Ext.refl _, ?_⟩
  simp only [Act.put, List.setIfInBounds_toArray, List.set_cons_zero, List.set_cons_succ]
  refine WE.pure (d := some 39) rfl rfl (by rfl) (v := (.bool true)) (fun w' hk => ?_) ?_
  · go_simp
  simp only [Act.put, List.setIfInBounds_toArray, List.set_cons_zero, List.set_cons_succ]
  refine WE.pure (d := some 40) rfl rfl (by rfl) (v := (.bool true)) (fun w' hk => ?_) ?_
  · go_simp
  simp only [Act.put, List.setIfInBounds_toArray, List.set_cons_zero, List.set_cons_succ]
  refine WE.pure (d := some 41) rfl rfl (by rfl) (v := (.bool true)) (fun w' hk => ?_) ?_
  · go_simp
  simp only [Act.put, List.setIfInBounds_toArray, List.set_cons_zero, List.set_cons_succ]
  refine WE.pure (d := some 42) rfl rfl (by rfl) (v := (.agg #[.bool false, .slice none 0 0])) (fun w' hk => ?_) ?_
  · go_simp
  simp only [Act.put, List.setIfInBounds_toArray, List.set_cons_zero, List.set_cons_succ]
  refine WE.call (d := some 43) rfl rfl (by rfl) (f := 11) (args := #[(.agg #[.bool false, .slice none 0 0])]) (by go_simp) ?_
  refine (print_to IsZ.nil.worth (by omega) (HT.out.up E.out) K.t3).mono ?_
  rintro e wn ⟨rfl, hb⟩
  refine ⟨_, rfl, hb, ?_⟩
  replace E := hid (E.out.trans hb)
  replace N1 := hid (N1.out.up hb)
  replace N2 := hid (N2.out.up hb)
  replace L1 := hid (L1.out.up hb)
  replace R1 := hid (R1.out.up hb)
  replace R2 := hid (R2.out.up hb)
  replace R3 := hid (R3.out.up hb)
  replace R4 := hid (R4.out.up hb)
  clear hb
  simp only [Act.put, List.setIfInBounds_toArray, List.set_cons_zero, List.set_cons_succ]
  refine WE.pure (d := some 44) rfl rfl (by rfl) (v := (.bool true)) (fun w' hk => ?_) ?_
  · go_simp
  simp only [Act.put, List.setIfInBounds_toArray, List.set_cons_zero, List.set_cons_succ]
  refine WE.pure (d := some 45) rfl rfl (by rfl) (v := (.bool true)) (fun w' hk => ?_) ?_
  · go_simp
  simp only [Act.put, List.setIfInBounds_toArray, List.set_cons_zero, List.set_cons_succ]
  refine WE.pure (d := some 0) rfl rfl (by rfl) (v := (.bool true)) (fun w' hk => ?_) ?_
  · go_simp
  simp only [Act.put, List.setIfInBounds_toArray, List.set_cons_zero, List.set_cons_succ]
  refine WE.done ?_
  go_wp2
  go_ret
  exact ⟨rfl, E.out⟩

end Go.Proofs.YthlafkbldlmmaaaDoor
