/-
  WholeExact: whatever two integers, or what is none, and a number of 16 bits: true, and the input reads as it did. No conditions.
-/
import Derived.Test.YtjmonmbgfihgmaaZKnown
namespace Go.Proofs.Ytjmonmbgfihgmaa
open Go.ChangeShapes Go.WideShapes Go.ChangeAt Go.RowKit
set_option linter.unusedSimpArgs false
set_option linter.unusedVariables false

theorem zcmp_le {a b : Int} (h : a ≤ b) : decide (M.zcmp a b ≤ 0) = true := by
  rcases (by omega : a < b ∨ a = b) with h | h
  · rw [M.zcmp_lt h]; rfl
  · rw [M.zcmp_same h]; rfl
theorem emod_small {r y : Int} (h0 : 0 ≤ r) (h : r < (y.natAbs : Int)) : r % y = r := by
  rcases (by omega : 0 < y ∨ y < 0) with hp | hp
  · exact Int.emod_eq_of_lt h0 (by omega)
  · rw [← Int.emod_neg]; exact Int.emod_eq_of_lt h0 (by omega)
theorem ediv_small {r y : Int} (h0 : 0 ≤ r) (h : r < (y.natAbs : Int)) : r / y = 0 := by
  rcases (by omega : 0 < y ∨ y < 0) with hp | hp
  · exact Int.ediv_eq_zero_of_lt h0 (by omega)
  · have := Int.ediv_neg r y
    have h2 := Int.ediv_eq_zero_of_lt h0 (show r < -y by omega)
    omega
theorem u16_of_wf {n : Int} (h : (Lit.int .u16 n).wf = true) : 0 ≤ n ∧ n ≤ 65535 := by
  simpa [Lit.wf, IntKind.min, IntKind.max, IntKind.signed, IntKind.bits] using h

set_option maxHeartbeats 1000000 in
theorem wholeExact_skip0 (W : World) (ga : Bool) (Aa : Option Addr) (na ca : Nat) (la : List Nat) (ha : Num W W.heap.size (.slice Aa na ca) la) (gb : Bool) (Ab : Option Addr) (nb cb : Nat) (lb : List Nat) (hb : Num W W.heap.size (.slice Ab nb cb) lb) (r : Int) (hr0 : 0 ≤ r) (hr1 : r ≤ 65535) (fa : Hid (decide (la.length ≤ 8) = false)) :
    Calls Try.prog 9 #[.agg #[.bool ga, .slice Aa na ca], .agg #[.bool gb, .slice Ab nb cb], .int .u16 r] W (fun e w' => e = .returned (.bool true) ∧ Ext W w') := by
  have Na := hid ha
  have Nb := hid hb
  clear ha hb
  go_enter Try.func9, Try.ntmps9
  go_upto_region 1 with (fail)
  have E := hid (((Ext.refl W).alloc' (.cells #[.bool ga, .slice Aa na ca] 24)).alloc' (.cells #[.bool gb, .slice Ab nb cb] 24))
  have Ba : Hid (Box ((W.alloc (.cells #[.bool ga, .slice Aa na ca] 24)).alloc (.cells #[.bool gb, .slice Ab nb cb] 24)) (W.heap.size) #[.bool ga, .slice Aa na ca] 24) := hid ((Box.at_ (w := W) #[.bool ga, .slice Aa na ca] 24 (by simp)).alloc (.cells #[.bool gb, .slice Ab nb cb] 24))
  have Bb : Hid (Box ((W.alloc (.cells #[.bool ga, .slice Aa na ca] 24)).alloc (.cells #[.bool gb, .slice Ab nb cb] 24)) (W.heap.size + 1) #[.bool gb, .slice Ab nb cb] 24) := hid (Box.at_ (w := (W.alloc (.cells #[.bool ga, .slice Aa na ca] 24))) #[.bool gb, .slice Ab nb cb] 24 (by simp))
  replace Na := hid (Na.out.up E.out)
  replace Nb := hid (Nb.out.up E.out)
  go_upto_region 1 with (fail)
  refine wp_region_T [(0, 1), (1, 0)] (by kernel_rfl) fun wd hb => ?_
  replace E := hid (E.out.trans hb)
  replace Ba := hid (Ba.out.up hb)
  replace Bb := hid (Bb.out.up hb)
  replace Na := hid (Na.out.up hb)
  replace Nb := hid (Nb.out.up hb)
  clear hb
  refine WE.call (d := some 12) rfl rfl (by rfl) (f := 11) (args := #[]) (by go_simp) ?_
  refine (known2 _).mono ?_
  rintro e wn ⟨rfl, hb⟩
  refine ⟨_, rfl, hb, ?_⟩
  replace E := hid (E.out.trans hb)
  replace Ba := hid (Ba.out.up hb)
  replace Bb := hid (Bb.out.up hb)
  replace Na := hid (Na.out.up hb)
  replace Nb := hid (Nb.out.up hb)
  clear hb
  simp only [Act.put, List.setIfInBounds_toArray, List.set_cons_zero, List.set_cons_succ]
  refine WE.pure (d := some 13) rfl rfl (by rfl) (v := (.bool false)) (fun w' hk => ?_) ?_
  · go_simp
  simp only [Act.put, List.setIfInBounds_toArray, List.set_cons_zero, List.set_cons_succ]
  refine WE.done ?_
  go_upto_region 3 with (fail)
  refine wp_region_T [(0, 0), (1, 1), (2, 0), (3, 0), (4, 0), (5, 1), (6, 0), (7, 0), (8, 0), (9, 0), (10, 1), (11, 0), (12, 0), (13, 0), (14, 0), (15, 1), (16, 0), (17, 0), (18, 0), (19, 0), (20, 1), (21, 0), (22, 0), (23, 1), (24, 1), (25, 0), (26, 0)] (by kernel_rfl) fun wd hb => ?_
  replace E := hid (E.out.trans hb)
  replace Ba := hid (Ba.out.up hb)
  replace Bb := hid (Bb.out.up hb)
  replace Na := hid (Na.out.up hb)
  replace Nb := hid (Nb.out.up hb)
  clear hb
  refine WE.pure (d := some 14) rfl rfl (by rfl) (v := (.agg #[.bool ga, .slice Aa na ca])) (fun w' hk => ?_) ?_
  · have c0 := hk.cell (Ba.out.cell (o := 0) (v := .bool ga) rfl); have c1 := hk.cell (Ba.out.cell (o := 1) (v := .slice Aa na ca) rfl); go_simp
  simp only [Act.put, List.setIfInBounds_toArray, List.set_cons_zero, List.set_cons_succ]
  refine WE.call (d := some 15) rfl rfl (by rfl) (f := 12) (args := #[(.agg #[.bool ga, .slice Aa na ca])]) (by go_simp) ?_
  refine (few_z Na.out fa.out).mono ?_
  rintro e wn ⟨rfl, hb⟩
  refine ⟨_, rfl, hb, ?_⟩
  replace E := hid (E.out.trans hb)
  replace Ba := hid (Ba.out.up hb)
  replace Bb := hid (Bb.out.up hb)
  replace Na := hid (Na.out.up hb)
  replace Nb := hid (Nb.out.up hb)
  clear hb
  simp only [Act.put, List.setIfInBounds_toArray, List.set_cons_zero, List.set_cons_succ]
  refine WE.pure (d := some 16) rfl rfl (by rfl) (v := (.bool true)) (fun w' hk => ?_) ?_
  · go_simp
  simp only [Act.put, List.setIfInBounds_toArray, List.set_cons_zero, List.set_cons_succ]
  refine WE.pure (d := some 17) rfl rfl (by rfl) (v := (.bool true)) (fun w' hk => ?_) ?_
  · go_simp
  simp only [Act.put, List.setIfInBounds_toArray, List.set_cons_zero, List.set_cons_succ]
  refine WE.skip (d := some 18) rfl rfl (by rfl) ?_
  simp only [Act.put, List.setIfInBounds_toArray, List.set_cons_zero, List.set_cons_succ]
  refine WE.pass (d := some 19) rfl rfl (by rfl) ?_
  simp only [Act.put, List.setIfInBounds_toArray, List.set_cons_zero, List.set_cons_succ]
  refine WE.skip (d := some 20) rfl rfl (by rfl) ?_
  simp only [Act.put, List.setIfInBounds_toArray, List.set_cons_zero, List.set_cons_succ]
  refine WE.pure (d := some 21) rfl rfl (by rfl) (v := (.bool true)) (fun w' hk => ?_) ?_
  · go_simp
  simp only [Act.put, List.setIfInBounds_toArray, List.set_cons_zero, List.set_cons_succ]
  refine WE.pure (d := some 22) rfl rfl (by rfl) (v := (.bool true)) (fun w' hk => ?_) ?_
  · go_simp
  simp only [Act.put, List.setIfInBounds_toArray, List.set_cons_zero, List.set_cons_succ]
  refine WE.skip (d := some 23) rfl rfl (by rfl) ?_
  simp only [Act.put, List.setIfInBounds_toArray, List.set_cons_zero, List.set_cons_succ]
  refine WE.pass (d := some 24) rfl rfl (by rfl) ?_
  simp only [Act.put, List.setIfInBounds_toArray, List.set_cons_zero, List.set_cons_succ]
  refine WE.skip (d := some 25) rfl rfl (by rfl) ?_
  simp only [Act.put, List.setIfInBounds_toArray, List.set_cons_zero, List.set_cons_succ]
  refine WE.pure (d := some 26) rfl rfl (by rfl) (v := (.bool true)) (fun w' hk => ?_) ?_
  · go_simp
  simp only [Act.put, List.setIfInBounds_toArray, List.set_cons_zero, List.set_cons_succ]
  refine WE.pure (d := some 27) rfl rfl (by rfl) (v := (.bool true)) (fun w' hk => ?_) ?_
  · go_simp
  simp only [Act.put, List.setIfInBounds_toArray, List.set_cons_zero, List.set_cons_succ]
  refine WE.skip (d := some 28) rfl rfl (by rfl) ?_
  simp only [Act.put, List.setIfInBounds_toArray, List.set_cons_zero, List.set_cons_succ]
  refine WE.pass (d := some 29) rfl rfl (by rfl) ?_
  simp only [Act.put, List.setIfInBounds_toArray, List.set_cons_zero, List.set_cons_succ]
  refine WE.skip (d := some 30) rfl rfl (by rfl) ?_
  simp only [Act.put, List.setIfInBounds_toArray, List.set_cons_zero, List.set_cons_succ]
  refine WE.pure (d := some 31) rfl rfl (by rfl) (v := (.bool true)) (fun w' hk => ?_) ?_
  · go_simp
  simp only [Act.put, List.setIfInBounds_toArray, List.set_cons_zero, List.set_cons_succ]
  refine WE.pure (d := some 32) rfl rfl (by rfl) (v := (.bool true)) (fun w' hk => ?_) ?_
  · go_simp
  simp only [Act.put, List.setIfInBounds_toArray, List.set_cons_zero, List.set_cons_succ]
  refine WE.skip (d := some 33) rfl rfl (by rfl) ?_
  simp only [Act.put, List.setIfInBounds_toArray, List.set_cons_zero, List.set_cons_succ]
  refine WE.pass (d := some 34) rfl rfl (by rfl) ?_
  simp only [Act.put, List.setIfInBounds_toArray, List.set_cons_zero, List.set_cons_succ]
  refine WE.skip (d := some 35) rfl rfl (by rfl) ?_
  simp only [Act.put, List.setIfInBounds_toArray, List.set_cons_zero, List.set_cons_succ]
  refine WE.skip (d := some 36) rfl rfl (by rfl) ?_
  simp only [Act.put, List.setIfInBounds_toArray, List.set_cons_zero, List.set_cons_succ]
  refine WE.pass (d := some 37) rfl rfl (by rfl) ?_
  simp only [Act.put, List.setIfInBounds_toArray, List.set_cons_zero, List.set_cons_succ]
  refine WE.pass (d := some 38) rfl rfl (by rfl) ?_
  simp only [Act.put, List.setIfInBounds_toArray, List.set_cons_zero, List.set_cons_succ]
  refine WE.skip (d := some 39) rfl rfl (by rfl) ?_
  simp only [Act.put, List.setIfInBounds_toArray, List.set_cons_zero, List.set_cons_succ]
  refine WE.pure (d := some 40) rfl rfl (by rfl) (v := (.bool true)) (fun w' hk => ?_) ?_
  · go_simp
  simp only [Act.put, List.setIfInBounds_toArray, List.set_cons_zero, List.set_cons_succ]
  refine WE.done ?_
  go_wp2
  go_ret
  exact ⟨rfl, E.out⟩

set_option maxHeartbeats 1000000 in
theorem wholeExact_skip1 (W : World) (ga : Bool) (Aa : Option Addr) (na ca : Nat) (la : List Nat) (ha : Num W W.heap.size (.slice Aa na ca) la) (gb : Bool) (Ab : Option Addr) (nb cb : Nat) (lb : List Nat) (hb : Num W W.heap.size (.slice Ab nb cb) lb) (r : Int) (hr0 : 0 ≤ r) (hr1 : r ≤ 65535) (fa : Hid (decide (la.length ≤ 8) = true)) (fb : Hid (decide (lb.length ≤ 8) = false)) :
    Calls Try.prog 9 #[.agg #[.bool ga, .slice Aa na ca], .agg #[.bool gb, .slice Ab nb cb], .int .u16 r] W (fun e w' => e = .returned (.bool true) ∧ Ext W w') := by
  have Na := hid ha
  have Nb := hid hb
  clear ha hb
  go_enter Try.func9, Try.ntmps9
  go_upto_region 1 with (fail)
  have E := hid (((Ext.refl W).alloc' (.cells #[.bool ga, .slice Aa na ca] 24)).alloc' (.cells #[.bool gb, .slice Ab nb cb] 24))
  have Ba : Hid (Box ((W.alloc (.cells #[.bool ga, .slice Aa na ca] 24)).alloc (.cells #[.bool gb, .slice Ab nb cb] 24)) (W.heap.size) #[.bool ga, .slice Aa na ca] 24) := hid ((Box.at_ (w := W) #[.bool ga, .slice Aa na ca] 24 (by simp)).alloc (.cells #[.bool gb, .slice Ab nb cb] 24))
  have Bb : Hid (Box ((W.alloc (.cells #[.bool ga, .slice Aa na ca] 24)).alloc (.cells #[.bool gb, .slice Ab nb cb] 24)) (W.heap.size + 1) #[.bool gb, .slice Ab nb cb] 24) := hid (Box.at_ (w := (W.alloc (.cells #[.bool ga, .slice Aa na ca] 24))) #[.bool gb, .slice Ab nb cb] 24 (by simp))
  replace Na := hid (Na.out.up E.out)
  replace Nb := hid (Nb.out.up E.out)
  go_upto_region 1 with (fail)
  refine wp_region_T [(0, 1), (1, 0)] (by kernel_rfl) fun wd hb => ?_
  replace E := hid (E.out.trans hb)
  replace Ba := hid (Ba.out.up hb)
  replace Bb := hid (Bb.out.up hb)
  replace Na := hid (Na.out.up hb)
  replace Nb := hid (Nb.out.up hb)
  clear hb
  refine WE.call (d := some 12) rfl rfl (by rfl) (f := 11) (args := #[]) (by go_simp) ?_
  refine (known2 _).mono ?_
  rintro e wn ⟨rfl, hb⟩
  refine ⟨_, rfl, hb, ?_⟩
  replace E := hid (E.out.trans hb)
  replace Ba := hid (Ba.out.up hb)
  replace Bb := hid (Bb.out.up hb)
  replace Na := hid (Na.out.up hb)
  replace Nb := hid (Nb.out.up hb)
  clear hb
  simp only [Act.put, List.setIfInBounds_toArray, List.set_cons_zero, List.set_cons_succ]
  refine WE.pure (d := some 13) rfl rfl (by rfl) (v := (.bool false)) (fun w' hk => ?_) ?_
  · go_simp
  simp only [Act.put, List.setIfInBounds_toArray, List.set_cons_zero, List.set_cons_succ]
  refine WE.done ?_
  go_upto_region 3 with (fail)
  refine wp_region_T [(0, 0), (1, 1), (2, 0), (3, 0), (4, 0), (5, 1), (6, 0), (7, 0), (8, 0), (9, 0), (10, 1), (11, 0), (12, 0), (13, 0), (14, 0), (15, 1), (16, 0), (17, 0), (18, 0), (19, 0), (20, 1), (21, 0), (22, 0), (23, 1), (24, 1), (25, 0), (26, 0)] (by kernel_rfl) fun wd hb => ?_
  replace E := hid (E.out.trans hb)
  replace Ba := hid (Ba.out.up hb)
  replace Bb := hid (Bb.out.up hb)
  replace Na := hid (Na.out.up hb)
  replace Nb := hid (Nb.out.up hb)
  clear hb
  refine WE.pure (d := some 14) rfl rfl (by rfl) (v := (.agg #[.bool ga, .slice Aa na ca])) (fun w' hk => ?_) ?_
  · have c0 := hk.cell (Ba.out.cell (o := 0) (v := .bool ga) rfl); have c1 := hk.cell (Ba.out.cell (o := 1) (v := .slice Aa na ca) rfl); go_simp
  simp only [Act.put, List.setIfInBounds_toArray, List.set_cons_zero, List.set_cons_succ]
  refine WE.call (d := some 15) rfl rfl (by rfl) (f := 12) (args := #[(.agg #[.bool ga, .slice Aa na ca])]) (by go_simp) ?_
  refine (few_z Na.out fa.out).mono ?_
  rintro e wn ⟨rfl, hb⟩
  refine ⟨_, rfl, hb, ?_⟩
  replace E := hid (E.out.trans hb)
  replace Ba := hid (Ba.out.up hb)
  replace Bb := hid (Bb.out.up hb)
  replace Na := hid (Na.out.up hb)
  replace Nb := hid (Nb.out.up hb)
  clear hb
  simp only [Act.put, List.setIfInBounds_toArray, List.set_cons_zero, List.set_cons_succ]
  refine WE.pure (d := some 16) rfl rfl (by rfl) (v := (.bool false)) (fun w' hk => ?_) ?_
  · go_simp
  simp only [Act.put, List.setIfInBounds_toArray, List.set_cons_zero, List.set_cons_succ]
  refine WE.pure (d := some 17) rfl rfl (by rfl) (v := (.bool false)) (fun w' hk => ?_) ?_
  · go_simp
  simp only [Act.put, List.setIfInBounds_toArray, List.set_cons_zero, List.set_cons_succ]
  refine WE.pure (d := some 18) rfl rfl (by rfl) (v := (.agg #[.bool gb, .slice Ab nb cb])) (fun w' hk => ?_) ?_
  · have c0 := hk.cell (Bb.out.cell (o := 0) (v := .bool gb) rfl); have c1 := hk.cell (Bb.out.cell (o := 1) (v := .slice Ab nb cb) rfl); go_simp
  simp only [Act.put, List.setIfInBounds_toArray, List.set_cons_zero, List.set_cons_succ]
  refine WE.call (d := some 19) rfl rfl (by rfl) (f := 12) (args := #[(.agg #[.bool gb, .slice Ab nb cb])]) (by go_simp) ?_
  refine (few_z Nb.out fb.out).mono ?_
  rintro e wn ⟨rfl, hb⟩
  refine ⟨_, rfl, hb, ?_⟩
  replace E := hid (E.out.trans hb)
  replace Ba := hid (Ba.out.up hb)
  replace Bb := hid (Bb.out.up hb)
  replace Na := hid (Na.out.up hb)
  replace Nb := hid (Nb.out.up hb)
  clear hb
  simp only [Act.put, List.setIfInBounds_toArray, List.set_cons_zero, List.set_cons_succ]
  refine WE.pure (d := some 20) rfl rfl (by rfl) (v := (.bool true)) (fun w' hk => ?_) ?_
  · go_simp
  simp only [Act.put, List.setIfInBounds_toArray, List.set_cons_zero, List.set_cons_succ]
  refine WE.pure (d := some 21) rfl rfl (by rfl) (v := (.bool true)) (fun w' hk => ?_) ?_
  · go_simp
  simp only [Act.put, List.setIfInBounds_toArray, List.set_cons_zero, List.set_cons_succ]
  refine WE.pure (d := some 22) rfl rfl (by rfl) (v := (.bool true)) (fun w' hk => ?_) ?_
  · go_simp
  simp only [Act.put, List.setIfInBounds_toArray, List.set_cons_zero, List.set_cons_succ]
  refine WE.skip (d := some 23) rfl rfl (by rfl) ?_
  simp only [Act.put, List.setIfInBounds_toArray, List.set_cons_zero, List.set_cons_succ]
  refine WE.pass (d := some 24) rfl rfl (by rfl) ?_
  simp only [Act.put, List.setIfInBounds_toArray, List.set_cons_zero, List.set_cons_succ]
  refine WE.skip (d := some 25) rfl rfl (by rfl) ?_
  simp only [Act.put, List.setIfInBounds_toArray, List.set_cons_zero, List.set_cons_succ]
  refine WE.pure (d := some 26) rfl rfl (by rfl) (v := (.bool true)) (fun w' hk => ?_) ?_
  · go_simp
  simp only [Act.put, List.setIfInBounds_toArray, List.set_cons_zero, List.set_cons_succ]
  refine WE.pure (d := some 27) rfl rfl (by rfl) (v := (.bool true)) (fun w' hk => ?_) ?_
  · go_simp
  simp only [Act.put, List.setIfInBounds_toArray, List.set_cons_zero, List.set_cons_succ]
  refine WE.skip (d := some 28) rfl rfl (by rfl) ?_
  simp only [Act.put, List.setIfInBounds_toArray, List.set_cons_zero, List.set_cons_succ]
  refine WE.pass (d := some 29) rfl rfl (by rfl) ?_
  simp only [Act.put, List.setIfInBounds_toArray, List.set_cons_zero, List.set_cons_succ]
  refine WE.skip (d := some 30) rfl rfl (by rfl) ?_
  simp only [Act.put, List.setIfInBounds_toArray, List.set_cons_zero, List.set_cons_succ]
  refine WE.pure (d := some 31) rfl rfl (by rfl) (v := (.bool true)) (fun w' hk => ?_) ?_
  · go_simp
  simp only [Act.put, List.setIfInBounds_toArray, List.set_cons_zero, List.set_cons_succ]
  refine WE.pure (d := some 32) rfl rfl (by rfl) (v := (.bool true)) (fun w' hk => ?_) ?_
  · go_simp
  simp only [Act.put, List.setIfInBounds_toArray, List.set_cons_zero, List.set_cons_succ]
  refine WE.skip (d := some 33) rfl rfl (by rfl) ?_
  simp only [Act.put, List.setIfInBounds_toArray, List.set_cons_zero, List.set_cons_succ]
  refine WE.pass (d := some 34) rfl rfl (by rfl) ?_
  simp only [Act.put, List.setIfInBounds_toArray, List.set_cons_zero, List.set_cons_succ]
  refine WE.skip (d := some 35) rfl rfl (by rfl) ?_
  simp only [Act.put, List.setIfInBounds_toArray, List.set_cons_zero, List.set_cons_succ]
  refine WE.skip (d := some 36) rfl rfl (by rfl) ?_
  simp only [Act.put, List.setIfInBounds_toArray, List.set_cons_zero, List.set_cons_succ]
  refine WE.pass (d := some 37) rfl rfl (by rfl) ?_
  simp only [Act.put, List.setIfInBounds_toArray, List.set_cons_zero, List.set_cons_succ]
  refine WE.pass (d := some 38) rfl rfl (by rfl) ?_
  simp only [Act.put, List.setIfInBounds_toArray, List.set_cons_zero, List.set_cons_succ]
  refine WE.skip (d := some 39) rfl rfl (by rfl) ?_
  simp only [Act.put, List.setIfInBounds_toArray, List.set_cons_zero, List.set_cons_succ]
  refine WE.pure (d := some 40) rfl rfl (by rfl) (v := (.bool true)) (fun w' hk => ?_) ?_
  · go_simp
  simp only [Act.put, List.setIfInBounds_toArray, List.set_cons_zero, List.set_cons_succ]
  refine WE.done ?_
  go_wp2
  go_ret
  exact ⟨rfl, E.out⟩

set_option maxHeartbeats 1000000 in
theorem wholeExact_skip2 (W : World) (ga : Bool) (Aa : Option Addr) (na ca : Nat) (la : List Nat) (ha : Num W W.heap.size (.slice Aa na ca) la) (gb : Bool) (Ab : Option Addr) (nb cb : Nat) (lb : List Nat) (hb : Num W W.heap.size (.slice Ab nb cb) lb) (r : Int) (hr0 : 0 ≤ r) (hr1 : r ≤ 65535) (fa : Hid (decide (la.length ≤ 8) = true)) (fb : Hid (decide (lb.length ≤ 8) = true)) (ia : Hid (M.isZ ga la = false)) :
    Calls Try.prog 9 #[.agg #[.bool ga, .slice Aa na ca], .agg #[.bool gb, .slice Ab nb cb], .int .u16 r] W (fun e w' => e = .returned (.bool true) ∧ Ext W w') := by
  have Na := hid ha
  have Nb := hid hb
  clear ha hb
  go_enter Try.func9, Try.ntmps9
  go_upto_region 1 with (fail)
  have E := hid (((Ext.refl W).alloc' (.cells #[.bool ga, .slice Aa na ca] 24)).alloc' (.cells #[.bool gb, .slice Ab nb cb] 24))
  have Ba : Hid (Box ((W.alloc (.cells #[.bool ga, .slice Aa na ca] 24)).alloc (.cells #[.bool gb, .slice Ab nb cb] 24)) (W.heap.size) #[.bool ga, .slice Aa na ca] 24) := hid ((Box.at_ (w := W) #[.bool ga, .slice Aa na ca] 24 (by simp)).alloc (.cells #[.bool gb, .slice Ab nb cb] 24))
  have Bb : Hid (Box ((W.alloc (.cells #[.bool ga, .slice Aa na ca] 24)).alloc (.cells #[.bool gb, .slice Ab nb cb] 24)) (W.heap.size + 1) #[.bool gb, .slice Ab nb cb] 24) := hid (Box.at_ (w := (W.alloc (.cells #[.bool ga, .slice Aa na ca] 24))) #[.bool gb, .slice Ab nb cb] 24 (by simp))
  replace Na := hid (Na.out.up E.out)
  replace Nb := hid (Nb.out.up E.out)
  go_upto_region 1 with (fail)
  refine wp_region_T [(0, 1), (1, 0)] (by kernel_rfl) fun wd hb => ?_
  replace E := hid (E.out.trans hb)
  replace Ba := hid (Ba.out.up hb)
  replace Bb := hid (Bb.out.up hb)
  replace Na := hid (Na.out.up hb)
  replace Nb := hid (Nb.out.up hb)
  clear hb
  refine WE.call (d := some 12) rfl rfl (by rfl) (f := 11) (args := #[]) (by go_simp) ?_
  refine (known2 _).mono ?_
  rintro e wn ⟨rfl, hb⟩
  refine ⟨_, rfl, hb, ?_⟩
  replace E := hid (E.out.trans hb)
  replace Ba := hid (Ba.out.up hb)
  replace Bb := hid (Bb.out.up hb)
  replace Na := hid (Na.out.up hb)
  replace Nb := hid (Nb.out.up hb)
  clear hb
  simp only [Act.put, List.setIfInBounds_toArray, List.set_cons_zero, List.set_cons_succ]
  refine WE.pure (d := some 13) rfl rfl (by rfl) (v := (.bool false)) (fun w' hk => ?_) ?_
  · go_simp
  simp only [Act.put, List.setIfInBounds_toArray, List.set_cons_zero, List.set_cons_succ]
  refine WE.done ?_
  go_upto_region 3 with (fail)
  refine wp_region_T [(0, 0), (1, 1), (2, 0), (3, 0), (4, 0), (5, 1), (6, 0), (7, 0), (8, 0), (9, 0), (10, 1), (11, 0), (12, 0), (13, 0), (14, 0), (15, 1), (16, 0), (17, 0), (18, 0), (19, 0), (20, 1), (21, 0), (22, 0), (23, 1), (24, 1), (25, 0), (26, 0)] (by kernel_rfl) fun wd hb => ?_
  replace E := hid (E.out.trans hb)
  replace Ba := hid (Ba.out.up hb)
  replace Bb := hid (Bb.out.up hb)
  replace Na := hid (Na.out.up hb)
  replace Nb := hid (Nb.out.up hb)
  clear hb
  refine WE.pure (d := some 14) rfl rfl (by rfl) (v := (.agg #[.bool ga, .slice Aa na ca])) (fun w' hk => ?_) ?_
  · have c0 := hk.cell (Ba.out.cell (o := 0) (v := .bool ga) rfl); have c1 := hk.cell (Ba.out.cell (o := 1) (v := .slice Aa na ca) rfl); go_simp
  simp only [Act.put, List.setIfInBounds_toArray, List.set_cons_zero, List.set_cons_succ]
  refine WE.call (d := some 15) rfl rfl (by rfl) (f := 12) (args := #[(.agg #[.bool ga, .slice Aa na ca])]) (by go_simp) ?_
  refine (few_z Na.out fa.out).mono ?_
  rintro e wn ⟨rfl, hb⟩
  refine ⟨_, rfl, hb, ?_⟩
  replace E := hid (E.out.trans hb)
  replace Ba := hid (Ba.out.up hb)
  replace Bb := hid (Bb.out.up hb)
  replace Na := hid (Na.out.up hb)
  replace Nb := hid (Nb.out.up hb)
  clear hb
  simp only [Act.put, List.setIfInBounds_toArray, List.set_cons_zero, List.set_cons_succ]
  refine WE.pure (d := some 16) rfl rfl (by rfl) (v := (.bool false)) (fun w' hk => ?_) ?_
  · go_simp
  simp only [Act.put, List.setIfInBounds_toArray, List.set_cons_zero, List.set_cons_succ]
  refine WE.pure (d := some 17) rfl rfl (by rfl) (v := (.bool false)) (fun w' hk => ?_) ?_
  · go_simp
  simp only [Act.put, List.setIfInBounds_toArray, List.set_cons_zero, List.set_cons_succ]
  refine WE.pure (d := some 18) rfl rfl (by rfl) (v := (.agg #[.bool gb, .slice Ab nb cb])) (fun w' hk => ?_) ?_
  · have c0 := hk.cell (Bb.out.cell (o := 0) (v := .bool gb) rfl); have c1 := hk.cell (Bb.out.cell (o := 1) (v := .slice Ab nb cb) rfl); go_simp
  simp only [Act.put, List.setIfInBounds_toArray, List.set_cons_zero, List.set_cons_succ]
  refine WE.call (d := some 19) rfl rfl (by rfl) (f := 12) (args := #[(.agg #[.bool gb, .slice Ab nb cb])]) (by go_simp) ?_
  refine (few_z Nb.out fb.out).mono ?_
  rintro e wn ⟨rfl, hb⟩
  refine ⟨_, rfl, hb, ?_⟩
  replace E := hid (E.out.trans hb)
  replace Ba := hid (Ba.out.up hb)
  replace Bb := hid (Bb.out.up hb)
  replace Na := hid (Na.out.up hb)
  replace Nb := hid (Nb.out.up hb)
  clear hb
  simp only [Act.put, List.setIfInBounds_toArray, List.set_cons_zero, List.set_cons_succ]
  refine WE.pure (d := some 20) rfl rfl (by rfl) (v := (.bool false)) (fun w' hk => ?_) ?_
  · go_simp
  simp only [Act.put, List.setIfInBounds_toArray, List.set_cons_zero, List.set_cons_succ]
  refine WE.pure (d := some 21) rfl rfl (by rfl) (v := (.bool false)) (fun w' hk => ?_) ?_
  · go_simp
  simp only [Act.put, List.setIfInBounds_toArray, List.set_cons_zero, List.set_cons_succ]
  refine WE.pure (d := some 22) rfl rfl (by rfl) (v := (.bool false)) (fun w' hk => ?_) ?_
  · go_simp
  simp only [Act.put, List.setIfInBounds_toArray, List.set_cons_zero, List.set_cons_succ]
  refine WE.pure (d := some 23) rfl rfl (by rfl) (v := (.agg #[.bool ga, .slice Aa na ca])) (fun w' hk => ?_) ?_
  · have c0 := hk.cell (Ba.out.cell (o := 0) (v := .bool ga) rfl); have c1 := hk.cell (Ba.out.cell (o := 1) (v := .slice Aa na ca) rfl); go_simp
  simp only [Act.put, List.setIfInBounds_toArray, List.set_cons_zero, List.set_cons_succ]
  refine WE.call (d := some 24) rfl rfl (by rfl) (f := 19) (args := #[(.agg #[.bool ga, .slice Aa na ca])]) (by go_simp) ?_
  refine (wIs_any Na.out ia.out).mono ?_
  rintro e wn ⟨rfl, hb⟩
  refine ⟨_, rfl, hb, ?_⟩
  replace E := hid (E.out.trans hb)
  replace Ba := hid (Ba.out.up hb)
  replace Bb := hid (Bb.out.up hb)
  replace Na := hid (Na.out.up hb)
  replace Nb := hid (Nb.out.up hb)
  clear hb
  simp only [Act.put, List.setIfInBounds_toArray, List.set_cons_zero, List.set_cons_succ]
  refine WE.pure (d := some 25) rfl rfl (by rfl) (v := (.bool true)) (fun w' hk => ?_) ?_
  · go_simp
  simp only [Act.put, List.setIfInBounds_toArray, List.set_cons_zero, List.set_cons_succ]
  refine WE.pure (d := some 26) rfl rfl (by rfl) (v := (.bool true)) (fun w' hk => ?_) ?_
  · go_simp
  simp only [Act.put, List.setIfInBounds_toArray, List.set_cons_zero, List.set_cons_succ]
  refine WE.pure (d := some 27) rfl rfl (by rfl) (v := (.bool true)) (fun w' hk => ?_) ?_
  · go_simp
  simp only [Act.put, List.setIfInBounds_toArray, List.set_cons_zero, List.set_cons_succ]
  refine WE.skip (d := some 28) rfl rfl (by rfl) ?_
  simp only [Act.put, List.setIfInBounds_toArray, List.set_cons_zero, List.set_cons_succ]
  refine WE.pass (d := some 29) rfl rfl (by rfl) ?_
  simp only [Act.put, List.setIfInBounds_toArray, List.set_cons_zero, List.set_cons_succ]
  refine WE.skip (d := some 30) rfl rfl (by rfl) ?_
  simp only [Act.put, List.setIfInBounds_toArray, List.set_cons_zero, List.set_cons_succ]
  refine WE.pure (d := some 31) rfl rfl (by rfl) (v := (.bool true)) (fun w' hk => ?_) ?_
  · go_simp
  simp only [Act.put, List.setIfInBounds_toArray, List.set_cons_zero, List.set_cons_succ]
  refine WE.pure (d := some 32) rfl rfl (by rfl) (v := (.bool true)) (fun w' hk => ?_) ?_
  · go_simp
  simp only [Act.put, List.setIfInBounds_toArray, List.set_cons_zero, List.set_cons_succ]
  refine WE.skip (d := some 33) rfl rfl (by rfl) ?_
  simp only [Act.put, List.setIfInBounds_toArray, List.set_cons_zero, List.set_cons_succ]
  refine WE.pass (d := some 34) rfl rfl (by rfl) ?_
  simp only [Act.put, List.setIfInBounds_toArray, List.set_cons_zero, List.set_cons_succ]
  refine WE.skip (d := some 35) rfl rfl (by rfl) ?_
  simp only [Act.put, List.setIfInBounds_toArray, List.set_cons_zero, List.set_cons_succ]
  refine WE.skip (d := some 36) rfl rfl (by rfl) ?_
  simp only [Act.put, List.setIfInBounds_toArray, List.set_cons_zero, List.set_cons_succ]
  refine WE.pass (d := some 37) rfl rfl (by rfl) ?_
  simp only [Act.put, List.setIfInBounds_toArray, List.set_cons_zero, List.set_cons_succ]
  refine WE.pass (d := some 38) rfl rfl (by rfl) ?_
  simp only [Act.put, List.setIfInBounds_toArray, List.set_cons_zero, List.set_cons_succ]
  refine WE.skip (d := some 39) rfl rfl (by rfl) ?_
  simp only [Act.put, List.setIfInBounds_toArray, List.set_cons_zero, List.set_cons_succ]
  refine WE.pure (d := some 40) rfl rfl (by rfl) (v := (.bool true)) (fun w' hk => ?_) ?_
  · go_simp
  simp only [Act.put, List.setIfInBounds_toArray, List.set_cons_zero, List.set_cons_succ]
  refine WE.done ?_
  go_wp2
  go_ret
  exact ⟨rfl, E.out⟩

set_option maxHeartbeats 1000000 in
theorem wholeExact_skip3 (W : World) (ga : Bool) (Aa : Option Addr) (na ca : Nat) (la : List Nat) (ha : Num W W.heap.size (.slice Aa na ca) la) (gb : Bool) (Ab : Option Addr) (nb cb : Nat) (lb : List Nat) (hb : Num W W.heap.size (.slice Ab nb cb) lb) (r : Int) (hr0 : 0 ≤ r) (hr1 : r ≤ 65535) (fa : Hid (decide (la.length ≤ 8) = true)) (fb : Hid (decide (lb.length ≤ 8) = true)) (ia : Hid (M.isZ ga la = true)) (ib : Hid (M.isZ gb lb = false)) :
    Calls Try.prog 9 #[.agg #[.bool ga, .slice Aa na ca], .agg #[.bool gb, .slice Ab nb cb], .int .u16 r] W (fun e w' => e = .returned (.bool true) ∧ Ext W w') := by
  have Na := hid ha
  have Nb := hid hb
  clear ha hb
  go_enter Try.func9, Try.ntmps9
  go_upto_region 1 with (fail)
  have E := hid (((Ext.refl W).alloc' (.cells #[.bool ga, .slice Aa na ca] 24)).alloc' (.cells #[.bool gb, .slice Ab nb cb] 24))
  have Ba : Hid (Box ((W.alloc (.cells #[.bool ga, .slice Aa na ca] 24)).alloc (.cells #[.bool gb, .slice Ab nb cb] 24)) (W.heap.size) #[.bool ga, .slice Aa na ca] 24) := hid ((Box.at_ (w := W) #[.bool ga, .slice Aa na ca] 24 (by simp)).alloc (.cells #[.bool gb, .slice Ab nb cb] 24))
  have Bb : Hid (Box ((W.alloc (.cells #[.bool ga, .slice Aa na ca] 24)).alloc (.cells #[.bool gb, .slice Ab nb cb] 24)) (W.heap.size + 1) #[.bool gb, .slice Ab nb cb] 24) := hid (Box.at_ (w := (W.alloc (.cells #[.bool ga, .slice Aa na ca] 24))) #[.bool gb, .slice Ab nb cb] 24 (by simp))
  replace Na := hid (Na.out.up E.out)
  replace Nb := hid (Nb.out.up E.out)
  go_upto_region 1 with (fail)
  refine wp_region_T [(0, 1), (1, 0)] (by kernel_rfl) fun wd hb => ?_
  replace E := hid (E.out.trans hb)
  replace Ba := hid (Ba.out.up hb)
  replace Bb := hid (Bb.out.up hb)
  replace Na := hid (Na.out.up hb)
  replace Nb := hid (Nb.out.up hb)
  clear hb
  refine WE.call (d := some 12) rfl rfl (by rfl) (f := 11) (args := #[]) (by go_simp) ?_
  refine (known2 _).mono ?_
  rintro e wn ⟨rfl, hb⟩
  refine ⟨_, rfl, hb, ?_⟩
  replace E := hid (E.out.trans hb)
  replace Ba := hid (Ba.out.up hb)
  replace Bb := hid (Bb.out.up hb)
  replace Na := hid (Na.out.up hb)
  replace Nb := hid (Nb.out.up hb)
  clear hb
  simp only [Act.put, List.setIfInBounds_toArray, List.set_cons_zero, List.set_cons_succ]
  refine WE.pure (d := some 13) rfl rfl (by rfl) (v := (.bool false)) (fun w' hk => ?_) ?_
  · go_simp
  simp only [Act.put, List.setIfInBounds_toArray, List.set_cons_zero, List.set_cons_succ]
  refine WE.done ?_
  go_upto_region 3 with (fail)
  refine wp_region_T [(0, 0), (1, 1), (2, 0), (3, 0), (4, 0), (5, 1), (6, 0), (7, 0), (8, 0), (9, 0), (10, 1), (11, 0), (12, 0), (13, 0), (14, 0), (15, 1), (16, 0), (17, 0), (18, 0), (19, 0), (20, 1), (21, 0), (22, 0), (23, 1), (24, 1), (25, 0), (26, 0)] (by kernel_rfl) fun wd hb => ?_
  replace E := hid (E.out.trans hb)
  replace Ba := hid (Ba.out.up hb)
  replace Bb := hid (Bb.out.up hb)
  replace Na := hid (Na.out.up hb)
  replace Nb := hid (Nb.out.up hb)
  clear hb
  refine WE.pure (d := some 14) rfl rfl (by rfl) (v := (.agg #[.bool ga, .slice Aa na ca])) (fun w' hk => ?_) ?_
  · have c0 := hk.cell (Ba.out.cell (o := 0) (v := .bool ga) rfl); have c1 := hk.cell (Ba.out.cell (o := 1) (v := .slice Aa na ca) rfl); go_simp
  simp only [Act.put, List.setIfInBounds_toArray, List.set_cons_zero, List.set_cons_succ]
  refine WE.call (d := some 15) rfl rfl (by rfl) (f := 12) (args := #[(.agg #[.bool ga, .slice Aa na ca])]) (by go_simp) ?_
  refine (few_z Na.out fa.out).mono ?_
  rintro e wn ⟨rfl, hb⟩
  refine ⟨_, rfl, hb, ?_⟩
  replace E := hid (E.out.trans hb)
  replace Ba := hid (Ba.out.up hb)
  replace Bb := hid (Bb.out.up hb)
  replace Na := hid (Na.out.up hb)
  replace Nb := hid (Nb.out.up hb)
  clear hb
  simp only [Act.put, List.setIfInBounds_toArray, List.set_cons_zero, List.set_cons_succ]
  refine WE.pure (d := some 16) rfl rfl (by rfl) (v := (.bool false)) (fun w' hk => ?_) ?_
  · go_simp
  simp only [Act.put, List.setIfInBounds_toArray, List.set_cons_zero, List.set_cons_succ]
  refine WE.pure (d := some 17) rfl rfl (by rfl) (v := (.bool false)) (fun w' hk => ?_) ?_
  · go_simp
  simp only [Act.put, List.setIfInBounds_toArray, List.set_cons_zero, List.set_cons_succ]
  refine WE.pure (d := some 18) rfl rfl (by rfl) (v := (.agg #[.bool gb, .slice Ab nb cb])) (fun w' hk => ?_) ?_
  · have c0 := hk.cell (Bb.out.cell (o := 0) (v := .bool gb) rfl); have c1 := hk.cell (Bb.out.cell (o := 1) (v := .slice Ab nb cb) rfl); go_simp
  simp only [Act.put, List.setIfInBounds_toArray, List.set_cons_zero, List.set_cons_succ]
  refine WE.call (d := some 19) rfl rfl (by rfl) (f := 12) (args := #[(.agg #[.bool gb, .slice Ab nb cb])]) (by go_simp) ?_
  refine (few_z Nb.out fb.out).mono ?_
  rintro e wn ⟨rfl, hb⟩
  refine ⟨_, rfl, hb, ?_⟩
  replace E := hid (E.out.trans hb)
  replace Ba := hid (Ba.out.up hb)
  replace Bb := hid (Bb.out.up hb)
  replace Na := hid (Na.out.up hb)
  replace Nb := hid (Nb.out.up hb)
  clear hb
  simp only [Act.put, List.setIfInBounds_toArray, List.set_cons_zero, List.set_cons_succ]
  refine WE.pure (d := some 20) rfl rfl (by rfl) (v := (.bool false)) (fun w' hk => ?_) ?_
  · go_simp
  simp only [Act.put, List.setIfInBounds_toArray, List.set_cons_zero, List.set_cons_succ]
  refine WE.pure (d := some 21) rfl rfl (by rfl) (v := (.bool false)) (fun w' hk => ?_) ?_
  · go_simp
  simp only [Act.put, List.setIfInBounds_toArray, List.set_cons_zero, List.set_cons_succ]
  refine WE.pure (d := some 22) rfl rfl (by rfl) (v := (.bool false)) (fun w' hk => ?_) ?_
  · go_simp
  simp only [Act.put, List.setIfInBounds_toArray, List.set_cons_zero, List.set_cons_succ]
  refine WE.pure (d := some 23) rfl rfl (by rfl) (v := (.agg #[.bool ga, .slice Aa na ca])) (fun w' hk => ?_) ?_
  · have c0 := hk.cell (Ba.out.cell (o := 0) (v := .bool ga) rfl); have c1 := hk.cell (Ba.out.cell (o := 1) (v := .slice Aa na ca) rfl); go_simp
  simp only [Act.put, List.setIfInBounds_toArray, List.set_cons_zero, List.set_cons_succ]
  refine WE.call (d := some 24) rfl rfl (by rfl) (f := 19) (args := #[(.agg #[.bool ga, .slice Aa na ca])]) (by go_simp) ?_
  refine (wIs_any Na.out ia.out).mono ?_
  rintro e wn ⟨rfl, hb⟩
  refine ⟨_, rfl, hb, ?_⟩
  replace E := hid (E.out.trans hb)
  replace Ba := hid (Ba.out.up hb)
  replace Bb := hid (Bb.out.up hb)
  replace Na := hid (Na.out.up hb)
  replace Nb := hid (Nb.out.up hb)
  clear hb
  simp only [Act.put, List.setIfInBounds_toArray, List.set_cons_zero, List.set_cons_succ]
  refine WE.pure (d := some 25) rfl rfl (by rfl) (v := (.bool false)) (fun w' hk => ?_) ?_
  · go_simp
  simp only [Act.put, List.setIfInBounds_toArray, List.set_cons_zero, List.set_cons_succ]
  refine WE.pure (d := some 26) rfl rfl (by rfl) (v := (.bool false)) (fun w' hk => ?_) ?_
  · go_simp
  simp only [Act.put, List.setIfInBounds_toArray, List.set_cons_zero, List.set_cons_succ]
  refine WE.pure (d := some 27) rfl rfl (by rfl) (v := (.bool false)) (fun w' hk => ?_) ?_
  · go_simp
  simp only [Act.put, List.setIfInBounds_toArray, List.set_cons_zero, List.set_cons_succ]
  refine WE.pure (d := some 28) rfl rfl (by rfl) (v := (.agg #[.bool gb, .slice Ab nb cb])) (fun w' hk => ?_) ?_
  · have c0 := hk.cell (Bb.out.cell (o := 0) (v := .bool gb) rfl); have c1 := hk.cell (Bb.out.cell (o := 1) (v := .slice Ab nb cb) rfl); go_simp
  simp only [Act.put, List.setIfInBounds_toArray, List.set_cons_zero, List.set_cons_succ]
  refine WE.call (d := some 29) rfl rfl (by rfl) (f := 19) (args := #[(.agg #[.bool gb, .slice Ab nb cb])]) (by go_simp) ?_
  refine (wIs_any Nb.out ib.out).mono ?_
  rintro e wn ⟨rfl, hb⟩
  refine ⟨_, rfl, hb, ?_⟩
  replace E := hid (E.out.trans hb)
  replace Ba := hid (Ba.out.up hb)
  replace Bb := hid (Bb.out.up hb)
  replace Na := hid (Na.out.up hb)
  replace Nb := hid (Nb.out.up hb)
  clear hb
  simp only [Act.put, List.setIfInBounds_toArray, List.set_cons_zero, List.set_cons_succ]
  refine WE.pure (d := some 30) rfl rfl (by rfl) (v := (.bool true)) (fun w' hk => ?_) ?_
  · go_simp
  simp only [Act.put, List.setIfInBounds_toArray, List.set_cons_zero, List.set_cons_succ]
  refine WE.pure (d := some 31) rfl rfl (by rfl) (v := (.bool true)) (fun w' hk => ?_) ?_
  · go_simp
  simp only [Act.put, List.setIfInBounds_toArray, List.set_cons_zero, List.set_cons_succ]
  refine WE.pure (d := some 32) rfl rfl (by rfl) (v := (.bool true)) (fun w' hk => ?_) ?_
  · go_simp
  simp only [Act.put, List.setIfInBounds_toArray, List.set_cons_zero, List.set_cons_succ]
  refine WE.skip (d := some 33) rfl rfl (by rfl) ?_
  simp only [Act.put, List.setIfInBounds_toArray, List.set_cons_zero, List.set_cons_succ]
  refine WE.pass (d := some 34) rfl rfl (by rfl) ?_
  simp only [Act.put, List.setIfInBounds_toArray, List.set_cons_zero, List.set_cons_succ]
  refine WE.skip (d := some 35) rfl rfl (by rfl) ?_
  simp only [Act.put, List.setIfInBounds_toArray, List.set_cons_zero, List.set_cons_succ]
  refine WE.skip (d := some 36) rfl rfl (by rfl) ?_
  simp only [Act.put, List.setIfInBounds_toArray, List.set_cons_zero, List.set_cons_succ]
  refine WE.pass (d := some 37) rfl rfl (by rfl) ?_
  simp only [Act.put, List.setIfInBounds_toArray, List.set_cons_zero, List.set_cons_succ]
  refine WE.pass (d := some 38) rfl rfl (by rfl) ?_
  simp only [Act.put, List.setIfInBounds_toArray, List.set_cons_zero, List.set_cons_succ]
  refine WE.skip (d := some 39) rfl rfl (by rfl) ?_
  simp only [Act.put, List.setIfInBounds_toArray, List.set_cons_zero, List.set_cons_succ]
  refine WE.pure (d := some 40) rfl rfl (by rfl) (v := (.bool true)) (fun w' hk => ?_) ?_
  · go_simp
  simp only [Act.put, List.setIfInBounds_toArray, List.set_cons_zero, List.set_cons_succ]
  refine WE.done ?_
  go_wp2
  go_ret
  exact ⟨rfl, E.out⟩

set_option maxHeartbeats 8000000 in
theorem wholeExact_big (W : World) (ga : Bool) (Aa : Option Addr) (na ca : Nat) (la : List Nat) (ha : Num W W.heap.size (.slice Aa na ca) la) (gb : Bool) (Ab : Option Addr) (nb cb : Nat) (lb : List Nat) (hb : Num W W.heap.size (.slice Ab nb cb) lb) (r : Int) (hr0 : 0 ≤ r) (hr1 : r ≤ 65535) (fa : Hid (decide (la.length ≤ 8) = true)) (fb : Hid (decide (lb.length ≤ 8) = true)) (ia : Hid (M.isZ ga la = true)) (ib : Hid (M.isZ gb lb = true)) (x : Int) (HX : Hid (x = M.zv ga la)) (y : Int) (HY : Hid (y = M.zv gb lb)) (hcond : Hid ((y.natAbs : Int) ≤ r)) :
    Calls Try.prog 9 #[.agg #[.bool ga, .slice Aa na ca], .agg #[.bool gb, .slice Ab nb cb], .int .u16 r] W (fun e w' => e = .returned (.bool true) ∧ Ext W w') := by
  have HWR := hid (show IntKind.i64.wrap r = r by rw [IntKind.wrap_i64]; omega)
  obtain ⟨cq, hcq⟩ : ∃ s : Int, M.zcmp (y.natAbs : Int) r = s := ⟨_, rfl⟩
  have HCQ := hid hcq
  have hle : decide (cq ≤ 0) = true := by rw [← hcq]; exact zcmp_le hcond.out
  clear hcq
  have Na := hid ha
  have Nb := hid hb
  have Ra := hid (worth_of ha (of_decide_eq_true fa.out) HX.out)
  have Rb := hid (worth_of hb (of_decide_eq_true fb.out) HY.out)
  clear ha hb
  go_enter Try.func9, Try.ntmps9
  go_upto_region 1 with (fail)
  have E := hid (((Ext.refl W).alloc' (.cells #[.bool ga, .slice Aa na ca] 24)).alloc' (.cells #[.bool gb, .slice Ab nb cb] 24))
  have Ba : Hid (Box ((W.alloc (.cells #[.bool ga, .slice Aa na ca] 24)).alloc (.cells #[.bool gb, .slice Ab nb cb] 24)) (W.heap.size) #[.bool ga, .slice Aa na ca] 24) := hid ((Box.at_ (w := W) #[.bool ga, .slice Aa na ca] 24 (by simp)).alloc (.cells #[.bool gb, .slice Ab nb cb] 24))
  have Bb : Hid (Box ((W.alloc (.cells #[.bool ga, .slice Aa na ca] 24)).alloc (.cells #[.bool gb, .slice Ab nb cb] 24)) (W.heap.size + 1) #[.bool gb, .slice Ab nb cb] 24) := hid (Box.at_ (w := (W.alloc (.cells #[.bool ga, .slice Aa na ca] 24))) #[.bool gb, .slice Ab nb cb] 24 (by simp))
  replace Na := hid (Na.out.up E.out)
  replace Nb := hid (Nb.out.up E.out)
  replace Ra := hid (Ra.out.up E.out)
  replace Rb := hid (Rb.out.up E.out)
  go_upto_region 1 with (fail)
  refine wp_region_T [(0, 1), (1, 0)] (by kernel_rfl) fun wd hb => ?_
  replace E := hid (E.out.trans hb)
  replace Ba := hid (Ba.out.up hb)
  replace Bb := hid (Bb.out.up hb)
  replace Na := hid (Na.out.up hb)
  replace Nb := hid (Nb.out.up hb)
  replace Ra := hid (Ra.out.up hb)
  replace Rb := hid (Rb.out.up hb)
  clear hb
  refine WE.call (d := some 12) rfl rfl (by rfl) (f := 11) (args := #[]) (by go_simp) ?_
  refine (known2 _).mono ?_
  rintro e wn ⟨rfl, hb⟩
  refine ⟨_, rfl, hb, ?_⟩
  replace E := hid (E.out.trans hb)
  replace Ba := hid (Ba.out.up hb)
  replace Bb := hid (Bb.out.up hb)
  replace Na := hid (Na.out.up hb)
  replace Nb := hid (Nb.out.up hb)
  replace Ra := hid (Ra.out.up hb)
  replace Rb := hid (Rb.out.up hb)
  clear hb
  simp only [Act.put, List.setIfInBounds_toArray, List.set_cons_zero, List.set_cons_succ]
  refine WE.pure (d := some 13) rfl rfl (by rfl) (v := (.bool false)) (fun w' hk => ?_) ?_
  · go_simp
  simp only [Act.put, List.setIfInBounds_toArray, List.set_cons_zero, List.set_cons_succ]
  refine WE.done ?_
  go_upto_region 3 with (fail)
  refine wp_region_T [(0, 0), (1, 1), (2, 0), (3, 0), (4, 0), (5, 1), (6, 0), (7, 0), (8, 0), (9, 0), (10, 1), (11, 0), (12, 0), (13, 0), (14, 0), (15, 1), (16, 0), (17, 0), (18, 0), (19, 0), (20, 1), (21, 0), (22, 0), (23, 1), (24, 1), (25, 0), (26, 0)] (by kernel_rfl) fun wd hb => ?_
  replace E := hid (E.out.trans hb)
  replace Ba := hid (Ba.out.up hb)
  replace Bb := hid (Bb.out.up hb)
  replace Na := hid (Na.out.up hb)
  replace Nb := hid (Nb.out.up hb)
  replace Ra := hid (Ra.out.up hb)
  replace Rb := hid (Rb.out.up hb)
  clear hb
  refine WE.pure (d := some 14) rfl rfl (by rfl) (v := (.agg #[.bool ga, .slice Aa na ca])) (fun w' hk => ?_) ?_
  · have c0 := hk.cell (Ba.out.cell (o := 0) (v := .bool ga) rfl); have c1 := hk.cell (Ba.out.cell (o := 1) (v := .slice Aa na ca) rfl); go_simp
  simp only [Act.put, List.setIfInBounds_toArray, List.set_cons_zero, List.set_cons_succ]
  refine WE.call (d := some 15) rfl rfl (by rfl) (f := 12) (args := #[(.agg #[.bool ga, .slice Aa na ca])]) (by go_simp) ?_
  refine (few_z Na.out fa.out).mono ?_
  rintro e wn ⟨rfl, hb⟩
  refine ⟨_, rfl, hb, ?_⟩
  replace E := hid (E.out.trans hb)
  replace Ba := hid (Ba.out.up hb)
  replace Bb := hid (Bb.out.up hb)
  replace Na := hid (Na.out.up hb)
  replace Nb := hid (Nb.out.up hb)
  replace Ra := hid (Ra.out.up hb)
  replace Rb := hid (Rb.out.up hb)
  clear hb
  simp only [Act.put, List.setIfInBounds_toArray, List.set_cons_zero, List.set_cons_succ]
  refine WE.pure (d := some 16) rfl rfl (by rfl) (v := (.bool false)) (fun w' hk => ?_) ?_
  · go_simp
  simp only [Act.put, List.setIfInBounds_toArray, List.set_cons_zero, List.set_cons_succ]
  refine WE.pure (d := some 17) rfl rfl (by rfl) (v := (.bool false)) (fun w' hk => ?_) ?_
  · go_simp
  simp only [Act.put, List.setIfInBounds_toArray, List.set_cons_zero, List.set_cons_succ]
  refine WE.pure (d := some 18) rfl rfl (by rfl) (v := (.agg #[.bool gb, .slice Ab nb cb])) (fun w' hk => ?_) ?_
  · have c0 := hk.cell (Bb.out.cell (o := 0) (v := .bool gb) rfl); have c1 := hk.cell (Bb.out.cell (o := 1) (v := .slice Ab nb cb) rfl); go_simp
  simp only [Act.put, List.setIfInBounds_toArray, List.set_cons_zero, List.set_cons_succ]
  refine WE.call (d := some 19) rfl rfl (by rfl) (f := 12) (args := #[(.agg #[.bool gb, .slice Ab nb cb])]) (by go_simp) ?_
  refine (few_z Nb.out fb.out).mono ?_
  rintro e wn ⟨rfl, hb⟩
  refine ⟨_, rfl, hb, ?_⟩
  replace E := hid (E.out.trans hb)
  replace Ba := hid (Ba.out.up hb)
  replace Bb := hid (Bb.out.up hb)
  replace Na := hid (Na.out.up hb)
  replace Nb := hid (Nb.out.up hb)
  replace Ra := hid (Ra.out.up hb)
  replace Rb := hid (Rb.out.up hb)
  clear hb
  simp only [Act.put, List.setIfInBounds_toArray, List.set_cons_zero, List.set_cons_succ]
  refine WE.pure (d := some 20) rfl rfl (by rfl) (v := (.bool false)) (fun w' hk => ?_) ?_
  · go_simp
  simp only [Act.put, List.setIfInBounds_toArray, List.set_cons_zero, List.set_cons_succ]
  refine WE.pure (d := some 21) rfl rfl (by rfl) (v := (.bool false)) (fun w' hk => ?_) ?_
  · go_simp
  simp only [Act.put, List.setIfInBounds_toArray, List.set_cons_zero, List.set_cons_succ]
  refine WE.pure (d := some 22) rfl rfl (by rfl) (v := (.bool false)) (fun w' hk => ?_) ?_
  · go_simp
  simp only [Act.put, List.setIfInBounds_toArray, List.set_cons_zero, List.set_cons_succ]
  refine WE.pure (d := some 23) rfl rfl (by rfl) (v := (.agg #[.bool ga, .slice Aa na ca])) (fun w' hk => ?_) ?_
  · have c0 := hk.cell (Ba.out.cell (o := 0) (v := .bool ga) rfl); have c1 := hk.cell (Ba.out.cell (o := 1) (v := .slice Aa na ca) rfl); go_simp
  simp only [Act.put, List.setIfInBounds_toArray, List.set_cons_zero, List.set_cons_succ]
  refine WE.call (d := some 24) rfl rfl (by rfl) (f := 19) (args := #[(.agg #[.bool ga, .slice Aa na ca])]) (by go_simp) ?_
  refine (wIs_any Na.out ia.out).mono ?_
  rintro e wn ⟨rfl, hb⟩
  refine ⟨_, rfl, hb, ?_⟩
  replace E := hid (E.out.trans hb)
  replace Ba := hid (Ba.out.up hb)
  replace Bb := hid (Bb.out.up hb)
  replace Na := hid (Na.out.up hb)
  replace Nb := hid (Nb.out.up hb)
  replace Ra := hid (Ra.out.up hb)
  replace Rb := hid (Rb.out.up hb)
  clear hb
  simp only [Act.put, List.setIfInBounds_toArray, List.set_cons_zero, List.set_cons_succ]
  refine WE.pure (d := some 25) rfl rfl (by rfl) (v := (.bool false)) (fun w' hk => ?_) ?_
  · go_simp
  simp only [Act.put, List.setIfInBounds_toArray, List.set_cons_zero, List.set_cons_succ]
  refine WE.pure (d := some 26) rfl rfl (by rfl) (v := (.bool false)) (fun w' hk => ?_) ?_
  · go_simp
  simp only [Act.put, List.setIfInBounds_toArray, List.set_cons_zero, List.set_cons_succ]
  refine WE.pure (d := some 27) rfl rfl (by rfl) (v := (.bool false)) (fun w' hk => ?_) ?_
  · go_simp
  simp only [Act.put, List.setIfInBounds_toArray, List.set_cons_zero, List.set_cons_succ]
  refine WE.pure (d := some 28) rfl rfl (by rfl) (v := (.agg #[.bool gb, .slice Ab nb cb])) (fun w' hk => ?_) ?_
  · have c0 := hk.cell (Bb.out.cell (o := 0) (v := .bool gb) rfl); have c1 := hk.cell (Bb.out.cell (o := 1) (v := .slice Ab nb cb) rfl); go_simp
  simp only [Act.put, List.setIfInBounds_toArray, List.set_cons_zero, List.set_cons_succ]
  refine WE.call (d := some 29) rfl rfl (by rfl) (f := 19) (args := #[(.agg #[.bool gb, .slice Ab nb cb])]) (by go_simp) ?_
  refine (wIs_any Nb.out ib.out).mono ?_
  rintro e wn ⟨rfl, hb⟩
  refine ⟨_, rfl, hb, ?_⟩
  replace E := hid (E.out.trans hb)
  replace Ba := hid (Ba.out.up hb)
  replace Bb := hid (Bb.out.up hb)
  replace Na := hid (Na.out.up hb)
  replace Nb := hid (Nb.out.up hb)
  replace Ra := hid (Ra.out.up hb)
  replace Rb := hid (Rb.out.up hb)
  clear hb
  simp only [Act.put, List.setIfInBounds_toArray, List.set_cons_zero, List.set_cons_succ]
  refine WE.pure (d := some 30) rfl rfl (by rfl) (v := (.bool false)) (fun w' hk => ?_) ?_
  · go_simp
  simp only [Act.put, List.setIfInBounds_toArray, List.set_cons_zero, List.set_cons_succ]
  refine WE.pure (d := some 31) rfl rfl (by rfl) (v := (.bool false)) (fun w' hk => ?_) ?_
  · go_simp
  simp only [Act.put, List.setIfInBounds_toArray, List.set_cons_zero, List.set_cons_succ]
  refine WE.pure (d := some 32) rfl rfl (by rfl) (v := (.bool false)) (fun w' hk => ?_) ?_
  · go_simp
  simp only [Act.put, List.setIfInBounds_toArray, List.set_cons_zero, List.set_cons_succ]
  refine WE.pure (d := some 33) rfl rfl (by rfl) (v := (.agg #[.bool gb, .slice Ab nb cb])) (fun w' hk => ?_) ?_
  · have c0 := hk.cell (Bb.out.cell (o := 0) (v := .bool gb) rfl); have c1 := hk.cell (Bb.out.cell (o := 1) (v := .slice Ab nb cb) rfl); go_simp
  simp only [Act.put, List.setIfInBounds_toArray, List.set_cons_zero, List.set_cons_succ]
  refine WE.call (d := some 34) rfl rfl (by rfl) (f := 32) (args := #[(.agg #[.bool gb, .slice Ab nb cb])]) (by go_simp) ?_
  refine (abs_w Rb.out (by omega)).mono ?_
  rintro e wn ⟨v1, rfl, x1, hb⟩
  obtain ⟨g1, A1, n1, c1, rfl⟩ := x1.shape
  refine ⟨_, rfl, hb, ?_⟩
  replace E := hid (E.out.trans hb)
  replace Ba := hid (Ba.out.up hb)
  replace Bb := hid (Bb.out.up hb)
  replace Na := hid (Na.out.up hb)
  replace Nb := hid (Nb.out.up hb)
  replace Ra := hid (Ra.out.up hb)
  replace Rb := hid (Rb.out.up hb)
  have Q1 := hid x1
  clear hb x1
  simp only [Act.put, List.setIfInBounds_toArray, List.set_cons_zero, List.set_cons_succ]
  refine WE.pure (d := some 35) rfl rfl (by rfl) (v := (.int .u16 r)) (fun w' hk => ?_) ?_
  · go_simp
  simp only [Act.put, List.setIfInBounds_toArray, List.set_cons_zero, List.set_cons_succ]
  refine WE.pure (d := some 36) rfl rfl (by rfl) (v := (.int .i64 r)) (fun w' hk => ?_) ?_
  · have r1 : IntKind.i64.wrap r = r := HWR.out; go_simp
  simp only [Act.put, List.setIfInBounds_toArray, List.set_cons_zero, List.set_cons_succ]
  refine WE.call (d := some 37) rfl rfl (by rfl) (f := 22) (args := #[(.int .i64 r)]) (by go_simp) ?_
  refine (of_z (n := r) (by omega) (by omega) _).mono ?_
  rintro e wn ⟨v1, rfl, x1, hb⟩
  obtain ⟨g2, A2, n2, c2, rfl⟩ := x1.shape
  refine ⟨_, rfl, hb, ?_⟩
  replace E := hid (E.out.trans hb)
  replace Ba := hid (Ba.out.up hb)
  replace Bb := hid (Bb.out.up hb)
  replace Na := hid (Na.out.up hb)
  replace Nb := hid (Nb.out.up hb)
  replace Ra := hid (Ra.out.up hb)
  replace Rb := hid (Rb.out.up hb)
  replace Q1 := hid (Q1.out.up hb)
  have Q2 := hid x1
  clear hb x1
  simp only [Act.put, List.setIfInBounds_toArray, List.set_cons_zero, List.set_cons_succ]
  refine WE.call (d := some 38) rfl rfl (by rfl) (f := 26) (args := #[(.agg #[.bool g1, .slice A1 n1 c1]), (.agg #[.bool g2, .slice A2 n2 c2])]) (by go_simp) ?_
  refine (cmp_w Q1.out.worth Q2.out.worth (z := cq) (HCQ.out)).mono ?_
  rintro e wn ⟨rfl, hb⟩
  refine ⟨_, rfl, hb, ?_⟩
  replace E := hid (E.out.trans hb)
  replace Ba := hid (Ba.out.up hb)
  replace Bb := hid (Bb.out.up hb)
  replace Na := hid (Na.out.up hb)
  replace Nb := hid (Nb.out.up hb)
  replace Ra := hid (Ra.out.up hb)
  replace Rb := hid (Rb.out.up hb)
  replace Q1 := hid (Q1.out.up hb)
  replace Q2 := hid (Q2.out.up hb)
  clear hb
  simp only [Act.put, List.setIfInBounds_toArray, List.set_cons_zero, List.set_cons_succ]
  clear Q1
  clear Q2
  refine WE.pure (d := some 39) rfl rfl (by rfl) (v := (.bool true)) (fun w' hk => ?_) ?_
  · go_simp
  simp only [Act.put, List.setIfInBounds_toArray, List.set_cons_zero, List.set_cons_succ]
  refine WE.pure (d := some 40) rfl rfl (by rfl) (v := (.bool true)) (fun w' hk => ?_) ?_
  · go_simp
  simp only [Act.put, List.setIfInBounds_toArray, List.set_cons_zero, List.set_cons_succ]
  refine WE.done ?_
  go_wp2
  go_ret
  exact ⟨rfl, E.out⟩

set_option maxHeartbeats 8000000 in
theorem wholeExact_main (W : World) (ga : Bool) (Aa : Option Addr) (na ca : Nat) (la : List Nat) (ha : Num W W.heap.size (.slice Aa na ca) la) (gb : Bool) (Ab : Option Addr) (nb cb : Nat) (lb : List Nat) (hb : Num W W.heap.size (.slice Ab nb cb) lb) (r : Int) (hr0 : 0 ≤ r) (hr1 : r ≤ 65535) (fa : Hid (decide (la.length ≤ 8) = true)) (fb : Hid (decide (lb.length ≤ 8) = true)) (ia : Hid (M.isZ ga la = true)) (ib : Hid (M.isZ gb lb = true)) (x : Int) (HX : Hid (x = M.zv ga la)) (y : Int) (HY : Hid (y = M.zv gb lb)) (hcond : Hid (r < (y.natAbs : Int))) :
    Calls Try.prog 9 #[.agg #[.bool ga, .slice Aa na ca], .agg #[.bool gb, .slice Ab nb cb], .int .u16 r] W (fun e w' => e = .returned (.bool true) ∧ Ext W w') := by
  have HWR := hid (show IntKind.i64.wrap r = r by rw [IntKind.wrap_i64]; omega)
  have HCQ := hid (show M.zcmp (y.natAbs : Int) r = 1 from M.zcmp_gt hcond.out)
  have hy0 : y ≠ 0 := by have := hcond.out; omega
  have HE1 := hid (show (x * y + r) / y = x by rw [Int.add_comm, Int.add_mul_ediv_right _ _ hy0, ediv_small hr0 hcond.out]; omega)
  have HE2 := hid (show (x * y + r) % y = r by rw [Int.add_comm, Int.add_mul_emod_self_right]; exact emod_small hr0 hcond.out)
  have HE3 := hid (show (x * y).fdiv y = x from (M.fdiv_unique hy0 (show x * y = x * y + 0 by omega) ⟨fun h => by omega, fun h => by omega⟩).1)
  have HE4 := hid (show ((x * y).fmod y).sign = 0 by rw [(M.fdiv_unique hy0 (show x * y = x * y + 0 by omega) ⟨fun h => by omega, fun h => by omega⟩).2]; rfl)
  clear hy0
  have Na := hid ha
  have Nb := hid hb
  have Ra := hid (worth_of ha (of_decide_eq_true fa.out) HX.out)
  have Rb := hid (worth_of hb (of_decide_eq_true fb.out) HY.out)
  clear ha hb
  go_enter Try.func9, Try.ntmps9
  go_upto_region 1 with (fail)
  have E := hid (((Ext.refl W).alloc' (.cells #[.bool ga, .slice Aa na ca] 24)).alloc' (.cells #[.bool gb, .slice Ab nb cb] 24))
  have Ba : Hid (Box ((W.alloc (.cells #[.bool ga, .slice Aa na ca] 24)).alloc (.cells #[.bool gb, .slice Ab nb cb] 24)) (W.heap.size) #[.bool ga, .slice Aa na ca] 24) := hid ((Box.at_ (w := W) #[.bool ga, .slice Aa na ca] 24 (by simp)).alloc (.cells #[.bool gb, .slice Ab nb cb] 24))
  have Bb : Hid (Box ((W.alloc (.cells #[.bool ga, .slice Aa na ca] 24)).alloc (.cells #[.bool gb, .slice Ab nb cb] 24)) (W.heap.size + 1) #[.bool gb, .slice Ab nb cb] 24) := hid (Box.at_ (w := (W.alloc (.cells #[.bool ga, .slice Aa na ca] 24))) #[.bool gb, .slice Ab nb cb] 24 (by simp))
  replace Na := hid (Na.out.up E.out)
  replace Nb := hid (Nb.out.up E.out)
  replace Ra := hid (Ra.out.up E.out)
  replace Rb := hid (Rb.out.up E.out)
  go_upto_region 1 with (fail)
  refine wp_region_T [(0, 1), (1, 0)] (by kernel_rfl) fun wd hb => ?_
  replace E := hid (E.out.trans hb)
  replace Ba := hid (Ba.out.up hb)
  replace Bb := hid (Bb.out.up hb)
  replace Na := hid (Na.out.up hb)
  replace Nb := hid (Nb.out.up hb)
  replace Ra := hid (Ra.out.up hb)
  replace Rb := hid (Rb.out.up hb)
  clear hb
  refine WE.call (d := some 12) rfl rfl (by rfl) (f := 11) (args := #[]) (by go_simp) ?_
  refine (known2 _).mono ?_
  rintro e wn ⟨rfl, hb⟩
  refine ⟨_, rfl, hb, ?_⟩
  replace E := hid (E.out.trans hb)
  replace Ba := hid (Ba.out.up hb)
  replace Bb := hid (Bb.out.up hb)
  replace Na := hid (Na.out.up hb)
  replace Nb := hid (Nb.out.up hb)
  replace Ra := hid (Ra.out.up hb)
  replace Rb := hid (Rb.out.up hb)
  clear hb
  simp only [Act.put, List.setIfInBounds_toArray, List.set_cons_zero, List.set_cons_succ]
  refine WE.pure (d := some 13) rfl rfl (by rfl) (v := (.bool false)) (fun w' hk => ?_) ?_
  · go_simp
  simp only [Act.put, List.setIfInBounds_toArray, List.set_cons_zero, List.set_cons_succ]
  refine WE.done ?_
  go_upto_region 3 with (fail)
  refine wp_region_T [(0, 0), (1, 1), (2, 0), (3, 0), (4, 0), (5, 1), (6, 0), (7, 0), (8, 0), (9, 0), (10, 1), (11, 0), (12, 0), (13, 0), (14, 0), (15, 1), (16, 0), (17, 0), (18, 0), (19, 0), (20, 1), (21, 0), (22, 0), (23, 1), (24, 1), (25, 0), (26, 0)] (by kernel_rfl) fun wd hb => ?_
  replace E := hid (E.out.trans hb)
  replace Ba := hid (Ba.out.up hb)
  replace Bb := hid (Bb.out.up hb)
  replace Na := hid (Na.out.up hb)
  replace Nb := hid (Nb.out.up hb)
  replace Ra := hid (Ra.out.up hb)
  replace Rb := hid (Rb.out.up hb)
  clear hb
  refine WE.pure (d := some 14) rfl rfl (by rfl) (v := (.agg #[.bool ga, .slice Aa na ca])) (fun w' hk => ?_) ?_
  · have c0 := hk.cell (Ba.out.cell (o := 0) (v := .bool ga) rfl); have c1 := hk.cell (Ba.out.cell (o := 1) (v := .slice Aa na ca) rfl); go_simp
  simp only [Act.put, List.setIfInBounds_toArray, List.set_cons_zero, List.set_cons_succ]
  refine WE.call (d := some 15) rfl rfl (by rfl) (f := 12) (args := #[(.agg #[.bool ga, .slice Aa na ca])]) (by go_simp) ?_
  refine (few_z Na.out fa.out).mono ?_
  rintro e wn ⟨rfl, hb⟩
  refine ⟨_, rfl, hb, ?_⟩
  replace E := hid (E.out.trans hb)
  replace Ba := hid (Ba.out.up hb)
  replace Bb := hid (Bb.out.up hb)
  replace Na := hid (Na.out.up hb)
  replace Nb := hid (Nb.out.up hb)
  replace Ra := hid (Ra.out.up hb)
  replace Rb := hid (Rb.out.up hb)
  clear hb
  simp only [Act.put, List.setIfInBounds_toArray, List.set_cons_zero, List.set_cons_succ]
  refine WE.pure (d := some 16) rfl rfl (by rfl) (v := (.bool false)) (fun w' hk => ?_) ?_
  · go_simp
  simp only [Act.put, List.setIfInBounds_toArray, List.set_cons_zero, List.set_cons_succ]
  refine WE.pure (d := some 17) rfl rfl (by rfl) (v := (.bool false)) (fun w' hk => ?_) ?_
  · go_simp
  simp only [Act.put, List.setIfInBounds_toArray, List.set_cons_zero, List.set_cons_succ]
  refine WE.pure (d := some 18) rfl rfl (by rfl) (v := (.agg #[.bool gb, .slice Ab nb cb])) (fun w' hk => ?_) ?_
  · have c0 := hk.cell (Bb.out.cell (o := 0) (v := .bool gb) rfl); have c1 := hk.cell (Bb.out.cell (o := 1) (v := .slice Ab nb cb) rfl); go_simp
  simp only [Act.put, List.setIfInBounds_toArray, List.set_cons_zero, List.set_cons_succ]
  refine WE.call (d := some 19) rfl rfl (by rfl) (f := 12) (args := #[(.agg #[.bool gb, .slice Ab nb cb])]) (by go_simp) ?_
  refine (few_z Nb.out fb.out).mono ?_
  rintro e wn ⟨rfl, hb⟩
  refine ⟨_, rfl, hb, ?_⟩
  replace E := hid (E.out.trans hb)
  replace Ba := hid (Ba.out.up hb)
  replace Bb := hid (Bb.out.up hb)
  replace Na := hid (Na.out.up hb)
  replace Nb := hid (Nb.out.up hb)
  replace Ra := hid (Ra.out.up hb)
  replace Rb := hid (Rb.out.up hb)
  clear hb
  simp only [Act.put, List.setIfInBounds_toArray, List.set_cons_zero, List.set_cons_succ]
  refine WE.pure (d := some 20) rfl rfl (by rfl) (v := (.bool false)) (fun w' hk => ?_) ?_
  · go_simp
  simp only [Act.put, List.setIfInBounds_toArray, List.set_cons_zero, List.set_cons_succ]
  refine WE.pure (d := some 21) rfl rfl (by rfl) (v := (.bool false)) (fun w' hk => ?_) ?_
  · go_simp
  simp only [Act.put, List.setIfInBounds_toArray, List.set_cons_zero, List.set_cons_succ]
  refine WE.pure (d := some 22) rfl rfl (by rfl) (v := (.bool false)) (fun w' hk => ?_) ?_
  · go_simp
  simp only [Act.put, List.setIfInBounds_toArray, List.set_cons_zero, List.set_cons_succ]
  refine WE.pure (d := some 23) rfl rfl (by rfl) (v := (.agg #[.bool ga, .slice Aa na ca])) (fun w' hk => ?_) ?_
  · have c0 := hk.cell (Ba.out.cell (o := 0) (v := .bool ga) rfl); have c1 := hk.cell (Ba.out.cell (o := 1) (v := .slice Aa na ca) rfl); go_simp
  simp only [Act.put, List.setIfInBounds_toArray, List.set_cons_zero, List.set_cons_succ]
  refine WE.call (d := some 24) rfl rfl (by rfl) (f := 19) (args := #[(.agg #[.bool ga, .slice Aa na ca])]) (by go_simp) ?_
  refine (wIs_any Na.out ia.out).mono ?_
  rintro e wn ⟨rfl, hb⟩
  refine ⟨_, rfl, hb, ?_⟩
  replace E := hid (E.out.trans hb)
  replace Ba := hid (Ba.out.up hb)
  replace Bb := hid (Bb.out.up hb)
  replace Na := hid (Na.out.up hb)
  replace Nb := hid (Nb.out.up hb)
  replace Ra := hid (Ra.out.up hb)
  replace Rb := hid (Rb.out.up hb)
  clear hb
  simp only [Act.put, List.setIfInBounds_toArray, List.set_cons_zero, List.set_cons_succ]
  refine WE.pure (d := some 25) rfl rfl (by rfl) (v := (.bool false)) (fun w' hk => ?_) ?_
  · go_simp
  simp only [Act.put, List.setIfInBounds_toArray, List.set_cons_zero, List.set_cons_succ]
  refine WE.pure (d := some 26) rfl rfl (by rfl) (v := (.bool false)) (fun w' hk => ?_) ?_
  · go_simp
  simp only [Act.put, List.setIfInBounds_toArray, List.set_cons_zero, List.set_cons_succ]
  refine WE.pure (d := some 27) rfl rfl (by rfl) (v := (.bool false)) (fun w' hk => ?_) ?_
  · go_simp
  simp only [Act.put, List.setIfInBounds_toArray, List.set_cons_zero, List.set_cons_succ]
  refine WE.pure (d := some 28) rfl rfl (by rfl) (v := (.agg #[.bool gb, .slice Ab nb cb])) (fun w' hk => ?_) ?_
  · have c0 := hk.cell (Bb.out.cell (o := 0) (v := .bool gb) rfl); have c1 := hk.cell (Bb.out.cell (o := 1) (v := .slice Ab nb cb) rfl); go_simp
  simp only [Act.put, List.setIfInBounds_toArray, List.set_cons_zero, List.set_cons_succ]
  refine WE.call (d := some 29) rfl rfl (by rfl) (f := 19) (args := #[(.agg #[.bool gb, .slice Ab nb cb])]) (by go_simp) ?_
  refine (wIs_any Nb.out ib.out).mono ?_
  rintro e wn ⟨rfl, hb⟩
  refine ⟨_, rfl, hb, ?_⟩
  replace E := hid (E.out.trans hb)
  replace Ba := hid (Ba.out.up hb)
  replace Bb := hid (Bb.out.up hb)
  replace Na := hid (Na.out.up hb)
  replace Nb := hid (Nb.out.up hb)
  replace Ra := hid (Ra.out.up hb)
  replace Rb := hid (Rb.out.up hb)
  clear hb
  simp only [Act.put, List.setIfInBounds_toArray, List.set_cons_zero, List.set_cons_succ]
  refine WE.pure (d := some 30) rfl rfl (by rfl) (v := (.bool false)) (fun w' hk => ?_) ?_
  · go_simp
  simp only [Act.put, List.setIfInBounds_toArray, List.set_cons_zero, List.set_cons_succ]
  refine WE.pure (d := some 31) rfl rfl (by rfl) (v := (.bool false)) (fun w' hk => ?_) ?_
  · go_simp
  simp only [Act.put, List.setIfInBounds_toArray, List.set_cons_zero, List.set_cons_succ]
  refine WE.pure (d := some 32) rfl rfl (by rfl) (v := (.bool false)) (fun w' hk => ?_) ?_
  · go_simp
  simp only [Act.put, List.setIfInBounds_toArray, List.set_cons_zero, List.set_cons_succ]
  refine WE.pure (d := some 33) rfl rfl (by rfl) (v := (.agg #[.bool gb, .slice Ab nb cb])) (fun w' hk => ?_) ?_
  · have c0 := hk.cell (Bb.out.cell (o := 0) (v := .bool gb) rfl); have c1 := hk.cell (Bb.out.cell (o := 1) (v := .slice Ab nb cb) rfl); go_simp
  simp only [Act.put, List.setIfInBounds_toArray, List.set_cons_zero, List.set_cons_succ]
  refine WE.call (d := some 34) rfl rfl (by rfl) (f := 32) (args := #[(.agg #[.bool gb, .slice Ab nb cb])]) (by go_simp) ?_
  refine (abs_w Rb.out (by omega)).mono ?_
  rintro e wn ⟨v1, rfl, x1, hb⟩
  obtain ⟨g1, A1, n1, c1, rfl⟩ := x1.shape
  refine ⟨_, rfl, hb, ?_⟩
  replace E := hid (E.out.trans hb)
  replace Ba := hid (Ba.out.up hb)
  replace Bb := hid (Bb.out.up hb)
  replace Na := hid (Na.out.up hb)
  replace Nb := hid (Nb.out.up hb)
  replace Ra := hid (Ra.out.up hb)
  replace Rb := hid (Rb.out.up hb)
  have Q1 := hid x1
  clear hb x1
  simp only [Act.put, List.setIfInBounds_toArray, List.set_cons_zero, List.set_cons_succ]
  refine WE.pure (d := some 35) rfl rfl (by rfl) (v := (.int .u16 r)) (fun w' hk => ?_) ?_
  · go_simp
  simp only [Act.put, List.setIfInBounds_toArray, List.set_cons_zero, List.set_cons_succ]
  refine WE.pure (d := some 36) rfl rfl (by rfl) (v := (.int .i64 r)) (fun w' hk => ?_) ?_
  · have r1 : IntKind.i64.wrap r = r := HWR.out; go_simp
  simp only [Act.put, List.setIfInBounds_toArray, List.set_cons_zero, List.set_cons_succ]
  refine WE.call (d := some 37) rfl rfl (by rfl) (f := 22) (args := #[(.int .i64 r)]) (by go_simp) ?_
  refine (of_z (n := r) (by omega) (by omega) _).mono ?_
  rintro e wn ⟨v1, rfl, x1, hb⟩
  obtain ⟨g2, A2, n2, c2, rfl⟩ := x1.shape
  refine ⟨_, rfl, hb, ?_⟩
  replace E := hid (E.out.trans hb)
  replace Ba := hid (Ba.out.up hb)
  replace Bb := hid (Bb.out.up hb)
  replace Na := hid (Na.out.up hb)
  replace Nb := hid (Nb.out.up hb)
  replace Ra := hid (Ra.out.up hb)
  replace Rb := hid (Rb.out.up hb)
  replace Q1 := hid (Q1.out.up hb)
  have Q2 := hid x1
  clear hb x1
  simp only [Act.put, List.setIfInBounds_toArray, List.set_cons_zero, List.set_cons_succ]
  refine WE.call (d := some 38) rfl rfl (by rfl) (f := 26) (args := #[(.agg #[.bool g1, .slice A1 n1 c1]), (.agg #[.bool g2, .slice A2 n2 c2])]) (by go_simp) ?_
  refine (cmp_w Q1.out.worth Q2.out.worth (z := 1) (HCQ.out)).mono ?_
  rintro e wn ⟨rfl, hb⟩
  refine ⟨_, rfl, hb, ?_⟩
  replace E := hid (E.out.trans hb)
  replace Ba := hid (Ba.out.up hb)
  replace Bb := hid (Bb.out.up hb)
  replace Na := hid (Na.out.up hb)
  replace Nb := hid (Nb.out.up hb)
  replace Ra := hid (Ra.out.up hb)
  replace Rb := hid (Rb.out.up hb)
  replace Q1 := hid (Q1.out.up hb)
  replace Q2 := hid (Q2.out.up hb)
  clear hb
  simp only [Act.put, List.setIfInBounds_toArray, List.set_cons_zero, List.set_cons_succ]
  clear Q1
  clear Q2
  refine WE.pure (d := some 39) rfl rfl (by rfl) (v := (.bool false)) (fun w' hk => ?_) ?_
  · go_simp
  simp only [Act.put, List.setIfInBounds_toArray, List.set_cons_zero, List.set_cons_succ]
  refine WE.pure (d := some 40) rfl rfl (by rfl) (v := (.bool false)) (fun w' hk => ?_) ?_
  · go_simp
  simp only [Act.put, List.setIfInBounds_toArray, List.set_cons_zero, List.set_cons_succ]
  refine WE.done ?_
  go_upto_region 5 with (fail)
  refine wp_region_T [(0, 0), (1, 0), (2, 1), (3, 0), (4, 0), (5, 1), (6, 1), (7, 1), (8, 4)] (by kernel_rfl) fun wd hb => ?_
  replace E := hid (E.out.trans hb)
  replace Ba := hid (Ba.out.up hb)
  replace Bb := hid (Bb.out.up hb)
  replace Na := hid (Na.out.up hb)
  replace Nb := hid (Nb.out.up hb)
  replace Ra := hid (Ra.out.up hb)
  replace Rb := hid (Rb.out.up hb)
  clear hb
  refine WE.pure (d := some 41) rfl rfl (by rfl) (v := (.agg #[.bool ga, .slice Aa na ca])) (fun w' hk => ?_) ?_
  · have c0 := hk.cell (Ba.out.cell (o := 0) (v := .bool ga) rfl); have c1 := hk.cell (Ba.out.cell (o := 1) (v := .slice Aa na ca) rfl); go_simp
  simp only [Act.put, List.setIfInBounds_toArray, List.set_cons_zero, List.set_cons_succ]
  refine WE.pure (d := some 42) rfl rfl (by rfl) (v := (.agg #[.bool gb, .slice Ab nb cb])) (fun w' hk => ?_) ?_
  · have c0 := hk.cell (Bb.out.cell (o := 0) (v := .bool gb) rfl); have c1 := hk.cell (Bb.out.cell (o := 1) (v := .slice Ab nb cb) rfl); go_simp
  simp only [Act.put, List.setIfInBounds_toArray, List.set_cons_zero, List.set_cons_succ]
  refine WE.call (d := some 43) rfl rfl (by rfl) (f := 38) (args := #[(.agg #[.bool ga, .slice Aa na ca]), (.agg #[.bool gb, .slice Ab nb cb])]) (by go_simp) ?_
  refine (mul_w Ra.out Rb.out (by omega) (by omega) (by omega)).mono ?_
  rintro e wn ⟨v1, rfl, x1, hb⟩
  obtain ⟨g3, A3, n3, c3, rfl⟩ := x1.shape
  refine ⟨_, rfl, hb, ?_⟩
  replace E := hid (E.out.trans hb)
  replace Ba := hid (Ba.out.up hb)
  replace Bb := hid (Bb.out.up hb)
  replace Na := hid (Na.out.up hb)
  replace Nb := hid (Nb.out.up hb)
  replace Ra := hid (Ra.out.up hb)
  replace Rb := hid (Rb.out.up hb)
  have Q3 := hid x1
  clear hb x1
  simp only [Act.put, List.setIfInBounds_toArray, List.set_cons_zero, List.set_cons_succ]
  refine WE.pure (d := some 44) rfl rfl (by rfl) (v := (.int .u16 r)) (fun w' hk => ?_) ?_
  · go_simp
  simp only [Act.put, List.setIfInBounds_toArray, List.set_cons_zero, List.set_cons_succ]
  refine WE.pure (d := some 45) rfl rfl (by rfl) (v := (.int .i64 r)) (fun w' hk => ?_) ?_
  · have r1 : IntKind.i64.wrap r = r := HWR.out; go_simp
  simp only [Act.put, List.setIfInBounds_toArray, List.set_cons_zero, List.set_cons_succ]
  refine WE.call (d := some 46) rfl rfl (by rfl) (f := 22) (args := #[(.int .i64 r)]) (by go_simp) ?_
  refine (of_z (n := r) (by omega) (by omega) _).mono ?_
  rintro e wn ⟨v1, rfl, x1, hb⟩
  obtain ⟨g4, A4, n4, c4, rfl⟩ := x1.shape
  refine ⟨_, rfl, hb, ?_⟩
  replace E := hid (E.out.trans hb)
  replace Ba := hid (Ba.out.up hb)
  replace Bb := hid (Bb.out.up hb)
  replace Na := hid (Na.out.up hb)
  replace Nb := hid (Nb.out.up hb)
  replace Ra := hid (Ra.out.up hb)
  replace Rb := hid (Rb.out.up hb)
  replace Q3 := hid (Q3.out.up hb)
  have Q4 := hid x1
  clear hb x1
  simp only [Act.put, List.setIfInBounds_toArray, List.set_cons_zero, List.set_cons_succ]
  refine WE.call (d := some 47) rfl rfl (by rfl) (f := 34) (args := #[(.agg #[.bool g3, .slice A3 n3 c3]), (.agg #[.bool g4, .slice A4 n4 c4])]) (by go_simp) ?_
  refine (add_w Q3.out.worth Q4.out.worth (by omega) (by omega)).mono ?_
  rintro e wn ⟨v1, rfl, x1, hb⟩
  obtain ⟨g5, A5, n5, c5, rfl⟩ := x1.shape
  refine ⟨_, rfl, hb, ?_⟩
  replace E := hid (E.out.trans hb)
  replace Ba := hid (Ba.out.up hb)
  replace Bb := hid (Bb.out.up hb)
  replace Na := hid (Na.out.up hb)
  replace Nb := hid (Nb.out.up hb)
  replace Ra := hid (Ra.out.up hb)
  replace Rb := hid (Rb.out.up hb)
  replace Q3 := hid (Q3.out.up hb)
  replace Q4 := hid (Q4.out.up hb)
  have Q5 := hid x1
  clear hb x1
  simp only [Act.put, List.setIfInBounds_toArray, List.set_cons_zero, List.set_cons_succ]
  clear Q3
  clear Q4
  refine WE.new (d := some 7) (cs := #[.bool false, .slice none 0 0]) (t := 24) (v := fun g => (.pointer (some ⟨g, 0, none⟩))) rfl rfl (by rfl) (fun w => by go_simp) fun gV7 wv hx0 hbox hge => ?_
  have HNV7Ba := hid (show gV7 ≠ (W.heap.size) by have := Ba.out.lt; omega)
  have HNV7Bb := hid (show gV7 ≠ (W.heap.size + 1) by have := Bb.out.lt; omega)
  have HGV7 := hid (show W.heap.size ≤ gV7 by have := E.out.size; omega)
  replace E := hid (E.out.trans hx0)
  replace Ba := hid (Ba.out.up hx0)
  replace Bb := hid (Bb.out.up hx0)
  replace Na := hid (Na.out.up hx0)
  replace Nb := hid (Nb.out.up hx0)
  replace Ra := hid (Ra.out.up hx0)
  replace Rb := hid (Rb.out.up hx0)
  replace Q5 := hid (Q5.out.up hx0)
  have V7 : Hid (Box wv gV7 #[.bool false, .slice none 0 0] 24) := hid hbox
  clear hx0 hbox hge
  simp only [Act.put, List.setIfInBounds_toArray, List.set_cons_zero, List.set_cons_succ]
  refine WE.store2 (g := gV7) (x := .bool g5) (y := .slice A5 n5 c5) (t := 24) rfl rfl (by rfl) (fun w hb => ?_) V7.out (by rfl) fun ws hk hs => ?_
  · have c0 := hb.cell (o := 0) (v := .bool false) rfl; have f0 := hb.free 0; have c1 := hb.cell (o := 1) (v := .slice none 0 0) rfl; have f1 := hb.free 1; go_simp
  intro hbx
  replace E := hid (E.out.keptG hk HGV7.out)
  replace Ba := hid (Ba.out.kept hk (by simpa using HNV7Ba.out.symm))
  replace Bb := hid (Bb.out.kept hk (by simpa using HNV7Bb.out.symm))
  replace V7 := hid hbx
  replace Na := hid (Na.out.kz hs)
  replace Nb := hid (Nb.out.kz hs)
  replace Ra := hid (Ra.out.kz hs)
  replace Rb := hid (Rb.out.kz hs)
  replace Q5 := hid (Q5.out.kz hs)
  clear hk hs hbx
  refine WE.done ?_
  go_upto_region 6 with (fail)
  refine wp_region_T [(0, 0), (1, 0), (2, 1), (3, 0), (4, 0), (5, 0), (6, 1), (7, 1), (8, 4), (9, 4)] (by kernel_rfl) fun wd hb => ?_
  replace E := hid (E.out.trans hb)
  replace Ba := hid (Ba.out.up hb)
  replace Bb := hid (Bb.out.up hb)
  replace V7 := hid (V7.out.up hb)
  replace Na := hid (Na.out.up hb)
  replace Nb := hid (Nb.out.up hb)
  replace Ra := hid (Ra.out.up hb)
  replace Rb := hid (Rb.out.up hb)
  replace Q5 := hid (Q5.out.up hb)
  clear hb
  refine WE.pure (d := some 49) rfl rfl (by rfl) (v := (.agg #[.bool g5, .slice A5 n5 c5])) (fun w' hk => ?_) ?_
  · have c0 := hk.cell (V7.out.cell (o := 0) (v := .bool g5) rfl); have c1 := hk.cell (V7.out.cell (o := 1) (v := .slice A5 n5 c5) rfl); go_simp
  simp only [Act.put, List.setIfInBounds_toArray, List.set_cons_zero, List.set_cons_succ]
  refine WE.pure (d := some 50) rfl rfl (by rfl) (v := (.agg #[.bool gb, .slice Ab nb cb])) (fun w' hk => ?_) ?_
  · have c0 := hk.cell (Bb.out.cell (o := 0) (v := .bool gb) rfl); have c1 := hk.cell (Bb.out.cell (o := 1) (v := .slice Ab nb cb) rfl); go_simp
  simp only [Act.put, List.setIfInBounds_toArray, List.set_cons_zero, List.set_cons_succ]
  refine WE.call (d := some 51) rfl rfl (by rfl) (f := 15) (args := #[(.agg #[.bool g5, .slice A5 n5 c5]), (.agg #[.bool gb, .slice Ab nb cb])]) (by go_simp) ?_
  refine (euclid_w Q5.out.worth Rb.out (by omega) (by omega)).mono ?_
  rintro e wn ⟨v1, v2, rfl, x1, x2, hb⟩
  obtain ⟨g6, A6, n6, c6, rfl⟩ := x1.shape
  obtain ⟨g7, A7, n7, c7, rfl⟩ := x2.shape
  refine ⟨_, rfl, hb, ?_⟩
  replace E := hid (E.out.trans hb)
  replace Ba := hid (Ba.out.up hb)
  replace Bb := hid (Bb.out.up hb)
  replace V7 := hid (V7.out.up hb)
  replace Na := hid (Na.out.up hb)
  replace Nb := hid (Nb.out.up hb)
  replace Ra := hid (Ra.out.up hb)
  replace Rb := hid (Rb.out.up hb)
  replace Q5 := hid (Q5.out.up hb)
  have Q6 := hid x1
  have Q7 := hid x2
  clear hb x1 x2
  simp only [Act.put, List.setIfInBounds_toArray, List.set_cons_zero, List.set_cons_succ]
  refine WE.pure (d := some 48) rfl rfl (by rfl) (v := (.tuple #[(.agg #[.bool g6, .slice A6 n6 c6]), (.agg #[.bool g7, .slice A7 n7 c7])])) (fun w' hk => ?_) ?_
  · go_simp
  simp only [Act.put, List.setIfInBounds_toArray, List.set_cons_zero, List.set_cons_succ]
  refine WE.pure (d := some 52) rfl rfl (by rfl) (v := (.agg #[.bool g6, .slice A6 n6 c6])) (fun w' hk => ?_) ?_
  · go_simp
  simp only [Act.put, List.setIfInBounds_toArray, List.set_cons_zero, List.set_cons_succ]
  refine WE.pure (d := some 53) rfl rfl (by rfl) (v := (.agg #[.bool g7, .slice A7 n7 c7])) (fun w' hk => ?_) ?_
  · go_simp
  simp only [Act.put, List.setIfInBounds_toArray, List.set_cons_zero, List.set_cons_succ]
  refine WE.new (d := some 8) (cs := #[.bool false, .slice none 0 0]) (t := 24) (v := fun g => (.pointer (some ⟨g, 0, none⟩))) rfl rfl (by rfl) (fun w => by go_simp) fun gV8 wv hx0 hbox hge => ?_
  have HNV8Ba := hid (show gV8 ≠ (W.heap.size) by have := Ba.out.lt; omega)
  have HNV8Bb := hid (show gV8 ≠ (W.heap.size + 1) by have := Bb.out.lt; omega)
  have HNV8V7 := hid (show gV8 ≠ gV7 by have := V7.out.lt; omega)
  have HGV8 := hid (show W.heap.size ≤ gV8 by have := E.out.size; omega)
  replace E := hid (E.out.trans hx0)
  replace Ba := hid (Ba.out.up hx0)
  replace Bb := hid (Bb.out.up hx0)
  replace V7 := hid (V7.out.up hx0)
  replace Na := hid (Na.out.up hx0)
  replace Nb := hid (Nb.out.up hx0)
  replace Ra := hid (Ra.out.up hx0)
  replace Rb := hid (Rb.out.up hx0)
  replace Q5 := hid (Q5.out.up hx0)
  replace Q6 := hid (Q6.out.up hx0)
  replace Q7 := hid (Q7.out.up hx0)
  have V8 : Hid (Box wv gV8 #[.bool false, .slice none 0 0] 24) := hid hbox
  clear hx0 hbox hge
  simp only [Act.put, List.setIfInBounds_toArray, List.set_cons_zero, List.set_cons_succ]
  refine WE.new (d := some 9) (cs := #[.bool false, .slice none 0 0]) (t := 24) (v := fun g => (.pointer (some ⟨g, 0, none⟩))) rfl rfl (by rfl) (fun w => by go_simp) fun gV9 wv hx0 hbox hge => ?_
  have HNV9Ba := hid (show gV9 ≠ (W.heap.size) by have := Ba.out.lt; omega)
  have HNV9Bb := hid (show gV9 ≠ (W.heap.size + 1) by have := Bb.out.lt; omega)
  have HNV9V7 := hid (show gV9 ≠ gV7 by have := V7.out.lt; omega)
  have HNV9V8 := hid (show gV9 ≠ gV8 by have := V8.out.lt; omega)
  have HGV9 := hid (show W.heap.size ≤ gV9 by have := E.out.size; omega)
  replace E := hid (E.out.trans hx0)
  replace Ba := hid (Ba.out.up hx0)
  replace Bb := hid (Bb.out.up hx0)
  replace V7 := hid (V7.out.up hx0)
  replace V8 := hid (V8.out.up hx0)
  replace Na := hid (Na.out.up hx0)
  replace Nb := hid (Nb.out.up hx0)
  replace Ra := hid (Ra.out.up hx0)
  replace Rb := hid (Rb.out.up hx0)
  replace Q5 := hid (Q5.out.up hx0)
  replace Q6 := hid (Q6.out.up hx0)
  replace Q7 := hid (Q7.out.up hx0)
  have V9 : Hid (Box wv gV9 #[.bool false, .slice none 0 0] 24) := hid hbox
  clear hx0 hbox hge
  simp only [Act.put, List.setIfInBounds_toArray, List.set_cons_zero, List.set_cons_succ]
  refine WE.store2 (g := gV8) (x := .bool g6) (y := .slice A6 n6 c6) (t := 24) rfl rfl (by rfl) (fun w hb => ?_) V8.out (by rfl) fun ws hk hs => ?_
  · have c0 := hb.cell (o := 0) (v := .bool false) rfl; have f0 := hb.free 0; have c1 := hb.cell (o := 1) (v := .slice none 0 0) rfl; have f1 := hb.free 1; go_simp
  intro hbx
  replace E := hid (E.out.keptG hk HGV8.out)
  replace Ba := hid (Ba.out.kept hk (by simpa using HNV8Ba.out.symm))
  replace Bb := hid (Bb.out.kept hk (by simpa using HNV8Bb.out.symm))
  replace V7 := hid (V7.out.kept hk (by simpa using HNV8V7.out.symm))
  replace V8 := hid hbx
  replace V9 := hid (V9.out.kept hk (by simpa using HNV9V8.out))
  replace Na := hid (Na.out.kz hs)
  replace Nb := hid (Nb.out.kz hs)
  replace Ra := hid (Ra.out.kz hs)
  replace Rb := hid (Rb.out.kz hs)
  replace Q5 := hid (Q5.out.kz hs)
  replace Q6 := hid (Q6.out.kz hs)
  replace Q7 := hid (Q7.out.kz hs)
  clear hk hs hbx
  refine WE.store2 (g := gV9) (x := .bool g7) (y := .slice A7 n7 c7) (t := 24) rfl rfl (by rfl) (fun w hb => ?_) V9.out (by rfl) fun ws hk hs => ?_
  · have c0 := hb.cell (o := 0) (v := .bool false) rfl; have f0 := hb.free 0; have c1 := hb.cell (o := 1) (v := .slice none 0 0) rfl; have f1 := hb.free 1; go_simp
  intro hbx
  replace E := hid (E.out.keptG hk HGV9.out)
  replace Ba := hid (Ba.out.kept hk (by simpa using HNV9Ba.out.symm))
  replace Bb := hid (Bb.out.kept hk (by simpa using HNV9Bb.out.symm))
  replace V7 := hid (V7.out.kept hk (by simpa using HNV9V7.out.symm))
  replace V8 := hid (V8.out.kept hk (by simpa using HNV9V8.out.symm))
  replace V9 := hid hbx
  replace Na := hid (Na.out.kz hs)
  replace Nb := hid (Nb.out.kz hs)
  replace Ra := hid (Ra.out.kz hs)
  replace Rb := hid (Rb.out.kz hs)
  replace Q5 := hid (Q5.out.kz hs)
  replace Q6 := hid (Q6.out.kz hs)
  replace Q7 := hid (Q7.out.kz hs)
  clear hk hs hbx
  refine WE.done ?_
  go_upto_region 7 with (fail)
  refine wp_region_E [(0, 0), (1, 0), (3, 0), (2, 2), (4, 2), (5, 0), (6, 0), (7, 5), (8, 3), (9, 3), (10, 4), (11, 4)] (fun _ => (24, #[.bool false, .slice none 0 0])) rfl (by kernel_rfl) (by intro j hj; simp [pend] at hj; rcases hj with rfl | rfl <;> exact ⟨_, rfl, rfl, rfl, fun w => by go_simp⟩) (fun _ _ d _ _ => by cases d <;> exact Iff.rfl) fun wd hb => ?_
  replace E := hid (E.out.trans hb)
  replace Ba := hid (Ba.out.up hb)
  replace Bb := hid (Bb.out.up hb)
  replace V7 := hid (V7.out.up hb)
  replace V8 := hid (V8.out.up hb)
  replace V9 := hid (V9.out.up hb)
  replace Na := hid (Na.out.up hb)
  replace Nb := hid (Nb.out.up hb)
  replace Ra := hid (Ra.out.up hb)
  replace Rb := hid (Rb.out.up hb)
  replace Q5 := hid (Q5.out.up hb)
  replace Q6 := hid (Q6.out.up hb)
  replace Q7 := hid (Q7.out.up hb)
  clear hb
  have HL1Ba := hid Ba.out.lt
  have HL1Bb := hid Bb.out.lt
  have HL1V7 := hid V7.out.lt
  have HL1V8 := hid V8.out.lt
  have HL1V9 := hid V9.out.lt
  have HW1 := hid (show W.heap.size ≤ wd.heap.size from E.out.size)
  refine WE.pure (d := some 55) rfl rfl (by rfl) (v := (.agg #[.bool ga, .slice Aa na ca])) (fun w' hk => ?_) ?_
  · have c0 := hk.cell (Ba.out.cell (o := 0) (v := .bool ga) rfl); have c1 := hk.cell (Ba.out.cell (o := 1) (v := .slice Aa na ca) rfl); go_simp
  simp only [Act.put, List.setIfInBounds_toArray, List.set_cons_zero, List.set_cons_succ]
  refine WE.pure (d := some 56) rfl rfl (by rfl) (v := (.agg #[.bool gb, .slice Ab nb cb])) (fun w' hk => ?_) ?_
  · have c0 := hk.cell (Bb.out.cell (o := 0) (v := .bool gb) rfl); have c1 := hk.cell (Bb.out.cell (o := 1) (v := .slice Ab nb cb) rfl); go_simp
  simp only [Act.put, List.setIfInBounds_toArray, List.set_cons_zero, List.set_cons_succ]
  refine WE.pure (d := some 58) rfl rfl (by rfl) (v := (.agg #[.bool gb, .slice Ab nb cb])) (fun w' hk => ?_) ?_
  · have c0 := hk.cell (Bb.out.cell (o := 0) (v := .bool gb) rfl); have c1 := hk.cell (Bb.out.cell (o := 1) (v := .slice Ab nb cb) rfl); go_simp
  simp only [Act.put, List.setIfInBounds_toArray, List.set_cons_zero, List.set_cons_succ]
  refine WE.callR (d := some 57) rfl rfl (by rfl) (f := 38) (args := #[(.agg #[.bool ga, .slice Aa na ca]), (.agg #[.bool gb, .slice Ab nb cb])]) (fun w => by go_simp) (fun wx hx0 => ?_)
  replace E := hid (E.out.trans hx0)
  replace Ba := hid (Ba.out.up hx0)
  replace Bb := hid (Bb.out.up hx0)
  replace V7 := hid (V7.out.up hx0)
  replace V8 := hid (V8.out.up hx0)
  replace V9 := hid (V9.out.up hx0)
  replace Na := hid (Na.out.up hx0)
  replace Nb := hid (Nb.out.up hx0)
  replace Ra := hid (Ra.out.up hx0)
  replace Rb := hid (Rb.out.up hx0)
  replace Q5 := hid (Q5.out.up hx0)
  replace Q6 := hid (Q6.out.up hx0)
  replace Q7 := hid (Q7.out.up hx0)
  clear hx0
  refine (mul_w Ra.out Rb.out (by omega) (by omega) (by omega)).mono ?_
  rintro e wn ⟨v1, rfl, x1, hb⟩
  obtain ⟨g8, A8, n8, c8, rfl⟩ := x1.shape
  refine ⟨_, rfl, hb, ?_⟩
  replace E := hid (E.out.trans hb)
  replace Ba := hid (Ba.out.up hb)
  replace Bb := hid (Bb.out.up hb)
  replace V7 := hid (V7.out.up hb)
  replace V8 := hid (V8.out.up hb)
  replace V9 := hid (V9.out.up hb)
  replace Na := hid (Na.out.up hb)
  replace Nb := hid (Nb.out.up hb)
  replace Ra := hid (Ra.out.up hb)
  replace Rb := hid (Rb.out.up hb)
  replace Q5 := hid (Q5.out.up hb)
  replace Q6 := hid (Q6.out.up hb)
  replace Q7 := hid (Q7.out.up hb)
  have Q8 := hid x1
  clear hb x1
  simp only [Act.put, List.setIfInBounds_toArray, List.set_cons_zero, List.set_cons_succ]
  refine WE.callR (d := some 59) rfl rfl (by rfl) (f := 13) (args := #[(.agg #[.bool g8, .slice A8 n8 c8]), (.agg #[.bool gb, .slice Ab nb cb])]) (fun w => by go_simp) (fun wx hx0 => ?_)
  replace E := hid (E.out.trans hx0)
  replace Ba := hid (Ba.out.up hx0)
  replace Bb := hid (Bb.out.up hx0)
  replace V7 := hid (V7.out.up hx0)
  replace V8 := hid (V8.out.up hx0)
  replace V9 := hid (V9.out.up hx0)
  replace Na := hid (Na.out.up hx0)
  replace Nb := hid (Nb.out.up hx0)
  replace Ra := hid (Ra.out.up hx0)
  replace Rb := hid (Rb.out.up hx0)
  replace Q5 := hid (Q5.out.up hx0)
  replace Q6 := hid (Q6.out.up hx0)
  replace Q7 := hid (Q7.out.up hx0)
  replace Q8 := hid (Q8.out.up hx0)
  clear hx0
  refine (floor_w Q8.out.worth Rb.out (by omega) (by omega)).mono ?_
  rintro e wn ⟨v1, v2, rfl, x1, x2, hb⟩
  obtain ⟨g9, A9, n9, c9, rfl⟩ := x1.shape
  obtain ⟨g10, A10, n10, c10, rfl⟩ := x2.shape
  refine ⟨_, rfl, hb, ?_⟩
  replace E := hid (E.out.trans hb)
  replace Ba := hid (Ba.out.up hb)
  replace Bb := hid (Bb.out.up hb)
  replace V7 := hid (V7.out.up hb)
  replace V8 := hid (V8.out.up hb)
  replace V9 := hid (V9.out.up hb)
  replace Na := hid (Na.out.up hb)
  replace Nb := hid (Nb.out.up hb)
  replace Ra := hid (Ra.out.up hb)
  replace Rb := hid (Rb.out.up hb)
  replace Q5 := hid (Q5.out.up hb)
  replace Q6 := hid (Q6.out.up hb)
  replace Q7 := hid (Q7.out.up hb)
  replace Q8 := hid (Q8.out.up hb)
  have Q9 := hid x1
  have Q10 := hid x2
  clear hb x1 x2
  simp only [Act.put, List.setIfInBounds_toArray, List.set_cons_zero, List.set_cons_succ]
  clear Q8
  refine WE.pure (d := some 54) rfl rfl (by rfl) (v := (.tuple #[(.agg #[.bool g9, .slice A9 n9 c9]), (.agg #[.bool g10, .slice A10 n10 c10])])) (fun w' hk => ?_) ?_
  · go_simp
  simp only [Act.put, List.setIfInBounds_toArray, List.set_cons_zero, List.set_cons_succ]
  refine WE.pure (d := some 60) rfl rfl (by rfl) (v := (.agg #[.bool g9, .slice A9 n9 c9])) (fun w' hk => ?_) ?_
  · go_simp
  simp only [Act.put, List.setIfInBounds_toArray, List.set_cons_zero, List.set_cons_succ]
  refine WE.any (d := some 61) rfl rfl (by rfl) (v := (.agg #[.bool g10, .slice A10 n10 c10])) (fun w' => ?_) ?_
  · go_simp
  simp only [Act.put, List.setIfInBounds_toArray, List.set_cons_zero, List.set_cons_succ]
  refine WE.var (d := some 10) rfl fun gV10 wv hx0 hbox hge hng => ?_
  have HNV10Ba := hid (show gV10 ≠ (W.heap.size) by have := HL1Ba.out; omega)
  have HNV10Bb := hid (show gV10 ≠ (W.heap.size + 1) by have := HL1Bb.out; omega)
  have HNV10V7 := hid (show gV10 ≠ gV7 by have := HL1V7.out; omega)
  have HNV10V8 := hid (show gV10 ≠ gV8 by have := HL1V8.out; omega)
  have HNV10V9 := hid (show gV10 ≠ gV9 by have := HL1V9.out; omega)
  have HGV10 := hid (show W.heap.size ≤ gV10 by have := HW1.out; omega)
  replace E := hid (E.out.trans hx0)
  replace Ba := hid (Ba.out.up hx0)
  replace Bb := hid (Bb.out.up hx0)
  replace V7 := hid (V7.out.up hx0)
  replace V8 := hid (V8.out.up hx0)
  replace V9 := hid (V9.out.up hx0)
  replace Na := hid (Na.out.up hx0)
  replace Nb := hid (Nb.out.up hx0)
  replace Ra := hid (Ra.out.up hx0)
  replace Rb := hid (Rb.out.up hx0)
  replace Q5 := hid (Q5.out.up hx0)
  replace Q6 := hid (Q6.out.up hx0)
  replace Q7 := hid (Q7.out.up hx0)
  replace Q9 := hid (Q9.out.up hx0)
  replace Q10 := hid (Q10.out.up hx0)
  have V10 : Hid (Box wv gV10 #[.bool false, .slice none 0 0] 24) := hid hbox
  clear hx0 hbox hge hng
  simp only [Act.put, List.setIfInBounds_toArray, List.set_cons_zero, List.set_cons_succ]
  refine WE.var (d := some 11) rfl fun gV11 wv hx0 hbox hge hng => ?_
  have HNV11Ba := hid (show gV11 ≠ (W.heap.size) by have := HL1Ba.out; omega)
  have HNV11Bb := hid (show gV11 ≠ (W.heap.size + 1) by have := HL1Bb.out; omega)
  have HNV11V7 := hid (show gV11 ≠ gV7 by have := HL1V7.out; omega)
  have HNV11V8 := hid (show gV11 ≠ gV8 by have := HL1V8.out; omega)
  have HNV11V9 := hid (show gV11 ≠ gV9 by have := HL1V9.out; omega)
  have HNV11V10 := hid (show gV11 ≠ gV10 by intro e; exact hng (by simp [e]))
  have HGV11 := hid (show W.heap.size ≤ gV11 by have := HW1.out; omega)
  replace E := hid (E.out.trans hx0)
  replace Ba := hid (Ba.out.up hx0)
  replace Bb := hid (Bb.out.up hx0)
  replace V7 := hid (V7.out.up hx0)
  replace V8 := hid (V8.out.up hx0)
  replace V9 := hid (V9.out.up hx0)
  replace V10 := hid (V10.out.up hx0)
  replace Na := hid (Na.out.up hx0)
  replace Nb := hid (Nb.out.up hx0)
  replace Ra := hid (Ra.out.up hx0)
  replace Rb := hid (Rb.out.up hx0)
  replace Q5 := hid (Q5.out.up hx0)
  replace Q6 := hid (Q6.out.up hx0)
  replace Q7 := hid (Q7.out.up hx0)
  replace Q9 := hid (Q9.out.up hx0)
  replace Q10 := hid (Q10.out.up hx0)
  have V11 : Hid (Box wv gV11 #[.bool false, .slice none 0 0] 24) := hid hbox
  clear hx0 hbox hge hng
  simp only [Act.put, List.setIfInBounds_toArray, List.set_cons_zero, List.set_cons_succ]
  refine WE.store2 (g := gV10) (x := .bool g9) (y := .slice A9 n9 c9) (t := 24) rfl rfl (by rfl) (fun w hb => ?_) V10.out (by rfl) fun ws hk hs => ?_
  · have c0 := hb.cell (o := 0) (v := .bool false) rfl; have f0 := hb.free 0; have c1 := hb.cell (o := 1) (v := .slice none 0 0) rfl; have f1 := hb.free 1; go_simp
  intro hbx
  replace E := hid (E.out.keptG hk HGV10.out)
  replace Ba := hid (Ba.out.kept hk (by simpa using HNV10Ba.out.symm))
  replace Bb := hid (Bb.out.kept hk (by simpa using HNV10Bb.out.symm))
  replace V7 := hid (V7.out.kept hk (by simpa using HNV10V7.out.symm))
  replace V8 := hid (V8.out.kept hk (by simpa using HNV10V8.out.symm))
  replace V9 := hid (V9.out.kept hk (by simpa using HNV10V9.out.symm))
  replace V10 := hid hbx
  replace V11 := hid (V11.out.kept hk (by simpa using HNV11V10.out))
  replace Na := hid (Na.out.kz hs)
  replace Nb := hid (Nb.out.kz hs)
  replace Ra := hid (Ra.out.kz hs)
  replace Rb := hid (Rb.out.kz hs)
  replace Q5 := hid (Q5.out.kz hs)
  replace Q6 := hid (Q6.out.kz hs)
  replace Q7 := hid (Q7.out.kz hs)
  replace Q9 := hid (Q9.out.kz hs)
  replace Q10 := hid (Q10.out.kz hs)
  clear hk hs hbx
  refine WE.store2 (g := gV11) (x := .bool g10) (y := .slice A10 n10 c10) (t := 24) rfl rfl (by rfl) (fun w hb => ?_) V11.out (by rfl) fun ws hk hs => ?_
  · have c0 := hb.cell (o := 0) (v := .bool false) rfl; have f0 := hb.free 0; have c1 := hb.cell (o := 1) (v := .slice none 0 0) rfl; have f1 := hb.free 1; go_simp
  intro hbx
  replace E := hid (E.out.keptG hk HGV11.out)
  replace Ba := hid (Ba.out.kept hk (by simpa using HNV11Ba.out.symm))
  replace Bb := hid (Bb.out.kept hk (by simpa using HNV11Bb.out.symm))
  replace V7 := hid (V7.out.kept hk (by simpa using HNV11V7.out.symm))
  replace V8 := hid (V8.out.kept hk (by simpa using HNV11V8.out.symm))
  replace V9 := hid (V9.out.kept hk (by simpa using HNV11V9.out.symm))
  replace V10 := hid (V10.out.kept hk (by simpa using HNV11V10.out.symm))
  replace V11 := hid hbx
  replace Na := hid (Na.out.kz hs)
  replace Nb := hid (Nb.out.kz hs)
  replace Ra := hid (Ra.out.kz hs)
  replace Rb := hid (Rb.out.kz hs)
  replace Q5 := hid (Q5.out.kz hs)
  replace Q6 := hid (Q6.out.kz hs)
  replace Q7 := hid (Q7.out.kz hs)
  replace Q9 := hid (Q9.out.kz hs)
  replace Q10 := hid (Q10.out.kz hs)
  clear hk hs hbx
  refine WE.done ?_
  go_upto_region 8 with (fail)
  refine wp_region_E [(0, 0), (1, 0), (2, 1), (3, 0), (4, 0), (5, 0), (6, 0), (7, 1), (8, 1), (9, 0), (10, 0), (11, 0), (12, 0), (13, 1), (14, 0), (15, 0), (16, 0), (17, 1), (18, 0), (19, 0), (20, 0)] (fun _ => (0, #[])) rfl (by kernel_rfl) (by intro j hj; cases hj) (fun _ _ d _ _ => by cases d <;> exact Iff.rfl) fun wd hb => ?_
  replace E := hid (E.out.trans hb)
  replace Ba := hid (Ba.out.up hb)
  replace Bb := hid (Bb.out.up hb)
  replace V7 := hid (V7.out.up hb)
  replace V8 := hid (V8.out.up hb)
  replace V9 := hid (V9.out.up hb)
  replace V10 := hid (V10.out.up hb)
  replace V11 := hid (V11.out.up hb)
  replace Na := hid (Na.out.up hb)
  replace Nb := hid (Nb.out.up hb)
  replace Ra := hid (Ra.out.up hb)
  replace Rb := hid (Rb.out.up hb)
  replace Q5 := hid (Q5.out.up hb)
  replace Q6 := hid (Q6.out.up hb)
  replace Q7 := hid (Q7.out.up hb)
  replace Q9 := hid (Q9.out.up hb)
  replace Q10 := hid (Q10.out.up hb)
  clear hb
  refine WE.pure (d := some 62) rfl rfl (by rfl) (v := (.agg #[.bool g6, .slice A6 n6 c6])) (fun w' hk => ?_) ?_
  · have c0 := hk.cell (V8.out.cell (o := 0) (v := .bool g6) rfl); have c1 := hk.cell (V8.out.cell (o := 1) (v := .slice A6 n6 c6) rfl); go_simp
  simp only [Act.put, List.setIfInBounds_toArray, List.set_cons_zero, List.set_cons_succ]
  refine WE.pure (d := some 63) rfl rfl (by rfl) (v := (.agg #[.bool ga, .slice Aa na ca])) (fun w' hk => ?_) ?_
  · have c0 := hk.cell (Ba.out.cell (o := 0) (v := .bool ga) rfl); have c1 := hk.cell (Ba.out.cell (o := 1) (v := .slice Aa na ca) rfl); go_simp
  simp only [Act.put, List.setIfInBounds_toArray, List.set_cons_zero, List.set_cons_succ]
  refine WE.call (d := some 64) rfl rfl (by rfl) (f := 28) (args := #[(.agg #[.bool g6, .slice A6 n6 c6]), (.agg #[.bool ga, .slice Aa na ca])]) (by go_simp) ?_
  refine (same_w Q6.out.worth Ra.out (b := true) (decide_eq_true (HE1.out))).mono ?_
  rintro e wn ⟨rfl, hb⟩
  refine ⟨_, rfl, hb, ?_⟩
  replace E := hid (E.out.trans hb)
  replace Ba := hid (Ba.out.up hb)
  replace Bb := hid (Bb.out.up hb)
  replace V7 := hid (V7.out.up hb)
  replace V8 := hid (V8.out.up hb)
  replace V9 := hid (V9.out.up hb)
  replace V10 := hid (V10.out.up hb)
  replace V11 := hid (V11.out.up hb)
  replace Na := hid (Na.out.up hb)
  replace Nb := hid (Nb.out.up hb)
  replace Ra := hid (Ra.out.up hb)
  replace Rb := hid (Rb.out.up hb)
  replace Q5 := hid (Q5.out.up hb)
  replace Q6 := hid (Q6.out.up hb)
  replace Q7 := hid (Q7.out.up hb)
  replace Q9 := hid (Q9.out.up hb)
  replace Q10 := hid (Q10.out.up hb)
  clear hb
  simp only [Act.put, List.setIfInBounds_toArray, List.set_cons_zero, List.set_cons_succ]
  refine WE.pure (d := some 65) rfl rfl (by rfl) (v := (.bool true)) (fun w' hk => ?_) ?_
  · go_simp
  simp only [Act.put, List.setIfInBounds_toArray, List.set_cons_zero, List.set_cons_succ]
  refine WE.pure (d := some 66) rfl rfl (by rfl) (v := (.agg #[.bool g7, .slice A7 n7 c7])) (fun w' hk => ?_) ?_
  · have c0 := hk.cell (V9.out.cell (o := 0) (v := .bool g7) rfl); have c1 := hk.cell (V9.out.cell (o := 1) (v := .slice A7 n7 c7) rfl); go_simp
  simp only [Act.put, List.setIfInBounds_toArray, List.set_cons_zero, List.set_cons_succ]
  refine WE.pure (d := some 67) rfl rfl (by rfl) (v := (.int .u16 r)) (fun w' hk => ?_) ?_
  · go_simp
  simp only [Act.put, List.setIfInBounds_toArray, List.set_cons_zero, List.set_cons_succ]
  refine WE.pure (d := some 68) rfl rfl (by rfl) (v := (.int .i64 r)) (fun w' hk => ?_) ?_
  · have r1 : IntKind.i64.wrap r = r := HWR.out; go_simp
  simp only [Act.put, List.setIfInBounds_toArray, List.set_cons_zero, List.set_cons_succ]
  refine WE.call (d := some 69) rfl rfl (by rfl) (f := 22) (args := #[(.int .i64 r)]) (by go_simp) ?_
  refine (of_z (n := r) (by omega) (by omega) _).mono ?_
  rintro e wn ⟨v1, rfl, x1, hb⟩
  obtain ⟨g11, A11, n11, c11, rfl⟩ := x1.shape
  refine ⟨_, rfl, hb, ?_⟩
  replace E := hid (E.out.trans hb)
  replace Ba := hid (Ba.out.up hb)
  replace Bb := hid (Bb.out.up hb)
  replace V7 := hid (V7.out.up hb)
  replace V8 := hid (V8.out.up hb)
  replace V9 := hid (V9.out.up hb)
  replace V10 := hid (V10.out.up hb)
  replace V11 := hid (V11.out.up hb)
  replace Na := hid (Na.out.up hb)
  replace Nb := hid (Nb.out.up hb)
  replace Ra := hid (Ra.out.up hb)
  replace Rb := hid (Rb.out.up hb)
  replace Q5 := hid (Q5.out.up hb)
  replace Q6 := hid (Q6.out.up hb)
  replace Q7 := hid (Q7.out.up hb)
  replace Q9 := hid (Q9.out.up hb)
  replace Q10 := hid (Q10.out.up hb)
  have Q11 := hid x1
  clear hb x1
  simp only [Act.put, List.setIfInBounds_toArray, List.set_cons_zero, List.set_cons_succ]
  refine WE.call (d := some 70) rfl rfl (by rfl) (f := 28) (args := #[(.agg #[.bool g7, .slice A7 n7 c7]), (.agg #[.bool g11, .slice A11 n11 c11])]) (by go_simp) ?_
  refine (same_w Q7.out.worth Q11.out.worth (b := true) (decide_eq_true (HE2.out))).mono ?_
  rintro e wn ⟨rfl, hb⟩
  refine ⟨_, rfl, hb, ?_⟩
  replace E := hid (E.out.trans hb)
  replace Ba := hid (Ba.out.up hb)
  replace Bb := hid (Bb.out.up hb)
  replace V7 := hid (V7.out.up hb)
  replace V8 := hid (V8.out.up hb)
  replace V9 := hid (V9.out.up hb)
  replace V10 := hid (V10.out.up hb)
  replace V11 := hid (V11.out.up hb)
  replace Na := hid (Na.out.up hb)
  replace Nb := hid (Nb.out.up hb)
  replace Ra := hid (Ra.out.up hb)
  replace Rb := hid (Rb.out.up hb)
  replace Q5 := hid (Q5.out.up hb)
  replace Q6 := hid (Q6.out.up hb)
  replace Q7 := hid (Q7.out.up hb)
  replace Q9 := hid (Q9.out.up hb)
  replace Q10 := hid (Q10.out.up hb)
  replace Q11 := hid (Q11.out.up hb)
  clear hb
  simp only [Act.put, List.setIfInBounds_toArray, List.set_cons_zero, List.set_cons_succ]
  clear Q11
  refine WE.pure (d := some 71) rfl rfl (by rfl) (v := (.bool true)) (fun w' hk => ?_) ?_
  · go_simp
  simp only [Act.put, List.setIfInBounds_toArray, List.set_cons_zero, List.set_cons_succ]
  refine WE.pure (d := some 72) rfl rfl (by rfl) (v := (.bool true)) (fun w' hk => ?_) ?_
  · go_simp
  simp only [Act.put, List.setIfInBounds_toArray, List.set_cons_zero, List.set_cons_succ]
  refine WE.pure (d := some 73) rfl rfl (by rfl) (v := (.agg #[.bool g9, .slice A9 n9 c9])) (fun w' hk => ?_) ?_
  · have c0 := hk.cell (V10.out.cell (o := 0) (v := .bool g9) rfl); have c1 := hk.cell (V10.out.cell (o := 1) (v := .slice A9 n9 c9) rfl); go_simp
  simp only [Act.put, List.setIfInBounds_toArray, List.set_cons_zero, List.set_cons_succ]
  refine WE.pure (d := some 74) rfl rfl (by rfl) (v := (.agg #[.bool ga, .slice Aa na ca])) (fun w' hk => ?_) ?_
  · have c0 := hk.cell (Ba.out.cell (o := 0) (v := .bool ga) rfl); have c1 := hk.cell (Ba.out.cell (o := 1) (v := .slice Aa na ca) rfl); go_simp
  simp only [Act.put, List.setIfInBounds_toArray, List.set_cons_zero, List.set_cons_succ]
  refine WE.call (d := some 75) rfl rfl (by rfl) (f := 28) (args := #[(.agg #[.bool g9, .slice A9 n9 c9]), (.agg #[.bool ga, .slice Aa na ca])]) (by go_simp) ?_
  refine (same_w Q9.out.worth Ra.out (b := true) (decide_eq_true (HE3.out))).mono ?_
  rintro e wn ⟨rfl, hb⟩
  refine ⟨_, rfl, hb, ?_⟩
  replace E := hid (E.out.trans hb)
  replace Ba := hid (Ba.out.up hb)
  replace Bb := hid (Bb.out.up hb)
  replace V7 := hid (V7.out.up hb)
  replace V8 := hid (V8.out.up hb)
  replace V9 := hid (V9.out.up hb)
  replace V10 := hid (V10.out.up hb)
  replace V11 := hid (V11.out.up hb)
  replace Na := hid (Na.out.up hb)
  replace Nb := hid (Nb.out.up hb)
  replace Ra := hid (Ra.out.up hb)
  replace Rb := hid (Rb.out.up hb)
  replace Q5 := hid (Q5.out.up hb)
  replace Q6 := hid (Q6.out.up hb)
  replace Q7 := hid (Q7.out.up hb)
  replace Q9 := hid (Q9.out.up hb)
  replace Q10 := hid (Q10.out.up hb)
  clear hb
  simp only [Act.put, List.setIfInBounds_toArray, List.set_cons_zero, List.set_cons_succ]
  refine WE.pure (d := some 76) rfl rfl (by rfl) (v := (.bool true)) (fun w' hk => ?_) ?_
  · go_simp
  simp only [Act.put, List.setIfInBounds_toArray, List.set_cons_zero, List.set_cons_succ]
  refine WE.pure (d := some 77) rfl rfl (by rfl) (v := (.bool true)) (fun w' hk => ?_) ?_
  · go_simp
  simp only [Act.put, List.setIfInBounds_toArray, List.set_cons_zero, List.set_cons_succ]
  refine WE.pure (d := some 78) rfl rfl (by rfl) (v := (.agg #[.bool g10, .slice A10 n10 c10])) (fun w' hk => ?_) ?_
  · have c0 := hk.cell (V11.out.cell (o := 0) (v := .bool g10) rfl); have c1 := hk.cell (V11.out.cell (o := 1) (v := .slice A10 n10 c10) rfl); go_simp
  simp only [Act.put, List.setIfInBounds_toArray, List.set_cons_zero, List.set_cons_succ]
  refine WE.call (d := some 79) rfl rfl (by rfl) (f := 24) (args := #[(.agg #[.bool g10, .slice A10 n10 c10])]) (by go_simp) ?_
  refine (sign_e Q10.out.worth (s := 0) (HE4.out)).mono ?_
  rintro e wn ⟨rfl, hb⟩
  refine ⟨_, rfl, hb, ?_⟩
  replace E := hid (E.out.trans hb)
  replace Ba := hid (Ba.out.up hb)
  replace Bb := hid (Bb.out.up hb)
  replace V7 := hid (V7.out.up hb)
  replace V8 := hid (V8.out.up hb)
  replace V9 := hid (V9.out.up hb)
  replace V10 := hid (V10.out.up hb)
  replace V11 := hid (V11.out.up hb)
  replace Na := hid (Na.out.up hb)
  replace Nb := hid (Nb.out.up hb)
  replace Ra := hid (Ra.out.up hb)
  replace Rb := hid (Rb.out.up hb)
  replace Q5 := hid (Q5.out.up hb)
  replace Q6 := hid (Q6.out.up hb)
  replace Q7 := hid (Q7.out.up hb)
  replace Q9 := hid (Q9.out.up hb)
  replace Q10 := hid (Q10.out.up hb)
  clear hb
  simp only [Act.put, List.setIfInBounds_toArray, List.set_cons_zero, List.set_cons_succ]
  refine WE.pure (d := some 80) rfl rfl (by rfl) (v := (.bool true)) (fun w' hk => ?_) ?_
  · go_simp
  simp only [Act.put, List.setIfInBounds_toArray, List.set_cons_zero, List.set_cons_succ]
  refine WE.pure (d := some 81) rfl rfl (by rfl) (v := (.bool true)) (fun w' hk => ?_) ?_
  · go_simp
  simp only [Act.put, List.setIfInBounds_toArray, List.set_cons_zero, List.set_cons_succ]
  refine WE.pure (d := some 6) rfl rfl (by rfl) (v := (.bool true)) (fun w' hk => ?_) ?_
  · go_simp
  simp only [Act.put, List.setIfInBounds_toArray, List.set_cons_zero, List.set_cons_succ]
  refine WE.done ?_
  go_wp2
  go_ret
  exact ⟨rfl, E.out⟩

theorem wholeExact_walk (W : World) (ga : Bool) (Aa : Option Addr) (na ca : Nat) (la : List Nat) (ha : Num W W.heap.size (.slice Aa na ca) la) (gb : Bool) (Ab : Option Addr) (nb cb : Nat) (lb : List Nat) (hb : Num W W.heap.size (.slice Ab nb cb) lb) (r : Int) (hr0 : 0 ≤ r) (hr1 : r ≤ 65535) :
    Calls Try.prog 9 #[.agg #[.bool ga, .slice Aa na ca], .agg #[.bool gb, .slice Ab nb cb], .int .u16 r] W (fun e w' => e = .returned (.bool true) ∧ Ext W w') := by
  rcases fa : (decide (la.length ≤ 8)) with _ | _
  · exact wholeExact_skip0 W ga Aa na ca la ha gb Ab nb cb lb hb r hr0 hr1 fa
  rcases fb : (decide (lb.length ≤ 8)) with _ | _
  · exact wholeExact_skip1 W ga Aa na ca la ha gb Ab nb cb lb hb r hr0 hr1 fa fb
  rcases ia : (M.isZ ga la) with _ | _
  · exact wholeExact_skip2 W ga Aa na ca la ha gb Ab nb cb lb hb r hr0 hr1 fa fb ia
  rcases ib : (M.isZ gb lb) with _ | _
  · exact wholeExact_skip3 W ga Aa na ca la ha gb Ab nb cb lb hb r hr0 hr1 fa fb ia ib
  rcases (by omega : ((M.zv gb lb).natAbs : Int) ≤ r ∨ r < ((M.zv gb lb).natAbs : Int)) with h | h
  · exact wholeExact_big W ga Aa na ca la ha gb Ab nb cb lb hb r hr0 hr1 fa fb ia ib _ rfl _ rfl h
  · exact wholeExact_main W ga Aa na ca la ha gb Ab nb cb lb hb r hr0 hr1 fa fb ia ib _ rfl _ rfl h

set_option maxRecDepth 100000 in
theorem wholeExact_lifted (os : Os) (started : os.Started) (H : Type) (enc : TypeId × Value → H) :
    ReturnsInHanded {} Try.checked os 9 .any (Rows.wholeExactSpec.pre6 enc Try.prog Try.f9 Rows.wholeExactRow.domain false) (Rows.wholeExactSpec.post enc Try.prog Try.f9 false true false false) := by
  refine returnsInHanded_of_change (C := Try.checked) own started (by kernel_rfl) Try.func9
    (ChangeSpec.witness6 (enc := enc) (C := Try.checked) false ⟨#[], #[.agg #[.bool false, .slice none 0 0], .agg #[.bool false, .slice none 0 0], .int .u16 0], []⟩ 8 (by kernel_rfl) (by kernel_rfl) (by kernel_rfl) (by kernel_rfl)) ?_
  intro W base args ds gs before hval0 hW _ _
  have hval : ∀ (j : Nat) t v, Try.f9.params[j]? = some t → args[j]? = some v → Value.okWide Try.prog W .any base t v := hval0
  have hW' := hW
  obtain ⟨p, q, hA0, hV, rfl, hfz, hnd⟩ := hW
  have hA : DataW.TrodAll enc Try.prog W 0 (fun _ => true) true Try.f9.params.toList args.toList ds p := hA0
  rw [Try.params9] at hA hval
  obtain ⟨v0, vs0, d0, ds0, p0, q0, hargs, rfl, rfl, h0, r0⟩ := trodAll_cons hA
  obtain ⟨v1, vs1, d1, ds1, p1, q1, rfl, rfl, rfl, h1, r1⟩ := trodAll_cons r0
  obtain ⟨v2, vs2, d2, ds2, p2, q2, rfl, rfl, rfl, h2, r2⟩ := trodAll_cons r1
  obtain ⟨rfl, rfl, rfl⟩ := trodAll_nil r2
  obtain rfl : args = #[v0, v1, v2] := by cases args; simp_all
  obtain ⟨rfl, rfl⟩ := trodVars_none hV
  obtain ⟨g0, A0, n0, c0, l0, rfl, e0⟩ := open_Z (hval 0 24 _ rfl rfl) h0
  obtain ⟨g1, A1, n1, c1, l1, rfl, e1⟩ := open_Z (hval 1 24 _ rfl rfl) h1
  obtain ⟨a2, rfl, -, -, w2⟩ := open_int Try.underlying42 (hval 2 42 v2 rfl rfl) h2
  clear hA0 hval0
  refine (wholeExact_walk W g0 A0 n0 c0 l0 e0 g1 A1 n1 c1 l1 e1 a2 (u16_of_wf w2).1 (u16_of_wf w2).2).mono fun e W' ⟨he, hg⟩ => ?_
  subst he
  exact ⟨_, rfl, law_post hW' rfl rfl (by kernel_rfl) (by kernel_rfl) hg⟩

theorem wholeExact_over : Rows.wholeExactRow.holds Try.pinned (OpenSpec.ofChange Rows.wholeExactSpec) :=
  OpenClaim.holds_of_wide 9 Try.f9 rfl rfl rfl rfl rfl rfl rfl ⟨rfl, rfl, rfl, rfl, rfl⟩ rfl rfl rfl rfl rfl (by kernel_rfl) Try.func9 (by kernel_rfl)
    (of_decide_eq_true (by kernel_rfl)) (by unfold Func.isWrapper; first | (rw [if_pos (by decide +kernel)]; kernel_rfl) | (rw [if_neg (by decide +kernel)]; exact ⟨rfl, rfl⟩))
    (fun os started H enc _ => wholeExact_lifted os started H enc)

theorem wholeExact_proved : Rows.WholeExactSaid := wholeExact_over

end Go.Proofs.Ytjmonmbgfihgmaa
