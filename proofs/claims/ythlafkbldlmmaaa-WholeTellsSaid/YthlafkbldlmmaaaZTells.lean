/-
  WholeTells: whatever two integers, or what is none, and a number of 64 bits: true. No conditions.
-/
import Derived.Test.YthlafkbldlmmaaaZKnown
import Derived.Test.YthlafkbldlmmaaaRZE
import Derived.Test.YthlafkbldlmmaaaRZF
namespace Go.Proofs.Ythlafkbldlmmaaa
open Go.ChangeShapes Go.WideShapes Go.ChangeAt Go.RowKit
set_option linter.unusedSimpArgs false
set_option linter.unusedVariables false

theorem equal_z {w : World} {u v : Value} {Z : Int} {j k : Nat} (hu : IsZ w u Z j) (hv : IsZ w v Z k) : Calls Try.prog 14 #[u, v] w (GivesB w true) := by
  obtain ⟨A, n, c, rfl, h1, _⟩ := hu
  obtain ⟨A', n', c', rfl, h2, _⟩ := hv
  obtain ⟨g, hg⟩ : ∃ g : Bool, g = decide (Z < 0) := ⟨_, rfl⟩
  rw [← hg]
  have R := hid h1
  have R' := hid h2
  clear h1 h2 hg
  have hgg : (g == g) = true := by simp
  cases g
  all_goals
    go_enter Try.func14, Try.ntmps14
    go_wp2_with fail
    refine (same_l (R.out.up ((Ext.alloc _ _).alloc' _)) (R'.out.up ((Ext.alloc _ _).alloc' _)) rfl).mono ?_
    rintro e wn ⟨rfl, hb⟩
    have E := hid (((Ext.alloc _ _).alloc' _).trans hb)
    clear hb
    go_wp2
    go_ret
    exact ⟨rfl, E.out⟩

set_option maxRecDepth 100000 in
set_option maxHeartbeats 1000000 in
theorem wholeTells_skip0 (W : World) (ga : Bool) (Aa : Option Addr) (na ca : Nat) (la : List Nat) (ha : Num W W.heap.size (.slice Aa na ca) la) (gb : Bool) (Ab : Option Addr) (nb cb : Nat) (lb : List Nat) (hb : Num W W.heap.size (.slice Ab nb cb) lb) (n : Int) (h1 : -9223372036854775808 ≤ n) (h2 : n ≤ 9223372036854775807) (fa : Hid (decide (la.length ≤ 8) = false)) :
    Calls Try.prog 3 #[.agg #[.bool ga, .slice Aa na ca], .agg #[.bool gb, .slice Ab nb cb], .int .i64 n] W (fun e w' => e = .returned (.bool true) ∧ Ext W w') := by
  have HN1 := hid h1
  have HN2 := hid h2
  clear h1 h2
  have Na := hid ha
  have Nb := hid hb
  clear ha hb
  go_enter Try.func3, Try.ntmps3
  go_upto_region 1 with (fail)
  have E := hid (((Ext.refl W).alloc' (.cells #[.bool ga, .slice Aa na ca] 24)).alloc' (.cells #[.bool gb, .slice Ab nb cb] 24))
  have Ba : Hid (Box ((W.alloc (.cells #[.bool ga, .slice Aa na ca] 24)).alloc (.cells #[.bool gb, .slice Ab nb cb] 24)) (W.heap.size) #[.bool ga, .slice Aa na ca] 24) := hid ((Box.at_ (w := W) #[.bool ga, .slice Aa na ca] 24 (by simp)).alloc (.cells #[.bool gb, .slice Ab nb cb] 24))
  have Bb : Hid (Box ((W.alloc (.cells #[.bool ga, .slice Aa na ca] 24)).alloc (.cells #[.bool gb, .slice Ab nb cb] 24)) (W.heap.size + 1) #[.bool gb, .slice Ab nb cb] 24) := hid (Box.at_ (w := (W.alloc (.cells #[.bool ga, .slice Aa na ca] 24))) #[.bool gb, .slice Ab nb cb] 24 (by simp))
  replace Na := hid (Na.out.up E.out)
  replace Nb := hid (Nb.out.up E.out)
  go_upto_region 1 with (fail)
  refine wp_region_T [(0, 1), (1, 0)] (by kernel_rfl) fun wd hb => ?_
  replace E := hid (E.out.trans hb)
  replace Ba := hid (Ba.out.up hb)
  replace Bb := hid (Bb.out.up hb)
  replace Na := hid (Na.out.up hb)
  replace Nb := hid (Nb.out.up hb)
  clear hb
  refine WE.call (d := some 19) rfl rfl (by rfl) (f := 4) (args := #[]) (by go_simp) ?_
  refine (known2 _).mono ?_
  rintro e wn ⟨rfl, hb⟩
  refine ⟨_, rfl, hb, ?_⟩
  replace E := hid (E.out.trans hb)
  replace Ba := hid (Ba.out.up hb)
  replace Bb := hid (Bb.out.up hb)
  replace Na := hid (Na.out.up hb)
  replace Nb := hid (Nb.out.up hb)
  clear hb
  simp only [Act.put, List.setIfInBounds_toArray, List.set_cons_zero, List.set_cons_succ]
  refine WE.pure (d := some 20) rfl rfl (by rfl) (v := (.bool false)) (fun w' hk => ?_) ?_
  · go_simp
  simp only [Act.put, List.setIfInBounds_toArray, List.set_cons_zero, List.set_cons_succ]
  refine WE.done ?_
  go_upto_region 3 with (fail)
  refine wp_region_T [(0, 0), (1, 1), (2, 0), (3, 0), (4, 0), (5, 1), (6, 0), (7, 0)] (by kernel_rfl) fun wd hb => ?_
  replace E := hid (E.out.trans hb)
  replace Ba := hid (Ba.out.up hb)
  replace Bb := hid (Bb.out.up hb)
  replace Na := hid (Na.out.up hb)
  replace Nb := hid (Nb.out.up hb)
  clear hb
  refine WE.pure (d := some 21) rfl rfl (by rfl) (v := (.agg #[.bool ga, .slice Aa na ca])) (fun w' hk => ?_) ?_
  · have c0 := hk.cell (Ba.out.cell (o := 0) (v := .bool ga) rfl); have c1 := hk.cell (Ba.out.cell (o := 1) (v := .slice Aa na ca) rfl); go_simp
  simp only [Act.put, List.setIfInBounds_toArray, List.set_cons_zero, List.set_cons_succ]
  refine WE.call (d := some 22) rfl rfl (by rfl) (f := 5) (args := #[(.agg #[.bool ga, .slice Aa na ca])]) (by go_simp) ?_
  refine (few_z Na.out fa.out).mono ?_
  rintro e wn ⟨rfl, hb⟩
  refine ⟨_, rfl, hb, ?_⟩
  replace E := hid (E.out.trans hb)
  replace Ba := hid (Ba.out.up hb)
  replace Bb := hid (Bb.out.up hb)
  replace Na := hid (Na.out.up hb)
  replace Nb := hid (Nb.out.up hb)
  clear hb
  simp only [Act.put, List.setIfInBounds_toArray, List.set_cons_zero, List.set_cons_succ]
  refine WE.pure (d := some 23) rfl rfl (by rfl) (v := (.bool true)) (fun w' hk => ?_) ?_
  · go_simp
  simp only [Act.put, List.setIfInBounds_toArray, List.set_cons_zero, List.set_cons_succ]
  refine WE.pure (d := some 24) rfl rfl (by rfl) (v := (.bool true)) (fun w' hk => ?_) ?_
  · go_simp
  simp only [Act.put, List.setIfInBounds_toArray, List.set_cons_zero, List.set_cons_succ]
  refine WE.skip (d := some 25) rfl rfl (by rfl) ?_
  simp only [Act.put, List.setIfInBounds_toArray, List.set_cons_zero, List.set_cons_succ]
  refine WE.pass (d := some 26) rfl rfl (by rfl) ?_
  simp only [Act.put, List.setIfInBounds_toArray, List.set_cons_zero, List.set_cons_succ]
  refine WE.skip (d := some 27) rfl rfl (by rfl) ?_
  simp only [Act.put, List.setIfInBounds_toArray, List.set_cons_zero, List.set_cons_succ]
  refine WE.pure (d := some 28) rfl rfl (by rfl) (v := (.bool true)) (fun w' hk => ?_) ?_
  · go_simp
  simp only [Act.put, List.setIfInBounds_toArray, List.set_cons_zero, List.set_cons_succ]
  refine WE.done ?_
  go_wp2
  go_ret
  exact ⟨rfl, E.out⟩

set_option maxRecDepth 100000 in
set_option maxHeartbeats 1000000 in
theorem wholeTells_skip1 (W : World) (ga : Bool) (Aa : Option Addr) (na ca : Nat) (la : List Nat) (ha : Num W W.heap.size (.slice Aa na ca) la) (gb : Bool) (Ab : Option Addr) (nb cb : Nat) (lb : List Nat) (hb : Num W W.heap.size (.slice Ab nb cb) lb) (n : Int) (h1 : -9223372036854775808 ≤ n) (h2 : n ≤ 9223372036854775807) (fa : Hid (decide (la.length ≤ 8) = true)) (fb : Hid (decide (lb.length ≤ 8) = false)) :
    Calls Try.prog 3 #[.agg #[.bool ga, .slice Aa na ca], .agg #[.bool gb, .slice Ab nb cb], .int .i64 n] W (fun e w' => e = .returned (.bool true) ∧ Ext W w') := by
  have HN1 := hid h1
  have HN2 := hid h2
  clear h1 h2
  have Na := hid ha
  have Nb := hid hb
  clear ha hb
  go_enter Try.func3, Try.ntmps3
  go_upto_region 1 with (fail)
  have E := hid (((Ext.refl W).alloc' (.cells #[.bool ga, .slice Aa na ca] 24)).alloc' (.cells #[.bool gb, .slice Ab nb cb] 24))
  have Ba : Hid (Box ((W.alloc (.cells #[.bool ga, .slice Aa na ca] 24)).alloc (.cells #[.bool gb, .slice Ab nb cb] 24)) (W.heap.size) #[.bool ga, .slice Aa na ca] 24) := hid ((Box.at_ (w := W) #[.bool ga, .slice Aa na ca] 24 (by simp)).alloc (.cells #[.bool gb, .slice Ab nb cb] 24))
  have Bb : Hid (Box ((W.alloc (.cells #[.bool ga, .slice Aa na ca] 24)).alloc (.cells #[.bool gb, .slice Ab nb cb] 24)) (W.heap.size + 1) #[.bool gb, .slice Ab nb cb] 24) := hid (Box.at_ (w := (W.alloc (.cells #[.bool ga, .slice Aa na ca] 24))) #[.bool gb, .slice Ab nb cb] 24 (by simp))
  replace Na := hid (Na.out.up E.out)
  replace Nb := hid (Nb.out.up E.out)
  go_upto_region 1 with (fail)
  refine wp_region_T [(0, 1), (1, 0)] (by kernel_rfl) fun wd hb => ?_
  replace E := hid (E.out.trans hb)
  replace Ba := hid (Ba.out.up hb)
  replace Bb := hid (Bb.out.up hb)
  replace Na := hid (Na.out.up hb)
  replace Nb := hid (Nb.out.up hb)
  clear hb
  refine WE.call (d := some 19) rfl rfl (by rfl) (f := 4) (args := #[]) (by go_simp) ?_
  refine (known2 _).mono ?_
  rintro e wn ⟨rfl, hb⟩
  refine ⟨_, rfl, hb, ?_⟩
  replace E := hid (E.out.trans hb)
  replace Ba := hid (Ba.out.up hb)
  replace Bb := hid (Bb.out.up hb)
  replace Na := hid (Na.out.up hb)
  replace Nb := hid (Nb.out.up hb)
  clear hb
  simp only [Act.put, List.setIfInBounds_toArray, List.set_cons_zero, List.set_cons_succ]
  refine WE.pure (d := some 20) rfl rfl (by rfl) (v := (.bool false)) (fun w' hk => ?_) ?_
  · go_simp
  simp only [Act.put, List.setIfInBounds_toArray, List.set_cons_zero, List.set_cons_succ]
  refine WE.done ?_
  go_upto_region 3 with (fail)
  refine wp_region_T [(0, 0), (1, 1), (2, 0), (3, 0), (4, 0), (5, 1), (6, 0), (7, 0)] (by kernel_rfl) fun wd hb => ?_
  replace E := hid (E.out.trans hb)
  replace Ba := hid (Ba.out.up hb)
  replace Bb := hid (Bb.out.up hb)
  replace Na := hid (Na.out.up hb)
  replace Nb := hid (Nb.out.up hb)
  clear hb
  refine WE.pure (d := some 21) rfl rfl (by rfl) (v := (.agg #[.bool ga, .slice Aa na ca])) (fun w' hk => ?_) ?_
  · have c0 := hk.cell (Ba.out.cell (o := 0) (v := .bool ga) rfl); have c1 := hk.cell (Ba.out.cell (o := 1) (v := .slice Aa na ca) rfl); go_simp
  simp only [Act.put, List.setIfInBounds_toArray, List.set_cons_zero, List.set_cons_succ]
  refine WE.call (d := some 22) rfl rfl (by rfl) (f := 5) (args := #[(.agg #[.bool ga, .slice Aa na ca])]) (by go_simp) ?_
  refine (few_z Na.out fa.out).mono ?_
  rintro e wn ⟨rfl, hb⟩
  refine ⟨_, rfl, hb, ?_⟩
  replace E := hid (E.out.trans hb)
  replace Ba := hid (Ba.out.up hb)
  replace Bb := hid (Bb.out.up hb)
  replace Na := hid (Na.out.up hb)
  replace Nb := hid (Nb.out.up hb)
  clear hb
  simp only [Act.put, List.setIfInBounds_toArray, List.set_cons_zero, List.set_cons_succ]
  refine WE.pure (d := some 23) rfl rfl (by rfl) (v := (.bool false)) (fun w' hk => ?_) ?_
  · go_simp
  simp only [Act.put, List.setIfInBounds_toArray, List.set_cons_zero, List.set_cons_succ]
  refine WE.pure (d := some 24) rfl rfl (by rfl) (v := (.bool false)) (fun w' hk => ?_) ?_
  · go_simp
  simp only [Act.put, List.setIfInBounds_toArray, List.set_cons_zero, List.set_cons_succ]
  refine WE.pure (d := some 25) rfl rfl (by rfl) (v := (.agg #[.bool gb, .slice Ab nb cb])) (fun w' hk => ?_) ?_
  · have c0 := hk.cell (Bb.out.cell (o := 0) (v := .bool gb) rfl); have c1 := hk.cell (Bb.out.cell (o := 1) (v := .slice Ab nb cb) rfl); go_simp
  simp only [Act.put, List.setIfInBounds_toArray, List.set_cons_zero, List.set_cons_succ]
  refine WE.call (d := some 26) rfl rfl (by rfl) (f := 5) (args := #[(.agg #[.bool gb, .slice Ab nb cb])]) (by go_simp) ?_
  refine (few_z Nb.out fb.out).mono ?_
  rintro e wn ⟨rfl, hb⟩
  refine ⟨_, rfl, hb, ?_⟩
  replace E := hid (E.out.trans hb)
  replace Ba := hid (Ba.out.up hb)
  replace Bb := hid (Bb.out.up hb)
  replace Na := hid (Na.out.up hb)
  replace Nb := hid (Nb.out.up hb)
  clear hb
  simp only [Act.put, List.setIfInBounds_toArray, List.set_cons_zero, List.set_cons_succ]
  refine WE.pure (d := some 27) rfl rfl (by rfl) (v := (.bool true)) (fun w' hk => ?_) ?_
  · go_simp
  simp only [Act.put, List.setIfInBounds_toArray, List.set_cons_zero, List.set_cons_succ]
  refine WE.pure (d := some 28) rfl rfl (by rfl) (v := (.bool true)) (fun w' hk => ?_) ?_
  · go_simp
  simp only [Act.put, List.setIfInBounds_toArray, List.set_cons_zero, List.set_cons_succ]
  refine WE.done ?_
  go_wp2
  go_ret
  exact ⟨rfl, E.out⟩

set_option maxRecDepth 100000 in
set_option maxHeartbeats 8000000 in
theorem wholeTells_yes (W : World) (ga : Bool) (Aa : Option Addr) (na ca : Nat) (la : List Nat) (ha : Num W W.heap.size (.slice Aa na ca) la) (gb : Bool) (Ab : Option Addr) (nb cb : Nat) (lb : List Nat) (hb : Num W W.heap.size (.slice Ab nb cb) lb) (n : Int) (h1 : -9223372036854775808 ≤ n) (h2 : n ≤ 9223372036854775807) (fa : Hid (decide (la.length ≤ 8) = true)) (fb : Hid (decide (lb.length ≤ 8) = true)) (x : Int) (HX : Hid (x = M.zv ga la)) (y : Int) (HY : Hid (y = M.zv gb lb)) (hcond : Hid (M.fits x)) :
    Calls Try.prog 3 #[.agg #[.bool ga, .slice Aa na ca], .agg #[.bool gb, .slice Ab nb cb], .int .i64 n] W (fun e w' => e = .returned (.bool true) ∧ Ext W w') := by
  have HN1 := hid h1
  have HN2 := hid h2
  clear h1 h2
  obtain ⟨ia, hia⟩ : ∃ b : Bool, M.isZ ga la = b := ⟨_, rfl⟩
  obtain ⟨s, hs⟩ : ∃ s : Int, x.sign = s := ⟨_, rfl⟩
  obtain ⟨z, hz⟩ : ∃ z : Int, M.zcmp x y = z := ⟨_, rfl⟩
  obtain ⟨sm, hsm⟩ : ∃ b : Bool, decide (x = y) = b := ⟨_, rfl⟩
  have HIA := hid hia
  have HS := hid hs
  have HZ := hid hz
  have HSM := hid hsm
  clear hia hs hz hsm
  have Na := hid ha
  have Nb := hid hb
  have Ra := hid (worth_of ha (of_decide_eq_true fa.out) HX.out)
  have Rb := hid (worth_of hb (of_decide_eq_true fb.out) HY.out)
  clear ha hb
  go_enter Try.func3, Try.ntmps3
  go_upto_region 1 with (fail)
  have E := hid (((Ext.refl W).alloc' (.cells #[.bool ga, .slice Aa na ca] 24)).alloc' (.cells #[.bool gb, .slice Ab nb cb] 24))
  have Ba : Hid (Box ((W.alloc (.cells #[.bool ga, .slice Aa na ca] 24)).alloc (.cells #[.bool gb, .slice Ab nb cb] 24)) (W.heap.size) #[.bool ga, .slice Aa na ca] 24) := hid ((Box.at_ (w := W) #[.bool ga, .slice Aa na ca] 24 (by simp)).alloc (.cells #[.bool gb, .slice Ab nb cb] 24))
  have Bb : Hid (Box ((W.alloc (.cells #[.bool ga, .slice Aa na ca] 24)).alloc (.cells #[.bool gb, .slice Ab nb cb] 24)) (W.heap.size + 1) #[.bool gb, .slice Ab nb cb] 24) := hid (Box.at_ (w := (W.alloc (.cells #[.bool ga, .slice Aa na ca] 24))) #[.bool gb, .slice Ab nb cb] 24 (by simp))
  replace Na := hid (Na.out.up E.out)
  replace Nb := hid (Nb.out.up E.out)
  replace Ra := hid (Ra.out.up E.out)
  replace Rb := hid (Rb.out.up E.out)
  go_upto_region 1 with (fail)
  refine wp_region_T [(0, 1), (1, 0)] (by kernel_rfl) fun wd hb => ?_
  replace E := hid (E.out.trans hb)
  replace Ba := hid (Ba.out.up hb)
  replace Bb := hid (Bb.out.up hb)
  replace Na := hid (Na.out.up hb)
  replace Nb := hid (Nb.out.up hb)
  replace Ra := hid (Ra.out.up hb)
  replace Rb := hid (Rb.out.up hb)
  clear hb
  refine WE.call (d := some 19) rfl rfl (by rfl) (f := 4) (args := #[]) (by go_simp) ?_
  refine (known2 _).mono ?_
  rintro e wn ⟨rfl, hb⟩
  refine ⟨_, rfl, hb, ?_⟩
  replace E := hid (E.out.trans hb)
  replace Ba := hid (Ba.out.up hb)
  replace Bb := hid (Bb.out.up hb)
  replace Na := hid (Na.out.up hb)
  replace Nb := hid (Nb.out.up hb)
  replace Ra := hid (Ra.out.up hb)
  replace Rb := hid (Rb.out.up hb)
  clear hb
  simp only [Act.put, List.setIfInBounds_toArray, List.set_cons_zero, List.set_cons_succ]
  refine WE.pure (d := some 20) rfl rfl (by rfl) (v := (.bool false)) (fun w' hk => ?_) ?_
  · go_simp
  simp only [Act.put, List.setIfInBounds_toArray, List.set_cons_zero, List.set_cons_succ]
  refine WE.done ?_
  go_upto_region 3 with (fail)
  refine wp_region_T [(0, 0), (1, 1), (2, 0), (3, 0), (4, 0), (5, 1), (6, 0), (7, 0)] (by kernel_rfl) fun wd hb => ?_
  replace E := hid (E.out.trans hb)
  replace Ba := hid (Ba.out.up hb)
  replace Bb := hid (Bb.out.up hb)
  replace Na := hid (Na.out.up hb)
  replace Nb := hid (Nb.out.up hb)
  replace Ra := hid (Ra.out.up hb)
  replace Rb := hid (Rb.out.up hb)
  clear hb
  refine WE.pure (d := some 21) rfl rfl (by rfl) (v := (.agg #[.bool ga, .slice Aa na ca])) (fun w' hk => ?_) ?_
  · have c0 := hk.cell (Ba.out.cell (o := 0) (v := .bool ga) rfl); have c1 := hk.cell (Ba.out.cell (o := 1) (v := .slice Aa na ca) rfl); go_simp
  simp only [Act.put, List.setIfInBounds_toArray, List.set_cons_zero, List.set_cons_succ]
  refine WE.call (d := some 22) rfl rfl (by rfl) (f := 5) (args := #[(.agg #[.bool ga, .slice Aa na ca])]) (by go_simp) ?_
  refine (few_z Na.out fa.out).mono ?_
  rintro e wn ⟨rfl, hb⟩
  refine ⟨_, rfl, hb, ?_⟩
  replace E := hid (E.out.trans hb)
  replace Ba := hid (Ba.out.up hb)
  replace Bb := hid (Bb.out.up hb)
  replace Na := hid (Na.out.up hb)
  replace Nb := hid (Nb.out.up hb)
  replace Ra := hid (Ra.out.up hb)
  replace Rb := hid (Rb.out.up hb)
  clear hb
  simp only [Act.put, List.setIfInBounds_toArray, List.set_cons_zero, List.set_cons_succ]
  refine WE.pure (d := some 23) rfl rfl (by rfl) (v := (.bool false)) (fun w' hk => ?_) ?_
  · go_simp
  simp only [Act.put, List.setIfInBounds_toArray, List.set_cons_zero, List.set_cons_succ]
  refine WE.pure (d := some 24) rfl rfl (by rfl) (v := (.bool false)) (fun w' hk => ?_) ?_
  · go_simp
  simp only [Act.put, List.setIfInBounds_toArray, List.set_cons_zero, List.set_cons_succ]
  refine WE.pure (d := some 25) rfl rfl (by rfl) (v := (.agg #[.bool gb, .slice Ab nb cb])) (fun w' hk => ?_) ?_
  · have c0 := hk.cell (Bb.out.cell (o := 0) (v := .bool gb) rfl); have c1 := hk.cell (Bb.out.cell (o := 1) (v := .slice Ab nb cb) rfl); go_simp
  simp only [Act.put, List.setIfInBounds_toArray, List.set_cons_zero, List.set_cons_succ]
  refine WE.call (d := some 26) rfl rfl (by rfl) (f := 5) (args := #[(.agg #[.bool gb, .slice Ab nb cb])]) (by go_simp) ?_
  refine (few_z Nb.out fb.out).mono ?_
  rintro e wn ⟨rfl, hb⟩
  refine ⟨_, rfl, hb, ?_⟩
  replace E := hid (E.out.trans hb)
  replace Ba := hid (Ba.out.up hb)
  replace Bb := hid (Bb.out.up hb)
  replace Na := hid (Na.out.up hb)
  replace Nb := hid (Nb.out.up hb)
  replace Ra := hid (Ra.out.up hb)
  replace Rb := hid (Rb.out.up hb)
  clear hb
  simp only [Act.put, List.setIfInBounds_toArray, List.set_cons_zero, List.set_cons_succ]
  refine WE.pure (d := some 27) rfl rfl (by rfl) (v := (.bool false)) (fun w' hk => ?_) ?_
  · go_simp
  simp only [Act.put, List.setIfInBounds_toArray, List.set_cons_zero, List.set_cons_succ]
  refine WE.pure (d := some 28) rfl rfl (by rfl) (v := (.bool false)) (fun w' hk => ?_) ?_
  · go_simp
  simp only [Act.put, List.setIfInBounds_toArray, List.set_cons_zero, List.set_cons_succ]
  refine WE.done ?_
  go_upto_region 5 with (fail)
  refine wp_region_T [(0, 0), (1, 0), (2, 1), (3, 0), (4, 0), (5, 0), (6, 1), (7, 1), (8, 4), (9, 4)] (by kernel_rfl) fun wd hb => ?_
  replace E := hid (E.out.trans hb)
  replace Ba := hid (Ba.out.up hb)
  replace Bb := hid (Bb.out.up hb)
  replace Na := hid (Na.out.up hb)
  replace Nb := hid (Nb.out.up hb)
  replace Ra := hid (Ra.out.up hb)
  replace Rb := hid (Rb.out.up hb)
  clear hb
  refine WE.pure (d := some 30) rfl rfl (by rfl) (v := (.agg #[.bool ga, .slice Aa na ca])) (fun w' hk => ?_) ?_
  · have c0 := hk.cell (Ba.out.cell (o := 0) (v := .bool ga) rfl); have c1 := hk.cell (Ba.out.cell (o := 1) (v := .slice Aa na ca) rfl); go_simp
  simp only [Act.put, List.setIfInBounds_toArray, List.set_cons_zero, List.set_cons_succ]
  as_aux_lemma =>
    refine WE.pure (d := some 31) rfl rfl (by rfl) (v := (.agg #[.bool gb, .slice Ab nb cb])) (fun w' hk => ?_) ?_
    · have c0 := hk.cell (Bb.out.cell (o := 0) (v := .bool gb) rfl); have c1 := hk.cell (Bb.out.cell (o := 1) (v := .slice Ab nb cb) rfl); go_simp
    simp only [Act.put, List.setIfInBounds_toArray, List.set_cons_zero, List.set_cons_succ]
    refine WE.call (d := some 32) rfl rfl (by rfl) (f := 6) (args := #[(.agg #[.bool ga, .slice Aa na ca]), (.agg #[.bool gb, .slice Ab nb cb])]) (by go_simp) ?_
    refine (floor_w Ra.out Rb.out (by omega) (by omega)).mono ?_
    rintro e wn ⟨v1, v2, rfl, x1, x2, hb⟩
    obtain ⟨g1, A1, n1, c1, rfl⟩ := x1.shape
    obtain ⟨g2, A2, n2, c2, rfl⟩ := x2.shape
    refine ⟨_, rfl, hb, ?_⟩
    replace E := hid (E.out.trans hb)
    replace Ba := hid (Ba.out.up hb)
    replace Bb := hid (Bb.out.up hb)
    replace Na := hid (Na.out.up hb)
    replace Nb := hid (Nb.out.up hb)
    replace Ra := hid (Ra.out.up hb)
    replace Rb := hid (Rb.out.up hb)
    have Q1 := hid x1
    have Q2 := hid x2
    clear hb x1 x2
    simp only [Act.put, List.setIfInBounds_toArray, List.set_cons_zero, List.set_cons_succ]
    refine WE.pure (d := some 29) rfl rfl (by rfl) (v := (.tuple #[(.agg #[.bool g1, .slice A1 n1 c1]), (.agg #[.bool g2, .slice A2 n2 c2])])) (fun w' hk => ?_) ?_
    · go_simp
    simp only [Act.put, List.setIfInBounds_toArray, List.set_cons_zero, List.set_cons_succ]
    refine WE.pure (d := some 33) rfl rfl (by rfl) (v := (.agg #[.bool g1, .slice A1 n1 c1])) (fun w' hk => ?_) ?_
    · go_simp
    simp only [Act.put, List.setIfInBounds_toArray, List.set_cons_zero, List.set_cons_succ]
    refine WE.pure (d := some 34) rfl rfl (by rfl) (v := (.agg #[.bool g2, .slice A2 n2 c2])) (fun w' hk => ?_) ?_
    · go_simp
    simp only [Act.put, List.setIfInBounds_toArray, List.set_cons_zero, List.set_cons_succ]
    refine WE.new (d := some 7) (cs := #[.bool false, .slice none 0 0]) (t := 24) (v := fun g => (.pointer (some ⟨g, 0, none⟩))) rfl rfl (by rfl) (fun w => by go_simp) fun gV7 wv hx0 hbox hge => ?_
    have HNV7Ba := hid (show gV7 ≠ (W.heap.size) by have := Ba.out.lt; omega)
    have HNV7Bb := hid (show gV7 ≠ (W.heap.size + 1) by have := Bb.out.lt; omega)
    have HGV7 := hid (show W.heap.size ≤ gV7 by have := E.out.size; omega)
    replace E := hid (E.out.trans hx0)
    replace Ba := hid (Ba.out.up hx0)
    replace Bb := hid (Bb.out.up hx0)
    replace Na := hid (Na.out.up hx0)
    replace Nb := hid (Nb.out.up hx0)
    replace Ra := hid (Ra.out.up hx0)
    replace Rb := hid (Rb.out.up hx0)
    replace Q1 := hid (Q1.out.up hx0)
    replace Q2 := hid (Q2.out.up hx0)
    have V7 : Hid (Box wv gV7 #[.bool false, .slice none 0 0] 24) := hid hbox
    clear hx0 hbox hge
    simp only [Act.put, List.setIfInBounds_toArray, List.set_cons_zero, List.set_cons_succ]
    refine WE.new (d := some 8) (cs := #[.bool false, .slice none 0 0]) (t := 24) (v := fun g => (.pointer (some ⟨g, 0, none⟩))) rfl rfl (by rfl) (fun w => by go_simp) fun gV8 wv hx0 hbox hge => ?_
    have HNV8Ba := hid (show gV8 ≠ (W.heap.size) by have := Ba.out.lt; omega)
    have HNV8Bb := hid (show gV8 ≠ (W.heap.size + 1) by have := Bb.out.lt; omega)
    have HNV8V7 := hid (show gV8 ≠ gV7 by have := V7.out.lt; omega)
    have HGV8 := hid (show W.heap.size ≤ gV8 by have := E.out.size; omega)
    replace E := hid (E.out.trans hx0)
    replace Ba := hid (Ba.out.up hx0)
    replace Bb := hid (Bb.out.up hx0)
    replace V7 := hid (V7.out.up hx0)
    replace Na := hid (Na.out.up hx0)
    replace Nb := hid (Nb.out.up hx0)
    replace Ra := hid (Ra.out.up hx0)
    replace Rb := hid (Rb.out.up hx0)
    replace Q1 := hid (Q1.out.up hx0)
    replace Q2 := hid (Q2.out.up hx0)
    have V8 : Hid (Box wv gV8 #[.bool false, .slice none 0 0] 24) := hid hbox
    clear hx0 hbox hge
    simp only [Act.put, List.setIfInBounds_toArray, List.set_cons_zero, List.set_cons_succ]
    refine WE.store2 (g := gV7) (x := .bool g1) (y := .slice A1 n1 c1) (t := 24) rfl rfl (by rfl) (fun w hb => ?_) V7.out (by rfl) fun ws hk hs => ?_
    · have c0 := hb.cell (o := 0) (v := .bool false) rfl; have f0 := hb.free 0; have c1 := hb.cell (o := 1) (v := .slice none 0 0) rfl; have f1 := hb.free 1; go_simp
    intro hbx
    replace E := hid (E.out.keptG hk HGV7.out)
    replace Ba := hid (Ba.out.kept hk (by simpa using HNV7Ba.out.symm))
    replace Bb := hid (Bb.out.kept hk (by simpa using HNV7Bb.out.symm))
    replace V7 := hid hbx
    replace V8 := hid (V8.out.kept hk (by simpa using HNV8V7.out))
    replace Na := hid (Na.out.kz hs)
    replace Nb := hid (Nb.out.kz hs)
    replace Ra := hid (Ra.out.kz hs)
    replace Rb := hid (Rb.out.kz hs)
    replace Q1 := hid (Q1.out.kz hs)
    replace Q2 := hid (Q2.out.kz hs)
    clear hk hs hbx
    refine WE.store2 (g := gV8) (x := .bool g2) (y := .slice A2 n2 c2) (t := 24) rfl rfl (by rfl) (fun w hb => ?_) V8.out (by rfl) fun ws hk hs => ?_
    · have c0 := hb.cell (o := 0) (v := .bool false) rfl; have f0 := hb.free 0; have c1 := hb.cell (o := 1) (v := .slice none 0 0) rfl; have f1 := hb.free 1; go_simp
    intro hbx
    replace E := hid (E.out.keptG hk HGV8.out)
    replace Ba := hid (Ba.out.kept hk (by simpa using HNV8Ba.out.symm))
    replace Bb := hid (Bb.out.kept hk (by simpa using HNV8Bb.out.symm))
    replace V7 := hid (V7.out.kept hk (by simpa using HNV8V7.out.symm))
    replace V8 := hid hbx
    replace Na := hid (Na.out.kz hs)
    replace Nb := hid (Nb.out.kz hs)
    replace Ra := hid (Ra.out.kz hs)
    replace Rb := hid (Rb.out.kz hs)
    replace Q1 := hid (Q1.out.kz hs)
    replace Q2 := hid (Q2.out.kz hs)
    clear hk hs hbx
    refine WE.done ?_
    go_upto_region 6 with (fail)
    refine wp_region_T [(0, 0), (1, 0), (2, 1), (3, 0), (4, 0), (5, 0), (6, 1), (7, 1), (8, 4), (9, 4)] (by kernel_rfl) fun wd hb => ?_
    replace E := hid (E.out.trans hb)
    replace Ba := hid (Ba.out.up hb)
    replace Bb := hid (Bb.out.up hb)
    replace V7 := hid (V7.out.up hb)
    replace V8 := hid (V8.out.up hb)
    replace Na := hid (Na.out.up hb)
    replace Nb := hid (Nb.out.up hb)
    replace Ra := hid (Ra.out.up hb)
    replace Rb := hid (Rb.out.up hb)
    replace Q1 := hid (Q1.out.up hb)
    replace Q2 := hid (Q2.out.up hb)
    clear hb
    refine WE.pure (d := some 36) rfl rfl (by rfl) (v := (.agg #[.bool ga, .slice Aa na ca])) (fun w' hk => ?_) ?_
    · have c0 := hk.cell (Ba.out.cell (o := 0) (v := .bool ga) rfl); have c1 := hk.cell (Ba.out.cell (o := 1) (v := .slice Aa na ca) rfl); go_simp
    simp only [Act.put, List.setIfInBounds_toArray, List.set_cons_zero, List.set_cons_succ]
    refine WE.pure (d := some 37) rfl rfl (by rfl) (v := (.agg #[.bool gb, .slice Ab nb cb])) (fun w' hk => ?_) ?_
    · have c0 := hk.cell (Bb.out.cell (o := 0) (v := .bool gb) rfl); have c1 := hk.cell (Bb.out.cell (o := 1) (v := .slice Ab nb cb) rfl); go_simp
    simp only [Act.put, List.setIfInBounds_toArray, List.set_cons_zero, List.set_cons_succ]
    refine WE.call (d := some 38) rfl rfl (by rfl) (f := 7) (args := #[(.agg #[.bool ga, .slice Aa na ca]), (.agg #[.bool gb, .slice Ab nb cb])]) (by go_simp) ?_
    refine (rFloor_w Ra.out Rb.out (by omega) (by omega)).mono ?_
    rintro e wn ⟨v1, v2, rfl, x1, x2, hb⟩
    obtain ⟨g3, A3, n3, c3, rfl⟩ := x1.shape
    obtain ⟨g4, A4, n4, c4, rfl⟩ := x2.shape
    refine ⟨_, rfl, hb, ?_⟩
    replace E := hid (E.out.trans hb)
    replace Ba := hid (Ba.out.up hb)
    replace Bb := hid (Bb.out.up hb)
    replace V7 := hid (V7.out.up hb)
    replace V8 := hid (V8.out.up hb)
    replace Na := hid (Na.out.up hb)
    replace Nb := hid (Nb.out.up hb)
    replace Ra := hid (Ra.out.up hb)
    replace Rb := hid (Rb.out.up hb)
    replace Q1 := hid (Q1.out.up hb)
    replace Q2 := hid (Q2.out.up hb)
    have Q3 := hid x1
    have Q4 := hid x2
    clear hb x1 x2
    simp only [Act.put, List.setIfInBounds_toArray, List.set_cons_zero, List.set_cons_succ]
    as_aux_lemma =>
      refine WE.pure (d := some 35) rfl rfl (by rfl) (v := (.tuple #[(.agg #[.bool g3, .slice A3 n3 c3]), (.agg #[.bool g4, .slice A4 n4 c4])])) (fun w' hk => ?_) ?_
      · go_simp
      simp only [Act.put, List.setIfInBounds_toArray, List.set_cons_zero, List.set_cons_succ]
      refine WE.pure (d := some 39) rfl rfl (by rfl) (v := (.agg #[.bool g3, .slice A3 n3 c3])) (fun w' hk => ?_) ?_
      · go_simp
      simp only [Act.put, List.setIfInBounds_toArray, List.set_cons_zero, List.set_cons_succ]
      refine WE.pure (d := some 40) rfl rfl (by rfl) (v := (.agg #[.bool g4, .slice A4 n4 c4])) (fun w' hk => ?_) ?_
      · go_simp
      simp only [Act.put, List.setIfInBounds_toArray, List.set_cons_zero, List.set_cons_succ]
      refine WE.new (d := some 9) (cs := #[.bool false, .slice none 0 0]) (t := 24) (v := fun g => (.pointer (some ⟨g, 0, none⟩))) rfl rfl (by rfl) (fun w => by go_simp) fun gV9 wv hx0 hbox hge => ?_
      have HNV9Ba := hid (show gV9 ≠ (W.heap.size) by have := Ba.out.lt; omega)
      have HNV9Bb := hid (show gV9 ≠ (W.heap.size + 1) by have := Bb.out.lt; omega)
      have HNV9V7 := hid (show gV9 ≠ gV7 by have := V7.out.lt; omega)
      have HNV9V8 := hid (show gV9 ≠ gV8 by have := V8.out.lt; omega)
      have HGV9 := hid (show W.heap.size ≤ gV9 by have := E.out.size; omega)
      replace E := hid (E.out.trans hx0)
      replace Ba := hid (Ba.out.up hx0)
      replace Bb := hid (Bb.out.up hx0)
      replace V7 := hid (V7.out.up hx0)
      replace V8 := hid (V8.out.up hx0)
      replace Na := hid (Na.out.up hx0)
      replace Nb := hid (Nb.out.up hx0)
      replace Ra := hid (Ra.out.up hx0)
      replace Rb := hid (Rb.out.up hx0)
      replace Q1 := hid (Q1.out.up hx0)
      replace Q2 := hid (Q2.out.up hx0)
      replace Q3 := hid (Q3.out.up hx0)
      replace Q4 := hid (Q4.out.up hx0)
      have V9 : Hid (Box wv gV9 #[.bool false, .slice none 0 0] 24) := hid hbox
      clear hx0 hbox hge
      simp only [Act.put, List.setIfInBounds_toArray, List.set_cons_zero, List.set_cons_succ]
      refine WE.new (d := some 10) (cs := #[.bool false, .slice none 0 0]) (t := 24) (v := fun g => (.pointer (some ⟨g, 0, none⟩))) rfl rfl (by rfl) (fun w => by go_simp) fun gV10 wv hx0 hbox hge => ?_
      have HNV10Ba := hid (show gV10 ≠ (W.heap.size) by have := Ba.out.lt; omega)
      have HNV10Bb := hid (show gV10 ≠ (W.heap.size + 1) by have := Bb.out.lt; omega)
      have HNV10V7 := hid (show gV10 ≠ gV7 by have := V7.out.lt; omega)
      have HNV10V8 := hid (show gV10 ≠ gV8 by have := V8.out.lt; omega)
      have HNV10V9 := hid (show gV10 ≠ gV9 by have := V9.out.lt; omega)
      have HGV10 := hid (show W.heap.size ≤ gV10 by have := E.out.size; omega)
      replace E := hid (E.out.trans hx0)
      replace Ba := hid (Ba.out.up hx0)
      replace Bb := hid (Bb.out.up hx0)
      replace V7 := hid (V7.out.up hx0)
      replace V8 := hid (V8.out.up hx0)
      replace V9 := hid (V9.out.up hx0)
      replace Na := hid (Na.out.up hx0)
      replace Nb := hid (Nb.out.up hx0)
      replace Ra := hid (Ra.out.up hx0)
      replace Rb := hid (Rb.out.up hx0)
      replace Q1 := hid (Q1.out.up hx0)
      replace Q2 := hid (Q2.out.up hx0)
      replace Q3 := hid (Q3.out.up hx0)
      replace Q4 := hid (Q4.out.up hx0)
      have V10 : Hid (Box wv gV10 #[.bool false, .slice none 0 0] 24) := hid hbox
      clear hx0 hbox hge
      simp only [Act.put, List.setIfInBounds_toArray, List.set_cons_zero, List.set_cons_succ]
      refine WE.store2 (g := gV9) (x := .bool g3) (y := .slice A3 n3 c3) (t := 24) rfl rfl (by rfl) (fun w hb => ?_) V9.out (by rfl) fun ws hk hs => ?_
      · have c0 := hb.cell (o := 0) (v := .bool false) rfl; have f0 := hb.free 0; have c1 := hb.cell (o := 1) (v := .slice none 0 0) rfl; have f1 := hb.free 1; go_simp
      intro hbx
      replace E := hid (E.out.keptG hk HGV9.out)
      replace Ba := hid (Ba.out.kept hk (by simpa using HNV9Ba.out.symm))
      replace Bb := hid (Bb.out.kept hk (by simpa using HNV9Bb.out.symm))
      replace V7 := hid (V7.out.kept hk (by simpa using HNV9V7.out.symm))
      replace V8 := hid (V8.out.kept hk (by simpa using HNV9V8.out.symm))
      replace V9 := hid hbx
      replace V10 := hid (V10.out.kept hk (by simpa using HNV10V9.out))
      replace Na := hid (Na.out.kz hs)
      replace Nb := hid (Nb.out.kz hs)
      replace Ra := hid (Ra.out.kz hs)
      replace Rb := hid (Rb.out.kz hs)
      replace Q1 := hid (Q1.out.kz hs)
      replace Q2 := hid (Q2.out.kz hs)
      replace Q3 := hid (Q3.out.kz hs)
      replace Q4 := hid (Q4.out.kz hs)
      clear hk hs hbx
      refine WE.store2 (g := gV10) (x := .bool g4) (y := .slice A4 n4 c4) (t := 24) rfl rfl (by rfl) (fun w hb => ?_) V10.out (by rfl) fun ws hk hs => ?_
      · have c0 := hb.cell (o := 0) (v := .bool false) rfl; have f0 := hb.free 0; have c1 := hb.cell (o := 1) (v := .slice none 0 0) rfl; have f1 := hb.free 1; go_simp
      intro hbx
      replace E := hid (E.out.keptG hk HGV10.out)
      replace Ba := hid (Ba.out.kept hk (by simpa using HNV10Ba.out.symm))
      replace Bb := hid (Bb.out.kept hk (by simpa using HNV10Bb.out.symm))
      replace V7 := hid (V7.out.kept hk (by simpa using HNV10V7.out.symm))
      replace V8 := hid (V8.out.kept hk (by simpa using HNV10V8.out.symm))
      replace V9 := hid (V9.out.kept hk (by simpa using HNV10V9.out.symm))
      replace V10 := hid hbx
      replace Na := hid (Na.out.kz hs)
      replace Nb := hid (Nb.out.kz hs)
      replace Ra := hid (Ra.out.kz hs)
      replace Rb := hid (Rb.out.kz hs)
      replace Q1 := hid (Q1.out.kz hs)
      replace Q2 := hid (Q2.out.kz hs)
      replace Q3 := hid (Q3.out.kz hs)
      replace Q4 := hid (Q4.out.kz hs)
      clear hk hs hbx
      refine WE.done ?_
      go_upto_region 7 with (fail)
      refine wp_region_T [(0, 0), (1, 0), (2, 1), (3, 0), (4, 0), (5, 0), (6, 1), (7, 1), (8, 4), (9, 4)] (by kernel_rfl) fun wd hb => ?_
      replace E := hid (E.out.trans hb)
      replace Ba := hid (Ba.out.up hb)
      replace Bb := hid (Bb.out.up hb)
      replace V7 := hid (V7.out.up hb)
      replace V8 := hid (V8.out.up hb)
      replace V9 := hid (V9.out.up hb)
      replace V10 := hid (V10.out.up hb)
      replace Na := hid (Na.out.up hb)
      replace Nb := hid (Nb.out.up hb)
      replace Ra := hid (Ra.out.up hb)
      replace Rb := hid (Rb.out.up hb)
      replace Q1 := hid (Q1.out.up hb)
      replace Q2 := hid (Q2.out.up hb)
      replace Q3 := hid (Q3.out.up hb)
      replace Q4 := hid (Q4.out.up hb)
      clear hb
      refine WE.pure (d := some 42) rfl rfl (by rfl) (v := (.agg #[.bool ga, .slice Aa na ca])) (fun w' hk => ?_) ?_
      · have c0 := hk.cell (Ba.out.cell (o := 0) (v := .bool ga) rfl); have c1 := hk.cell (Ba.out.cell (o := 1) (v := .slice Aa na ca) rfl); go_simp
      simp only [Act.put, List.setIfInBounds_toArray, List.set_cons_zero, List.set_cons_succ]
      refine WE.pure (d := some 43) rfl rfl (by rfl) (v := (.agg #[.bool gb, .slice Ab nb cb])) (fun w' hk => ?_) ?_
      · have c0 := hk.cell (Bb.out.cell (o := 0) (v := .bool gb) rfl); have c1 := hk.cell (Bb.out.cell (o := 1) (v := .slice Ab nb cb) rfl); go_simp
      simp only [Act.put, List.setIfInBounds_toArray, List.set_cons_zero, List.set_cons_succ]
      refine WE.call (d := some 44) rfl rfl (by rfl) (f := 8) (args := #[(.agg #[.bool ga, .slice Aa na ca]), (.agg #[.bool gb, .slice Ab nb cb])]) (by go_simp) ?_
      refine (euclid_w Ra.out Rb.out (by omega) (by omega)).mono ?_
      rintro e wn ⟨v1, v2, rfl, x1, x2, hb⟩
      obtain ⟨g5, A5, n5, c5, rfl⟩ := x1.shape
      obtain ⟨g6, A6, n6, c6, rfl⟩ := x2.shape
      refine ⟨_, rfl, hb, ?_⟩
      replace E := hid (E.out.trans hb)
      replace Ba := hid (Ba.out.up hb)
      replace Bb := hid (Bb.out.up hb)
      replace V7 := hid (V7.out.up hb)
      replace V8 := hid (V8.out.up hb)
      replace V9 := hid (V9.out.up hb)
      replace V10 := hid (V10.out.up hb)
      replace Na := hid (Na.out.up hb)
      replace Nb := hid (Nb.out.up hb)
      replace Ra := hid (Ra.out.up hb)
      replace Rb := hid (Rb.out.up hb)
      replace Q1 := hid (Q1.out.up hb)
      replace Q2 := hid (Q2.out.up hb)
      replace Q3 := hid (Q3.out.up hb)
      replace Q4 := hid (Q4.out.up hb)
      have Q5 := hid x1
      have Q6 := hid x2
      clear hb x1 x2
      simp only [Act.put, List.setIfInBounds_toArray, List.set_cons_zero, List.set_cons_succ]
      refine WE.pure (d := some 41) rfl rfl (by rfl) (v := (.tuple #[(.agg #[.bool g5, .slice A5 n5 c5]), (.agg #[.bool g6, .slice A6 n6 c6])])) (fun w' hk => ?_) ?_
      · go_simp
      simp only [Act.put, List.setIfInBounds_toArray, List.set_cons_zero, List.set_cons_succ]
      refine WE.pure (d := some 45) rfl rfl (by rfl) (v := (.agg #[.bool g5, .slice A5 n5 c5])) (fun w' hk => ?_) ?_
      · go_simp
      simp only [Act.put, List.setIfInBounds_toArray, List.set_cons_zero, List.set_cons_succ]
      as_aux_lemma =>
        refine WE.pure (d := some 46) rfl rfl (by rfl) (v := (.agg #[.bool g6, .slice A6 n6 c6])) (fun w' hk => ?_) ?_
        · go_simp
        simp only [Act.put, List.setIfInBounds_toArray, List.set_cons_zero, List.set_cons_succ]
        refine WE.new (d := some 11) (cs := #[.bool false, .slice none 0 0]) (t := 24) (v := fun g => (.pointer (some ⟨g, 0, none⟩))) rfl rfl (by rfl) (fun w => by go_simp) fun gV11 wv hx0 hbox hge => ?_
        have HNV11Ba := hid (show gV11 ≠ (W.heap.size) by have := Ba.out.lt; omega)
        have HNV11Bb := hid (show gV11 ≠ (W.heap.size + 1) by have := Bb.out.lt; omega)
        have HNV11V7 := hid (show gV11 ≠ gV7 by have := V7.out.lt; omega)
        have HNV11V8 := hid (show gV11 ≠ gV8 by have := V8.out.lt; omega)
        have HNV11V9 := hid (show gV11 ≠ gV9 by have := V9.out.lt; omega)
        have HNV11V10 := hid (show gV11 ≠ gV10 by have := V10.out.lt; omega)
        have HGV11 := hid (show W.heap.size ≤ gV11 by have := E.out.size; omega)
        replace E := hid (E.out.trans hx0)
        replace Ba := hid (Ba.out.up hx0)
        replace Bb := hid (Bb.out.up hx0)
        replace V7 := hid (V7.out.up hx0)
        replace V8 := hid (V8.out.up hx0)
        replace V9 := hid (V9.out.up hx0)
        replace V10 := hid (V10.out.up hx0)
        replace Na := hid (Na.out.up hx0)
        replace Nb := hid (Nb.out.up hx0)
        replace Ra := hid (Ra.out.up hx0)
        replace Rb := hid (Rb.out.up hx0)
        replace Q1 := hid (Q1.out.up hx0)
        replace Q2 := hid (Q2.out.up hx0)
        replace Q3 := hid (Q3.out.up hx0)
        replace Q4 := hid (Q4.out.up hx0)
        replace Q5 := hid (Q5.out.up hx0)
        replace Q6 := hid (Q6.out.up hx0)
        have V11 : Hid (Box wv gV11 #[.bool false, .slice none 0 0] 24) := hid hbox
        clear hx0 hbox hge
        simp only [Act.put, List.setIfInBounds_toArray, List.set_cons_zero, List.set_cons_succ]
        refine WE.new (d := some 12) (cs := #[.bool false, .slice none 0 0]) (t := 24) (v := fun g => (.pointer (some ⟨g, 0, none⟩))) rfl rfl (by rfl) (fun w => by go_simp) fun gV12 wv hx0 hbox hge => ?_
        have HNV12Ba := hid (show gV12 ≠ (W.heap.size) by have := Ba.out.lt; omega)
        have HNV12Bb := hid (show gV12 ≠ (W.heap.size + 1) by have := Bb.out.lt; omega)
        have HNV12V7 := hid (show gV12 ≠ gV7 by have := V7.out.lt; omega)
        have HNV12V8 := hid (show gV12 ≠ gV8 by have := V8.out.lt; omega)
        have HNV12V9 := hid (show gV12 ≠ gV9 by have := V9.out.lt; omega)
        have HNV12V10 := hid (show gV12 ≠ gV10 by have := V10.out.lt; omega)
        have HNV12V11 := hid (show gV12 ≠ gV11 by have := V11.out.lt; omega)
        have HGV12 := hid (show W.heap.size ≤ gV12 by have := E.out.size; omega)
        replace E := hid (E.out.trans hx0)
        replace Ba := hid (Ba.out.up hx0)
        replace Bb := hid (Bb.out.up hx0)
        replace V7 := hid (V7.out.up hx0)
        replace V8 := hid (V8.out.up hx0)
        replace V9 := hid (V9.out.up hx0)
        replace V10 := hid (V10.out.up hx0)
        replace V11 := hid (V11.out.up hx0)
        replace Na := hid (Na.out.up hx0)
        replace Nb := hid (Nb.out.up hx0)
        replace Ra := hid (Ra.out.up hx0)
        replace Rb := hid (Rb.out.up hx0)
        replace Q1 := hid (Q1.out.up hx0)
        replace Q2 := hid (Q2.out.up hx0)
        replace Q3 := hid (Q3.out.up hx0)
        replace Q4 := hid (Q4.out.up hx0)
        replace Q5 := hid (Q5.out.up hx0)
        replace Q6 := hid (Q6.out.up hx0)
        have V12 : Hid (Box wv gV12 #[.bool false, .slice none 0 0] 24) := hid hbox
        clear hx0 hbox hge
        simp only [Act.put, List.setIfInBounds_toArray, List.set_cons_zero, List.set_cons_succ]
        refine WE.store2 (g := gV11) (x := .bool g5) (y := .slice A5 n5 c5) (t := 24) rfl rfl (by rfl) (fun w hb => ?_) V11.out (by rfl) fun ws hk hs => ?_
        · have c0 := hb.cell (o := 0) (v := .bool false) rfl; have f0 := hb.free 0; have c1 := hb.cell (o := 1) (v := .slice none 0 0) rfl; have f1 := hb.free 1; go_simp
        intro hbx
        replace E := hid (E.out.keptG hk HGV11.out)
        replace Ba := hid (Ba.out.kept hk (by simpa using HNV11Ba.out.symm))
        replace Bb := hid (Bb.out.kept hk (by simpa using HNV11Bb.out.symm))
        replace V7 := hid (V7.out.kept hk (by simpa using HNV11V7.out.symm))
        replace V8 := hid (V8.out.kept hk (by simpa using HNV11V8.out.symm))
        replace V9 := hid (V9.out.kept hk (by simpa using HNV11V9.out.symm))
        replace V10 := hid (V10.out.kept hk (by simpa using HNV11V10.out.symm))
        replace V11 := hid hbx
        replace V12 := hid (V12.out.kept hk (by simpa using HNV12V11.out))
        replace Na := hid (Na.out.kz hs)
        replace Nb := hid (Nb.out.kz hs)
        replace Ra := hid (Ra.out.kz hs)
        replace Rb := hid (Rb.out.kz hs)
        replace Q1 := hid (Q1.out.kz hs)
        replace Q2 := hid (Q2.out.kz hs)
        replace Q3 := hid (Q3.out.kz hs)
        replace Q4 := hid (Q4.out.kz hs)
        replace Q5 := hid (Q5.out.kz hs)
        replace Q6 := hid (Q6.out.kz hs)
        clear hk hs hbx
        refine WE.store2 (g := gV12) (x := .bool g6) (y := .slice A6 n6 c6) (t := 24) rfl rfl (by rfl) (fun w hb => ?_) V12.out (by rfl) fun ws hk hs => ?_
        · have c0 := hb.cell (o := 0) (v := .bool false) rfl; have f0 := hb.free 0; have c1 := hb.cell (o := 1) (v := .slice none 0 0) rfl; have f1 := hb.free 1; go_simp
        intro hbx
        replace E := hid (E.out.keptG hk HGV12.out)
        replace Ba := hid (Ba.out.kept hk (by simpa using HNV12Ba.out.symm))
        replace Bb := hid (Bb.out.kept hk (by simpa using HNV12Bb.out.symm))
        replace V7 := hid (V7.out.kept hk (by simpa using HNV12V7.out.symm))
        replace V8 := hid (V8.out.kept hk (by simpa using HNV12V8.out.symm))
        replace V9 := hid (V9.out.kept hk (by simpa using HNV12V9.out.symm))
        replace V10 := hid (V10.out.kept hk (by simpa using HNV12V10.out.symm))
        replace V11 := hid (V11.out.kept hk (by simpa using HNV12V11.out.symm))
        replace V12 := hid hbx
        replace Na := hid (Na.out.kz hs)
        replace Nb := hid (Nb.out.kz hs)
        replace Ra := hid (Ra.out.kz hs)
        replace Rb := hid (Rb.out.kz hs)
        replace Q1 := hid (Q1.out.kz hs)
        replace Q2 := hid (Q2.out.kz hs)
        replace Q3 := hid (Q3.out.kz hs)
        replace Q4 := hid (Q4.out.kz hs)
        replace Q5 := hid (Q5.out.kz hs)
        replace Q6 := hid (Q6.out.kz hs)
        clear hk hs hbx
        refine WE.done ?_
        go_upto_region 8 with (fail)
        refine wp_region_T [(0, 0), (1, 0), (2, 1), (3, 0), (4, 0), (5, 0), (6, 1), (7, 1), (8, 4), (9, 4)] (by kernel_rfl) fun wd hb => ?_
        replace E := hid (E.out.trans hb)
        replace Ba := hid (Ba.out.up hb)
        replace Bb := hid (Bb.out.up hb)
        replace V7 := hid (V7.out.up hb)
        replace V8 := hid (V8.out.up hb)
        replace V9 := hid (V9.out.up hb)
        replace V10 := hid (V10.out.up hb)
        replace V11 := hid (V11.out.up hb)
        replace V12 := hid (V12.out.up hb)
        replace Na := hid (Na.out.up hb)
        replace Nb := hid (Nb.out.up hb)
        replace Ra := hid (Ra.out.up hb)
        replace Rb := hid (Rb.out.up hb)
        replace Q1 := hid (Q1.out.up hb)
        replace Q2 := hid (Q2.out.up hb)
        replace Q3 := hid (Q3.out.up hb)
        replace Q4 := hid (Q4.out.up hb)
        replace Q5 := hid (Q5.out.up hb)
        replace Q6 := hid (Q6.out.up hb)
        clear hb
        refine WE.pure (d := some 48) rfl rfl (by rfl) (v := (.agg #[.bool ga, .slice Aa na ca])) (fun w' hk => ?_) ?_
        · have c0 := hk.cell (Ba.out.cell (o := 0) (v := .bool ga) rfl); have c1 := hk.cell (Ba.out.cell (o := 1) (v := .slice Aa na ca) rfl); go_simp
        simp only [Act.put, List.setIfInBounds_toArray, List.set_cons_zero, List.set_cons_succ]
        refine WE.pure (d := some 49) rfl rfl (by rfl) (v := (.agg #[.bool gb, .slice Ab nb cb])) (fun w' hk => ?_) ?_
        · have c0 := hk.cell (Bb.out.cell (o := 0) (v := .bool gb) rfl); have c1 := hk.cell (Bb.out.cell (o := 1) (v := .slice Ab nb cb) rfl); go_simp
        simp only [Act.put, List.setIfInBounds_toArray, List.set_cons_zero, List.set_cons_succ]
        refine WE.call (d := some 50) rfl rfl (by rfl) (f := 9) (args := #[(.agg #[.bool ga, .slice Aa na ca]), (.agg #[.bool gb, .slice Ab nb cb])]) (by go_simp) ?_
        refine (rEuclid_w Ra.out Rb.out (by omega) (by omega)).mono ?_
        rintro e wn ⟨v1, v2, rfl, x1, x2, hb⟩
        obtain ⟨g7, A7, n7, c7, rfl⟩ := x1.shape
        obtain ⟨g8, A8, n8, c8, rfl⟩ := x2.shape
        refine ⟨_, rfl, hb, ?_⟩
        replace E := hid (E.out.trans hb)
        replace Ba := hid (Ba.out.up hb)
        replace Bb := hid (Bb.out.up hb)
        replace V7 := hid (V7.out.up hb)
        replace V8 := hid (V8.out.up hb)
        replace V9 := hid (V9.out.up hb)
        replace V10 := hid (V10.out.up hb)
        replace V11 := hid (V11.out.up hb)
        replace V12 := hid (V12.out.up hb)
        replace Na := hid (Na.out.up hb)
        replace Nb := hid (Nb.out.up hb)
        replace Ra := hid (Ra.out.up hb)
        replace Rb := hid (Rb.out.up hb)
        replace Q1 := hid (Q1.out.up hb)
        replace Q2 := hid (Q2.out.up hb)
        replace Q3 := hid (Q3.out.up hb)
        replace Q4 := hid (Q4.out.up hb)
        replace Q5 := hid (Q5.out.up hb)
        replace Q6 := hid (Q6.out.up hb)
        have Q7 := hid x1
        have Q8 := hid x2
        clear hb x1 x2
        simp only [Act.put, List.setIfInBounds_toArray, List.set_cons_zero, List.set_cons_succ]
        refine WE.pure (d := some 47) rfl rfl (by rfl) (v := (.tuple #[(.agg #[.bool g7, .slice A7 n7 c7]), (.agg #[.bool g8, .slice A8 n8 c8])])) (fun w' hk => ?_) ?_
        · go_simp
        simp only [Act.put, List.setIfInBounds_toArray, List.set_cons_zero, List.set_cons_succ]
        refine WE.pure (d := some 51) rfl rfl (by rfl) (v := (.agg #[.bool g7, .slice A7 n7 c7])) (fun w' hk => ?_) ?_
        · go_simp
        simp only [Act.put, List.setIfInBounds_toArray, List.set_cons_zero, List.set_cons_succ]
        refine WE.pure (d := some 52) rfl rfl (by rfl) (v := (.agg #[.bool g8, .slice A8 n8 c8])) (fun w' hk => ?_) ?_
        · go_simp
        simp only [Act.put, List.setIfInBounds_toArray, List.set_cons_zero, List.set_cons_succ]
        refine WE.new (d := some 13) (cs := #[.bool false, .slice none 0 0]) (t := 24) (v := fun g => (.pointer (some ⟨g, 0, none⟩))) rfl rfl (by rfl) (fun w => by go_simp) fun gV13 wv hx0 hbox hge => ?_
        have HNV13Ba := hid (show gV13 ≠ (W.heap.size) by have := Ba.out.lt; omega)
        have HNV13Bb := hid (show gV13 ≠ (W.heap.size + 1) by have := Bb.out.lt; omega)
        have HNV13V7 := hid (show gV13 ≠ gV7 by have := V7.out.lt; omega)
        have HNV13V8 := hid (show gV13 ≠ gV8 by have := V8.out.lt; omega)
        have HNV13V9 := hid (show gV13 ≠ gV9 by have := V9.out.lt; omega)
        have HNV13V10 := hid (show gV13 ≠ gV10 by have := V10.out.lt; omega)
        have HNV13V11 := hid (show gV13 ≠ gV11 by have := V11.out.lt; omega)
        have HNV13V12 := hid (show gV13 ≠ gV12 by have := V12.out.lt; omega)
        have HGV13 := hid (show W.heap.size ≤ gV13 by have := E.out.size; omega)
        replace E := hid (E.out.trans hx0)
        replace Ba := hid (Ba.out.up hx0)
        replace Bb := hid (Bb.out.up hx0)
        replace V7 := hid (V7.out.up hx0)
        replace V8 := hid (V8.out.up hx0)
        replace V9 := hid (V9.out.up hx0)
        replace V10 := hid (V10.out.up hx0)
        replace V11 := hid (V11.out.up hx0)
        replace V12 := hid (V12.out.up hx0)
        replace Na := hid (Na.out.up hx0)
        replace Nb := hid (Nb.out.up hx0)
        replace Ra := hid (Ra.out.up hx0)
        replace Rb := hid (Rb.out.up hx0)
        replace Q1 := hid (Q1.out.up hx0)
        replace Q2 := hid (Q2.out.up hx0)
        replace Q3 := hid (Q3.out.up hx0)
        replace Q4 := hid (Q4.out.up hx0)
        replace Q5 := hid (Q5.out.up hx0)
        replace Q6 := hid (Q6.out.up hx0)
        replace Q7 := hid (Q7.out.up hx0)
        replace Q8 := hid (Q8.out.up hx0)
        have V13 : Hid (Box wv gV13 #[.bool false, .slice none 0 0] 24) := hid hbox
        clear hx0 hbox hge
        simp only [Act.put, List.setIfInBounds_toArray, List.set_cons_zero, List.set_cons_succ]
        as_aux_lemma =>
          refine WE.new (d := some 14) (cs := #[.bool false, .slice none 0 0]) (t := 24) (v := fun g => (.pointer (some ⟨g, 0, none⟩))) rfl rfl (by rfl) (fun w => by go_simp) fun gV14 wv hx0 hbox hge => ?_
          have HNV14Ba := hid (show gV14 ≠ (W.heap.size) by have := Ba.out.lt; omega)
          have HNV14Bb := hid (show gV14 ≠ (W.heap.size + 1) by have := Bb.out.lt; omega)
          have HNV14V7 := hid (show gV14 ≠ gV7 by have := V7.out.lt; omega)
          have HNV14V8 := hid (show gV14 ≠ gV8 by have := V8.out.lt; omega)
          have HNV14V9 := hid (show gV14 ≠ gV9 by have := V9.out.lt; omega)
          have HNV14V10 := hid (show gV14 ≠ gV10 by have := V10.out.lt; omega)
          have HNV14V11 := hid (show gV14 ≠ gV11 by have := V11.out.lt; omega)
          have HNV14V12 := hid (show gV14 ≠ gV12 by have := V12.out.lt; omega)
          have HNV14V13 := hid (show gV14 ≠ gV13 by have := V13.out.lt; omega)
          have HGV14 := hid (show W.heap.size ≤ gV14 by have := E.out.size; omega)
          replace E := hid (E.out.trans hx0)
          replace Ba := hid (Ba.out.up hx0)
          replace Bb := hid (Bb.out.up hx0)
          replace V7 := hid (V7.out.up hx0)
          replace V8 := hid (V8.out.up hx0)
          replace V9 := hid (V9.out.up hx0)
          replace V10 := hid (V10.out.up hx0)
          replace V11 := hid (V11.out.up hx0)
          replace V12 := hid (V12.out.up hx0)
          replace V13 := hid (V13.out.up hx0)
          replace Na := hid (Na.out.up hx0)
          replace Nb := hid (Nb.out.up hx0)
          replace Ra := hid (Ra.out.up hx0)
          replace Rb := hid (Rb.out.up hx0)
          replace Q1 := hid (Q1.out.up hx0)
          replace Q2 := hid (Q2.out.up hx0)
          replace Q3 := hid (Q3.out.up hx0)
          replace Q4 := hid (Q4.out.up hx0)
          replace Q5 := hid (Q5.out.up hx0)
          replace Q6 := hid (Q6.out.up hx0)
          replace Q7 := hid (Q7.out.up hx0)
          replace Q8 := hid (Q8.out.up hx0)
          have V14 : Hid (Box wv gV14 #[.bool false, .slice none 0 0] 24) := hid hbox
          clear hx0 hbox hge
          simp only [Act.put, List.setIfInBounds_toArray, List.set_cons_zero, List.set_cons_succ]
          refine WE.store2 (g := gV13) (x := .bool g7) (y := .slice A7 n7 c7) (t := 24) rfl rfl (by rfl) (fun w hb => ?_) V13.out (by rfl) fun ws hk hs => ?_
          · have c0 := hb.cell (o := 0) (v := .bool false) rfl; have f0 := hb.free 0; have c1 := hb.cell (o := 1) (v := .slice none 0 0) rfl; have f1 := hb.free 1; go_simp
          intro hbx
          replace E := hid (E.out.keptG hk HGV13.out)
          replace Ba := hid (Ba.out.kept hk (by simpa using HNV13Ba.out.symm))
          replace Bb := hid (Bb.out.kept hk (by simpa using HNV13Bb.out.symm))
          replace V7 := hid (V7.out.kept hk (by simpa using HNV13V7.out.symm))
          replace V8 := hid (V8.out.kept hk (by simpa using HNV13V8.out.symm))
          replace V9 := hid (V9.out.kept hk (by simpa using HNV13V9.out.symm))
          replace V10 := hid (V10.out.kept hk (by simpa using HNV13V10.out.symm))
          replace V11 := hid (V11.out.kept hk (by simpa using HNV13V11.out.symm))
          replace V12 := hid (V12.out.kept hk (by simpa using HNV13V12.out.symm))
          replace V13 := hid hbx
          replace V14 := hid (V14.out.kept hk (by simpa using HNV14V13.out))
          replace Na := hid (Na.out.kz hs)
          replace Nb := hid (Nb.out.kz hs)
          replace Ra := hid (Ra.out.kz hs)
          replace Rb := hid (Rb.out.kz hs)
          replace Q1 := hid (Q1.out.kz hs)
          replace Q2 := hid (Q2.out.kz hs)
          replace Q3 := hid (Q3.out.kz hs)
          replace Q4 := hid (Q4.out.kz hs)
          replace Q5 := hid (Q5.out.kz hs)
          replace Q6 := hid (Q6.out.kz hs)
          replace Q7 := hid (Q7.out.kz hs)
          replace Q8 := hid (Q8.out.kz hs)
          clear hk hs hbx
          refine WE.store2 (g := gV14) (x := .bool g8) (y := .slice A8 n8 c8) (t := 24) rfl rfl (by rfl) (fun w hb => ?_) V14.out (by rfl) fun ws hk hs => ?_
          · have c0 := hb.cell (o := 0) (v := .bool false) rfl; have f0 := hb.free 0; have c1 := hb.cell (o := 1) (v := .slice none 0 0) rfl; have f1 := hb.free 1; go_simp
          intro hbx
          replace E := hid (E.out.keptG hk HGV14.out)
          replace Ba := hid (Ba.out.kept hk (by simpa using HNV14Ba.out.symm))
          replace Bb := hid (Bb.out.kept hk (by simpa using HNV14Bb.out.symm))
          replace V7 := hid (V7.out.kept hk (by simpa using HNV14V7.out.symm))
          replace V8 := hid (V8.out.kept hk (by simpa using HNV14V8.out.symm))
          replace V9 := hid (V9.out.kept hk (by simpa using HNV14V9.out.symm))
          replace V10 := hid (V10.out.kept hk (by simpa using HNV14V10.out.symm))
          replace V11 := hid (V11.out.kept hk (by simpa using HNV14V11.out.symm))
          replace V12 := hid (V12.out.kept hk (by simpa using HNV14V12.out.symm))
          replace V13 := hid (V13.out.kept hk (by simpa using HNV14V13.out.symm))
          replace V14 := hid hbx
          replace Na := hid (Na.out.kz hs)
          replace Nb := hid (Nb.out.kz hs)
          replace Ra := hid (Ra.out.kz hs)
          replace Rb := hid (Rb.out.kz hs)
          replace Q1 := hid (Q1.out.kz hs)
          replace Q2 := hid (Q2.out.kz hs)
          replace Q3 := hid (Q3.out.kz hs)
          replace Q4 := hid (Q4.out.kz hs)
          replace Q5 := hid (Q5.out.kz hs)
          replace Q6 := hid (Q6.out.kz hs)
          replace Q7 := hid (Q7.out.kz hs)
          replace Q8 := hid (Q8.out.kz hs)
          clear hk hs hbx
          refine WE.done ?_
          go_upto_region 9 with (fail)
          refine wp_region_T [(0, 0), (1, 1), (2, 0), (3, 0), (4, 0), (5, 0), (6, 0)] (by kernel_rfl) fun wd hb => ?_
          replace E := hid (E.out.trans hb)
          replace Ba := hid (Ba.out.up hb)
          replace Bb := hid (Bb.out.up hb)
          replace V7 := hid (V7.out.up hb)
          replace V8 := hid (V8.out.up hb)
          replace V9 := hid (V9.out.up hb)
          replace V10 := hid (V10.out.up hb)
          replace V11 := hid (V11.out.up hb)
          replace V12 := hid (V12.out.up hb)
          replace V13 := hid (V13.out.up hb)
          replace V14 := hid (V14.out.up hb)
          replace Na := hid (Na.out.up hb)
          replace Nb := hid (Nb.out.up hb)
          replace Ra := hid (Ra.out.up hb)
          replace Rb := hid (Rb.out.up hb)
          replace Q1 := hid (Q1.out.up hb)
          replace Q2 := hid (Q2.out.up hb)
          replace Q3 := hid (Q3.out.up hb)
          replace Q4 := hid (Q4.out.up hb)
          replace Q5 := hid (Q5.out.up hb)
          replace Q6 := hid (Q6.out.up hb)
          replace Q7 := hid (Q7.out.up hb)
          replace Q8 := hid (Q8.out.up hb)
          clear hb
          refine WE.pure (d := some 54) rfl rfl (by rfl) (v := (.agg #[.bool ga, .slice Aa na ca])) (fun w' hk => ?_) ?_
          · have c0 := hk.cell (Ba.out.cell (o := 0) (v := .bool ga) rfl); have c1 := hk.cell (Ba.out.cell (o := 1) (v := .slice Aa na ca) rfl); go_simp
          simp only [Act.put, List.setIfInBounds_toArray, List.set_cons_zero, List.set_cons_succ]
          refine WE.call (d := some 55) rfl rfl (by rfl) (f := 10) (args := #[(.agg #[.bool ga, .slice Aa na ca])]) (by go_simp) ?_
          refine (small_yes Ra.out (hcond.out)).mono ?_
          rintro e wn ⟨rfl, hb⟩
          refine ⟨_, rfl, hb, ?_⟩
          replace E := hid (E.out.trans hb)
          replace Ba := hid (Ba.out.up hb)
          replace Bb := hid (Bb.out.up hb)
          replace V7 := hid (V7.out.up hb)
          replace V8 := hid (V8.out.up hb)
          replace V9 := hid (V9.out.up hb)
          replace V10 := hid (V10.out.up hb)
          replace V11 := hid (V11.out.up hb)
          replace V12 := hid (V12.out.up hb)
          replace V13 := hid (V13.out.up hb)
          replace V14 := hid (V14.out.up hb)
          replace Na := hid (Na.out.up hb)
          replace Nb := hid (Nb.out.up hb)
          replace Ra := hid (Ra.out.up hb)
          replace Rb := hid (Rb.out.up hb)
          replace Q1 := hid (Q1.out.up hb)
          replace Q2 := hid (Q2.out.up hb)
          replace Q3 := hid (Q3.out.up hb)
          replace Q4 := hid (Q4.out.up hb)
          replace Q5 := hid (Q5.out.up hb)
          replace Q6 := hid (Q6.out.up hb)
          replace Q7 := hid (Q7.out.up hb)
          replace Q8 := hid (Q8.out.up hb)
          clear hb
          simp only [Act.put, List.setIfInBounds_toArray, List.set_cons_zero, List.set_cons_succ]
          refine WE.pure (d := some 53) rfl rfl (by rfl) (v := (.tuple #[(.int .i64 x), (.bool true)])) (fun w' hk => ?_) ?_
          · go_simp
          simp only [Act.put, List.setIfInBounds_toArray, List.set_cons_zero, List.set_cons_succ]
          refine WE.pure (d := some 56) rfl rfl (by rfl) (v := (.int .i64 x)) (fun w' hk => ?_) ?_
          · go_simp
          simp only [Act.put, List.setIfInBounds_toArray, List.set_cons_zero, List.set_cons_succ]
          refine WE.pure (d := some 57) rfl rfl (by rfl) (v := (.bool true)) (fun w' hk => ?_) ?_
          · go_simp
          simp only [Act.put, List.setIfInBounds_toArray, List.set_cons_zero, List.set_cons_succ]
          refine WE.pure (d := some 15) rfl rfl (by rfl) (v := (.int .i64 x)) (fun w' hk => ?_) ?_
          · go_simp
          simp only [Act.put, List.setIfInBounds_toArray, List.set_cons_zero, List.set_cons_succ]
          refine WE.pure (d := some 16) rfl rfl (by rfl) (v := (.bool true)) (fun w' hk => ?_) ?_
          · go_simp
          simp only [Act.put, List.setIfInBounds_toArray, List.set_cons_zero, List.set_cons_succ]
          refine WE.done ?_
          go_upto_region 10 with (fail)
          refine wp_region_T [(0, 0), (1, 1), (2, 0), (3, 0), (4, 0), (5, 0), (6, 0)] (by kernel_rfl) fun wd hb => ?_
          replace E := hid (E.out.trans hb)
          replace Ba := hid (Ba.out.up hb)
          replace Bb := hid (Bb.out.up hb)
          replace V7 := hid (V7.out.up hb)
          replace V8 := hid (V8.out.up hb)
          replace V9 := hid (V9.out.up hb)
          replace V10 := hid (V10.out.up hb)
          replace V11 := hid (V11.out.up hb)
          replace V12 := hid (V12.out.up hb)
          replace V13 := hid (V13.out.up hb)
          replace V14 := hid (V14.out.up hb)
          replace Na := hid (Na.out.up hb)
          replace Nb := hid (Nb.out.up hb)
          replace Ra := hid (Ra.out.up hb)
          replace Rb := hid (Rb.out.up hb)
          replace Q1 := hid (Q1.out.up hb)
          replace Q2 := hid (Q2.out.up hb)
          replace Q3 := hid (Q3.out.up hb)
          replace Q4 := hid (Q4.out.up hb)
          replace Q5 := hid (Q5.out.up hb)
          replace Q6 := hid (Q6.out.up hb)
          replace Q7 := hid (Q7.out.up hb)
          replace Q8 := hid (Q8.out.up hb)
          clear hb
          refine WE.pure (d := some 59) rfl rfl (by rfl) (v := (.agg #[.bool ga, .slice Aa na ca])) (fun w' hk => ?_) ?_
          · have c0 := hk.cell (Ba.out.cell (o := 0) (v := .bool ga) rfl); have c1 := hk.cell (Ba.out.cell (o := 1) (v := .slice Aa na ca) rfl); go_simp
          simp only [Act.put, List.setIfInBounds_toArray, List.set_cons_zero, List.set_cons_succ]
          refine WE.call (d := some 60) rfl rfl (by rfl) (f := 11) (args := #[(.agg #[.bool ga, .slice Aa na ca])]) (by go_simp) ?_
          refine (rSmall_yes Ra.out (hcond.out)).mono ?_
          rintro e wn ⟨rfl, hb⟩
          refine ⟨_, rfl, hb, ?_⟩
          replace E := hid (E.out.trans hb)
          replace Ba := hid (Ba.out.up hb)
          replace Bb := hid (Bb.out.up hb)
          replace V7 := hid (V7.out.up hb)
          replace V8 := hid (V8.out.up hb)
          replace V9 := hid (V9.out.up hb)
          replace V10 := hid (V10.out.up hb)
          replace V11 := hid (V11.out.up hb)
          replace V12 := hid (V12.out.up hb)
          replace V13 := hid (V13.out.up hb)
          replace V14 := hid (V14.out.up hb)
          replace Na := hid (Na.out.up hb)
          replace Nb := hid (Nb.out.up hb)
          replace Ra := hid (Ra.out.up hb)
          replace Rb := hid (Rb.out.up hb)
          replace Q1 := hid (Q1.out.up hb)
          replace Q2 := hid (Q2.out.up hb)
          replace Q3 := hid (Q3.out.up hb)
          replace Q4 := hid (Q4.out.up hb)
          replace Q5 := hid (Q5.out.up hb)
          replace Q6 := hid (Q6.out.up hb)
          replace Q7 := hid (Q7.out.up hb)
          replace Q8 := hid (Q8.out.up hb)
          clear hb
          simp only [Act.put, List.setIfInBounds_toArray, List.set_cons_zero, List.set_cons_succ]
          as_aux_lemma =>
            refine WE.pure (d := some 58) rfl rfl (by rfl) (v := (.tuple #[(.int .i64 x), (.bool true)])) (fun w' hk => ?_) ?_
            · go_simp
            simp only [Act.put, List.setIfInBounds_toArray, List.set_cons_zero, List.set_cons_succ]
            refine WE.pure (d := some 61) rfl rfl (by rfl) (v := (.int .i64 x)) (fun w' hk => ?_) ?_
            · go_simp
            simp only [Act.put, List.setIfInBounds_toArray, List.set_cons_zero, List.set_cons_succ]
            refine WE.pure (d := some 62) rfl rfl (by rfl) (v := (.bool true)) (fun w' hk => ?_) ?_
            · go_simp
            simp only [Act.put, List.setIfInBounds_toArray, List.set_cons_zero, List.set_cons_succ]
            refine WE.pure (d := some 17) rfl rfl (by rfl) (v := (.int .i64 x)) (fun w' hk => ?_) ?_
            · go_simp
            simp only [Act.put, List.setIfInBounds_toArray, List.set_cons_zero, List.set_cons_succ]
            refine WE.pure (d := some 18) rfl rfl (by rfl) (v := (.bool true)) (fun w' hk => ?_) ?_
            · go_simp
            simp only [Act.put, List.setIfInBounds_toArray, List.set_cons_zero, List.set_cons_succ]
            refine WE.done ?_
            go_upto_region 11 with (fail)
            refine wp_region_E [(0, 0), (2, 0), (1, 1), (3, 1), (4, 0), (5, 0), (6, 0), (8, 0), (7, 1), (9, 1), (10, 1), (11, 0), (12, 0), (13, 0), (14, 0), (15, 0), (16, 0), (17, 0), (18, 0), (19, 0), (20, 0), (21, 0), (22, 0), (23, 0), (24, 0), (26, 0), (25, 1), (27, 1), (28, 0), (29, 0), (30, 0), (31, 0), (32, 0), (34, 0), (35, 0), (33, 1), (36, 1), (37, 0), (38, 0), (39, 0), (40, 0), (41, 0), (43, 0), (44, 0), (42, 1), (45, 1), (46, 0), (47, 0)] (fun _ => (0, #[])) rfl (by kernel_rfl) (by intro j hj; cases hj) (fun _ _ d _ _ => by cases d <;> exact Iff.rfl) fun wd hb => ?_
            replace E := hid (E.out.trans hb)
            replace Ba := hid (Ba.out.up hb)
            replace Bb := hid (Bb.out.up hb)
            replace V7 := hid (V7.out.up hb)
            replace V8 := hid (V8.out.up hb)
            replace V9 := hid (V9.out.up hb)
            replace V10 := hid (V10.out.up hb)
            replace V11 := hid (V11.out.up hb)
            replace V12 := hid (V12.out.up hb)
            replace V13 := hid (V13.out.up hb)
            replace V14 := hid (V14.out.up hb)
            replace Na := hid (Na.out.up hb)
            replace Nb := hid (Nb.out.up hb)
            replace Ra := hid (Ra.out.up hb)
            replace Rb := hid (Rb.out.up hb)
            replace Q1 := hid (Q1.out.up hb)
            replace Q2 := hid (Q2.out.up hb)
            replace Q3 := hid (Q3.out.up hb)
            replace Q4 := hid (Q4.out.up hb)
            replace Q5 := hid (Q5.out.up hb)
            replace Q6 := hid (Q6.out.up hb)
            replace Q7 := hid (Q7.out.up hb)
            replace Q8 := hid (Q8.out.up hb)
            clear hb
            refine WE.pure (d := some 63) rfl rfl (by rfl) (v := (.agg #[.bool ga, .slice Aa na ca])) (fun w' hk => ?_) ?_
            · have c0 := hk.cell (Ba.out.cell (o := 0) (v := .bool ga) rfl); have c1 := hk.cell (Ba.out.cell (o := 1) (v := .slice Aa na ca) rfl); go_simp
            simp only [Act.put, List.setIfInBounds_toArray, List.set_cons_zero, List.set_cons_succ]
            refine WE.pure (d := some 65) rfl rfl (by rfl) (v := (.agg #[.bool ga, .slice Aa na ca])) (fun w' hk => ?_) ?_
            · have c0 := hk.cell (Ba.out.cell (o := 0) (v := .bool ga) rfl); have c1 := hk.cell (Ba.out.cell (o := 1) (v := .slice Aa na ca) rfl); go_simp
            simp only [Act.put, List.setIfInBounds_toArray, List.set_cons_zero, List.set_cons_succ]
            refine WE.call (d := some 64) rfl rfl (by rfl) (f := 12) (args := #[(.agg #[.bool ga, .slice Aa na ca])]) (by go_simp) ?_
            refine (wIs_any Na.out HIA.out).mono ?_
            rintro e wn ⟨rfl, hb⟩
            refine ⟨_, rfl, hb, ?_⟩
            replace E := hid (E.out.trans hb)
            replace Ba := hid (Ba.out.up hb)
            replace Bb := hid (Bb.out.up hb)
            replace V7 := hid (V7.out.up hb)
            replace V8 := hid (V8.out.up hb)
            replace V9 := hid (V9.out.up hb)
            replace V10 := hid (V10.out.up hb)
            replace V11 := hid (V11.out.up hb)
            replace V12 := hid (V12.out.up hb)
            replace V13 := hid (V13.out.up hb)
            replace V14 := hid (V14.out.up hb)
            replace Na := hid (Na.out.up hb)
            replace Nb := hid (Nb.out.up hb)
            replace Ra := hid (Ra.out.up hb)
            replace Rb := hid (Rb.out.up hb)
            replace Q1 := hid (Q1.out.up hb)
            replace Q2 := hid (Q2.out.up hb)
            replace Q3 := hid (Q3.out.up hb)
            replace Q4 := hid (Q4.out.up hb)
            replace Q5 := hid (Q5.out.up hb)
            replace Q6 := hid (Q6.out.up hb)
            replace Q7 := hid (Q7.out.up hb)
            replace Q8 := hid (Q8.out.up hb)
            clear hb
            simp only [Act.put, List.setIfInBounds_toArray, List.set_cons_zero, List.set_cons_succ]
            refine WE.call (d := some 66) rfl rfl (by rfl) (f := 13) (args := #[(.agg #[.bool ga, .slice Aa na ca])]) (by go_simp) ?_
            refine (rzIs_any Na.out HIA.out).mono ?_
            rintro e wn ⟨rfl, hb⟩
            refine ⟨_, rfl, hb, ?_⟩
            replace E := hid (E.out.trans hb)
            replace Ba := hid (Ba.out.up hb)
            replace Bb := hid (Bb.out.up hb)
            replace V7 := hid (V7.out.up hb)
            replace V8 := hid (V8.out.up hb)
            replace V9 := hid (V9.out.up hb)
            replace V10 := hid (V10.out.up hb)
            replace V11 := hid (V11.out.up hb)
            replace V12 := hid (V12.out.up hb)
            replace V13 := hid (V13.out.up hb)
            replace V14 := hid (V14.out.up hb)
            replace Na := hid (Na.out.up hb)
            replace Nb := hid (Nb.out.up hb)
            replace Ra := hid (Ra.out.up hb)
            replace Rb := hid (Rb.out.up hb)
            replace Q1 := hid (Q1.out.up hb)
            replace Q2 := hid (Q2.out.up hb)
            replace Q3 := hid (Q3.out.up hb)
            replace Q4 := hid (Q4.out.up hb)
            replace Q5 := hid (Q5.out.up hb)
            replace Q6 := hid (Q6.out.up hb)
            replace Q7 := hid (Q7.out.up hb)
            replace Q8 := hid (Q8.out.up hb)
            clear hb
            simp only [Act.put, List.setIfInBounds_toArray, List.set_cons_zero, List.set_cons_succ]
            refine WE.pure (d := some 67) rfl rfl (by rfl) (v := (.bool false)) (fun w' hk => ?_) ?_
            · go_simp
            simp only [Act.put, List.setIfInBounds_toArray, List.set_cons_zero, List.set_cons_succ]
            refine WE.pure (d := some 68) rfl rfl (by rfl) (v := (.bool false)) (fun w' hk => ?_) ?_
            · go_simp
            simp only [Act.put, List.setIfInBounds_toArray, List.set_cons_zero, List.set_cons_succ]
            refine WE.pure (d := some 69) rfl rfl (by rfl) (v := (.int .i64 n)) (fun w' hk => ?_) ?_
            · go_simp
            simp only [Act.put, List.setIfInBounds_toArray, List.set_cons_zero, List.set_cons_succ]
            as_aux_lemma =>
              refine WE.pure (d := some 71) rfl rfl (by rfl) (v := (.int .i64 n)) (fun w' hk => ?_) ?_
              · go_simp
              simp only [Act.put, List.setIfInBounds_toArray, List.set_cons_zero, List.set_cons_succ]
              refine WE.call (d := some 70) rfl rfl (by rfl) (f := 15) (args := #[(.int .i64 n)]) (by go_simp) ?_
              refine (of_z (n := n) HN1.out HN2.out _).mono ?_
              rintro e wn ⟨v1, rfl, x1, hb⟩
              obtain ⟨g9, A9, n9, c9, rfl⟩ := x1.shape
              refine ⟨_, rfl, hb, ?_⟩
              replace E := hid (E.out.trans hb)
              replace Ba := hid (Ba.out.up hb)
              replace Bb := hid (Bb.out.up hb)
              replace V7 := hid (V7.out.up hb)
              replace V8 := hid (V8.out.up hb)
              replace V9 := hid (V9.out.up hb)
              replace V10 := hid (V10.out.up hb)
              replace V11 := hid (V11.out.up hb)
              replace V12 := hid (V12.out.up hb)
              replace V13 := hid (V13.out.up hb)
              replace V14 := hid (V14.out.up hb)
              replace Na := hid (Na.out.up hb)
              replace Nb := hid (Nb.out.up hb)
              replace Ra := hid (Ra.out.up hb)
              replace Rb := hid (Rb.out.up hb)
              replace Q1 := hid (Q1.out.up hb)
              replace Q2 := hid (Q2.out.up hb)
              replace Q3 := hid (Q3.out.up hb)
              replace Q4 := hid (Q4.out.up hb)
              replace Q5 := hid (Q5.out.up hb)
              replace Q6 := hid (Q6.out.up hb)
              replace Q7 := hid (Q7.out.up hb)
              replace Q8 := hid (Q8.out.up hb)
              have Q9 := hid x1
              clear hb x1
              simp only [Act.put, List.setIfInBounds_toArray, List.set_cons_zero, List.set_cons_succ]
              refine WE.call (d := some 72) rfl rfl (by rfl) (f := 16) (args := #[(.int .i64 n)]) (by go_simp) ?_
              refine (rOf_z (n := n) HN1.out HN2.out _).mono ?_
              rintro e wn ⟨v1, rfl, x1, hb⟩
              obtain ⟨g10, A10, n10, c10, rfl⟩ := x1.shape
              refine ⟨_, rfl, hb, ?_⟩
              replace E := hid (E.out.trans hb)
              replace Ba := hid (Ba.out.up hb)
              replace Bb := hid (Bb.out.up hb)
              replace V7 := hid (V7.out.up hb)
              replace V8 := hid (V8.out.up hb)
              replace V9 := hid (V9.out.up hb)
              replace V10 := hid (V10.out.up hb)
              replace V11 := hid (V11.out.up hb)
              replace V12 := hid (V12.out.up hb)
              replace V13 := hid (V13.out.up hb)
              replace V14 := hid (V14.out.up hb)
              replace Na := hid (Na.out.up hb)
              replace Nb := hid (Nb.out.up hb)
              replace Ra := hid (Ra.out.up hb)
              replace Rb := hid (Rb.out.up hb)
              replace Q1 := hid (Q1.out.up hb)
              replace Q2 := hid (Q2.out.up hb)
              replace Q3 := hid (Q3.out.up hb)
              replace Q4 := hid (Q4.out.up hb)
              replace Q5 := hid (Q5.out.up hb)
              replace Q6 := hid (Q6.out.up hb)
              replace Q7 := hid (Q7.out.up hb)
              replace Q8 := hid (Q8.out.up hb)
              replace Q9 := hid (Q9.out.up hb)
              have Q10 := hid x1
              clear hb x1
              simp only [Act.put, List.setIfInBounds_toArray, List.set_cons_zero, List.set_cons_succ]
              refine WE.call (d := some 73) rfl rfl (by rfl) (f := 14) (args := #[(.agg #[.bool g9, .slice A9 n9 c9]), (.agg #[.bool g10, .slice A10 n10 c10])]) (by go_simp) ?_
              refine (equal_z (IsZ.to Q9.out (rfl)) (IsZ.to Q10.out (rfl))).mono ?_
              rintro e wn ⟨rfl, hb⟩
              refine ⟨_, rfl, hb, ?_⟩
              replace E := hid (E.out.trans hb)
              replace Ba := hid (Ba.out.up hb)
              replace Bb := hid (Bb.out.up hb)
              replace V7 := hid (V7.out.up hb)
              replace V8 := hid (V8.out.up hb)
              replace V9 := hid (V9.out.up hb)
              replace V10 := hid (V10.out.up hb)
              replace V11 := hid (V11.out.up hb)
              replace V12 := hid (V12.out.up hb)
              replace V13 := hid (V13.out.up hb)
              replace V14 := hid (V14.out.up hb)
              replace Na := hid (Na.out.up hb)
              replace Nb := hid (Nb.out.up hb)
              replace Ra := hid (Ra.out.up hb)
              replace Rb := hid (Rb.out.up hb)
              replace Q1 := hid (Q1.out.up hb)
              replace Q2 := hid (Q2.out.up hb)
              replace Q3 := hid (Q3.out.up hb)
              replace Q4 := hid (Q4.out.up hb)
              replace Q5 := hid (Q5.out.up hb)
              replace Q6 := hid (Q6.out.up hb)
              replace Q7 := hid (Q7.out.up hb)
              replace Q8 := hid (Q8.out.up hb)
              replace Q9 := hid (Q9.out.up hb)
              replace Q10 := hid (Q10.out.up hb)
              clear hb
              simp only [Act.put, List.setIfInBounds_toArray, List.set_cons_zero, List.set_cons_succ]
              clear Q9
              clear Q10
              refine WE.pure (d := some 74) rfl rfl (by rfl) (v := (.bool false)) (fun w' hk => ?_) ?_
              · go_simp
              simp only [Act.put, List.setIfInBounds_toArray, List.set_cons_zero, List.set_cons_succ]
              refine WE.pure (d := some 75) rfl rfl (by rfl) (v := (.bool false)) (fun w' hk => ?_) ?_
              · go_simp
              simp only [Act.put, List.setIfInBounds_toArray, List.set_cons_zero, List.set_cons_succ]
              refine WE.pure (d := some 76) rfl rfl (by rfl) (v := (.bool false)) (fun w' hk => ?_) ?_
              · go_simp
              simp only [Act.put, List.setIfInBounds_toArray, List.set_cons_zero, List.set_cons_succ]
              refine WE.pure (d := some 77) rfl rfl (by rfl) (v := (.int .i64 x)) (fun w' hk => ?_) ?_
              · go_simp
              simp only [Act.put, List.setIfInBounds_toArray, List.set_cons_zero, List.set_cons_succ]
              refine WE.pure (d := some 78) rfl rfl (by rfl) (v := (.int .i64 x)) (fun w' hk => ?_) ?_
              · go_simp
              simp only [Act.put, List.setIfInBounds_toArray, List.set_cons_zero, List.set_cons_succ]
              refine WE.pure (d := some 79) rfl rfl (by rfl) (v := (.bool false)) (fun w' hk => ?_) ?_
              · go_simp
              simp only [Act.put, List.setIfInBounds_toArray, List.set_cons_zero, List.set_cons_succ]
              refine WE.pure (d := some 80) rfl rfl (by rfl) (v := (.bool false)) (fun w' hk => ?_) ?_
              · go_simp
              simp only [Act.put, List.setIfInBounds_toArray, List.set_cons_zero, List.set_cons_succ]
              refine WE.pure (d := some 81) rfl rfl (by rfl) (v := (.bool false)) (fun w' hk => ?_) ?_
              · go_simp
              simp only [Act.put, List.setIfInBounds_toArray, List.set_cons_zero, List.set_cons_succ]
              as_aux_lemma =>
                refine WE.pure (d := some 82) rfl rfl (by rfl) (v := (.bool true)) (fun w' hk => ?_) ?_
                · go_simp
                simp only [Act.put, List.setIfInBounds_toArray, List.set_cons_zero, List.set_cons_succ]
                refine WE.pure (d := some 83) rfl rfl (by rfl) (v := (.bool true)) (fun w' hk => ?_) ?_
                · go_simp
                simp only [Act.put, List.setIfInBounds_toArray, List.set_cons_zero, List.set_cons_succ]
                refine WE.pure (d := some 84) rfl rfl (by rfl) (v := (.bool false)) (fun w' hk => ?_) ?_
                · go_simp
                simp only [Act.put, List.setIfInBounds_toArray, List.set_cons_zero, List.set_cons_succ]
                refine WE.pure (d := some 85) rfl rfl (by rfl) (v := (.bool false)) (fun w' hk => ?_) ?_
                · go_simp
                simp only [Act.put, List.setIfInBounds_toArray, List.set_cons_zero, List.set_cons_succ]
                refine WE.pure (d := some 86) rfl rfl (by rfl) (v := (.bool false)) (fun w' hk => ?_) ?_
                · go_simp
                simp only [Act.put, List.setIfInBounds_toArray, List.set_cons_zero, List.set_cons_succ]
                refine WE.pure (d := some 87) rfl rfl (by rfl) (v := (.agg #[.bool ga, .slice Aa na ca])) (fun w' hk => ?_) ?_
                · have c0 := hk.cell (Ba.out.cell (o := 0) (v := .bool ga) rfl); have c1 := hk.cell (Ba.out.cell (o := 1) (v := .slice Aa na ca) rfl); go_simp
                simp only [Act.put, List.setIfInBounds_toArray, List.set_cons_zero, List.set_cons_succ]
                refine WE.pure (d := some 89) rfl rfl (by rfl) (v := (.agg #[.bool ga, .slice Aa na ca])) (fun w' hk => ?_) ?_
                · have c0 := hk.cell (Ba.out.cell (o := 0) (v := .bool ga) rfl); have c1 := hk.cell (Ba.out.cell (o := 1) (v := .slice Aa na ca) rfl); go_simp
                simp only [Act.put, List.setIfInBounds_toArray, List.set_cons_zero, List.set_cons_succ]
                refine WE.call (d := some 88) rfl rfl (by rfl) (f := 17) (args := #[(.agg #[.bool ga, .slice Aa na ca])]) (by go_simp) ?_
                refine (sign_e Ra.out (s := s) (HS.out)).mono ?_
                rintro e wn ⟨rfl, hb⟩
                refine ⟨_, rfl, hb, ?_⟩
                replace E := hid (E.out.trans hb)
                replace Ba := hid (Ba.out.up hb)
                replace Bb := hid (Bb.out.up hb)
                replace V7 := hid (V7.out.up hb)
                replace V8 := hid (V8.out.up hb)
                replace V9 := hid (V9.out.up hb)
                replace V10 := hid (V10.out.up hb)
                replace V11 := hid (V11.out.up hb)
                replace V12 := hid (V12.out.up hb)
                replace V13 := hid (V13.out.up hb)
                replace V14 := hid (V14.out.up hb)
                replace Na := hid (Na.out.up hb)
                replace Nb := hid (Nb.out.up hb)
                replace Ra := hid (Ra.out.up hb)
                replace Rb := hid (Rb.out.up hb)
                replace Q1 := hid (Q1.out.up hb)
                replace Q2 := hid (Q2.out.up hb)
                replace Q3 := hid (Q3.out.up hb)
                replace Q4 := hid (Q4.out.up hb)
                replace Q5 := hid (Q5.out.up hb)
                replace Q6 := hid (Q6.out.up hb)
                replace Q7 := hid (Q7.out.up hb)
                replace Q8 := hid (Q8.out.up hb)
                clear hb
                simp only [Act.put, List.setIfInBounds_toArray, List.set_cons_zero, List.set_cons_succ]
                refine WE.call (d := some 90) rfl rfl (by rfl) (f := 18) (args := #[(.agg #[.bool ga, .slice Aa na ca])]) (by go_simp) ?_
                refine (rSign_w Ra.out (s := s) (HS.out)).mono ?_
                rintro e wn ⟨rfl, hb⟩
                refine ⟨_, rfl, hb, ?_⟩
                replace E := hid (E.out.trans hb)
                replace Ba := hid (Ba.out.up hb)
                replace Bb := hid (Bb.out.up hb)
                replace V7 := hid (V7.out.up hb)
                replace V8 := hid (V8.out.up hb)
                replace V9 := hid (V9.out.up hb)
                replace V10 := hid (V10.out.up hb)
                replace V11 := hid (V11.out.up hb)
                replace V12 := hid (V12.out.up hb)
                replace V13 := hid (V13.out.up hb)
                replace V14 := hid (V14.out.up hb)
                replace Na := hid (Na.out.up hb)
                replace Nb := hid (Nb.out.up hb)
                replace Ra := hid (Ra.out.up hb)
                replace Rb := hid (Rb.out.up hb)
                replace Q1 := hid (Q1.out.up hb)
                replace Q2 := hid (Q2.out.up hb)
                replace Q3 := hid (Q3.out.up hb)
                replace Q4 := hid (Q4.out.up hb)
                replace Q5 := hid (Q5.out.up hb)
                replace Q6 := hid (Q6.out.up hb)
                replace Q7 := hid (Q7.out.up hb)
                replace Q8 := hid (Q8.out.up hb)
                clear hb
                simp only [Act.put, List.setIfInBounds_toArray, List.set_cons_zero, List.set_cons_succ]
                refine WE.pure (d := some 91) rfl rfl (by rfl) (v := (.bool false)) (fun w' hk => ?_) ?_
                · go_simp
                simp only [Act.put, List.setIfInBounds_toArray, List.set_cons_zero, List.set_cons_succ]
                refine WE.pure (d := some 92) rfl rfl (by rfl) (v := (.bool false)) (fun w' hk => ?_) ?_
                · go_simp
                simp only [Act.put, List.setIfInBounds_toArray, List.set_cons_zero, List.set_cons_succ]
                refine WE.pure (d := some 93) rfl rfl (by rfl) (v := (.bool false)) (fun w' hk => ?_) ?_
                · go_simp
                simp only [Act.put, List.setIfInBounds_toArray, List.set_cons_zero, List.set_cons_succ]
                as_aux_lemma =>
                  refine WE.pure (d := some 94) rfl rfl (by rfl) (v := (.agg #[.bool ga, .slice Aa na ca])) (fun w' hk => ?_) ?_
                  · have c0 := hk.cell (Ba.out.cell (o := 0) (v := .bool ga) rfl); have c1 := hk.cell (Ba.out.cell (o := 1) (v := .slice Aa na ca) rfl); go_simp
                  simp only [Act.put, List.setIfInBounds_toArray, List.set_cons_zero, List.set_cons_succ]
                  refine WE.pure (d := some 95) rfl rfl (by rfl) (v := (.agg #[.bool gb, .slice Ab nb cb])) (fun w' hk => ?_) ?_
                  · have c0 := hk.cell (Bb.out.cell (o := 0) (v := .bool gb) rfl); have c1 := hk.cell (Bb.out.cell (o := 1) (v := .slice Ab nb cb) rfl); go_simp
                  simp only [Act.put, List.setIfInBounds_toArray, List.set_cons_zero, List.set_cons_succ]
                  refine WE.pure (d := some 97) rfl rfl (by rfl) (v := (.agg #[.bool ga, .slice Aa na ca])) (fun w' hk => ?_) ?_
                  · have c0 := hk.cell (Ba.out.cell (o := 0) (v := .bool ga) rfl); have c1 := hk.cell (Ba.out.cell (o := 1) (v := .slice Aa na ca) rfl); go_simp
                  simp only [Act.put, List.setIfInBounds_toArray, List.set_cons_zero, List.set_cons_succ]
                  refine WE.pure (d := some 98) rfl rfl (by rfl) (v := (.agg #[.bool gb, .slice Ab nb cb])) (fun w' hk => ?_) ?_
                  · have c0 := hk.cell (Bb.out.cell (o := 0) (v := .bool gb) rfl); have c1 := hk.cell (Bb.out.cell (o := 1) (v := .slice Ab nb cb) rfl); go_simp
                  simp only [Act.put, List.setIfInBounds_toArray, List.set_cons_zero, List.set_cons_succ]
                  refine WE.call (d := some 96) rfl rfl (by rfl) (f := 19) (args := #[(.agg #[.bool ga, .slice Aa na ca]), (.agg #[.bool gb, .slice Ab nb cb])]) (by go_simp) ?_
                  refine (cmp_w Ra.out Rb.out (z := z) (HZ.out)).mono ?_
                  rintro e wn ⟨rfl, hb⟩
                  refine ⟨_, rfl, hb, ?_⟩
                  replace E := hid (E.out.trans hb)
                  replace Ba := hid (Ba.out.up hb)
                  replace Bb := hid (Bb.out.up hb)
                  replace V7 := hid (V7.out.up hb)
                  replace V8 := hid (V8.out.up hb)
                  replace V9 := hid (V9.out.up hb)
                  replace V10 := hid (V10.out.up hb)
                  replace V11 := hid (V11.out.up hb)
                  replace V12 := hid (V12.out.up hb)
                  replace V13 := hid (V13.out.up hb)
                  replace V14 := hid (V14.out.up hb)
                  replace Na := hid (Na.out.up hb)
                  replace Nb := hid (Nb.out.up hb)
                  replace Ra := hid (Ra.out.up hb)
                  replace Rb := hid (Rb.out.up hb)
                  replace Q1 := hid (Q1.out.up hb)
                  replace Q2 := hid (Q2.out.up hb)
                  replace Q3 := hid (Q3.out.up hb)
                  replace Q4 := hid (Q4.out.up hb)
                  replace Q5 := hid (Q5.out.up hb)
                  replace Q6 := hid (Q6.out.up hb)
                  replace Q7 := hid (Q7.out.up hb)
                  replace Q8 := hid (Q8.out.up hb)
                  clear hb
                  simp only [Act.put, List.setIfInBounds_toArray, List.set_cons_zero, List.set_cons_succ]
                  refine WE.call (d := some 99) rfl rfl (by rfl) (f := 20) (args := #[(.agg #[.bool ga, .slice Aa na ca]), (.agg #[.bool gb, .slice Ab nb cb])]) (by go_simp) ?_
                  refine (rCmp_w Ra.out Rb.out (z := z) (HZ.out)).mono ?_
                  rintro e wn ⟨rfl, hb⟩
                  refine ⟨_, rfl, hb, ?_⟩
                  replace E := hid (E.out.trans hb)
                  replace Ba := hid (Ba.out.up hb)
                  replace Bb := hid (Bb.out.up hb)
                  replace V7 := hid (V7.out.up hb)
                  replace V8 := hid (V8.out.up hb)
                  replace V9 := hid (V9.out.up hb)
                  replace V10 := hid (V10.out.up hb)
                  replace V11 := hid (V11.out.up hb)
                  replace V12 := hid (V12.out.up hb)
                  replace V13 := hid (V13.out.up hb)
                  replace V14 := hid (V14.out.up hb)
                  replace Na := hid (Na.out.up hb)
                  replace Nb := hid (Nb.out.up hb)
                  replace Ra := hid (Ra.out.up hb)
                  replace Rb := hid (Rb.out.up hb)
                  replace Q1 := hid (Q1.out.up hb)
                  replace Q2 := hid (Q2.out.up hb)
                  replace Q3 := hid (Q3.out.up hb)
                  replace Q4 := hid (Q4.out.up hb)
                  replace Q5 := hid (Q5.out.up hb)
                  replace Q6 := hid (Q6.out.up hb)
                  replace Q7 := hid (Q7.out.up hb)
                  replace Q8 := hid (Q8.out.up hb)
                  clear hb
                  simp only [Act.put, List.setIfInBounds_toArray, List.set_cons_zero, List.set_cons_succ]
                  refine WE.pure (d := some 100) rfl rfl (by rfl) (v := (.bool false)) (fun w' hk => ?_) ?_
                  · go_simp
                  simp only [Act.put, List.setIfInBounds_toArray, List.set_cons_zero, List.set_cons_succ]
                  refine WE.pure (d := some 101) rfl rfl (by rfl) (v := (.bool false)) (fun w' hk => ?_) ?_
                  · go_simp
                  simp only [Act.put, List.setIfInBounds_toArray, List.set_cons_zero, List.set_cons_succ]
                  refine WE.pure (d := some 102) rfl rfl (by rfl) (v := (.bool false)) (fun w' hk => ?_) ?_
                  · go_simp
                  simp only [Act.put, List.setIfInBounds_toArray, List.set_cons_zero, List.set_cons_succ]
                  refine WE.pure (d := some 103) rfl rfl (by rfl) (v := (.agg #[.bool ga, .slice Aa na ca])) (fun w' hk => ?_) ?_
                  · have c0 := hk.cell (Ba.out.cell (o := 0) (v := .bool ga) rfl); have c1 := hk.cell (Ba.out.cell (o := 1) (v := .slice Aa na ca) rfl); go_simp
                  simp only [Act.put, List.setIfInBounds_toArray, List.set_cons_zero, List.set_cons_succ]
                  refine WE.pure (d := some 104) rfl rfl (by rfl) (v := (.agg #[.bool gb, .slice Ab nb cb])) (fun w' hk => ?_) ?_
                  · have c0 := hk.cell (Bb.out.cell (o := 0) (v := .bool gb) rfl); have c1 := hk.cell (Bb.out.cell (o := 1) (v := .slice Ab nb cb) rfl); go_simp
                  simp only [Act.put, List.setIfInBounds_toArray, List.set_cons_zero, List.set_cons_succ]
                  refine WE.pure (d := some 106) rfl rfl (by rfl) (v := (.agg #[.bool ga, .slice Aa na ca])) (fun w' hk => ?_) ?_
                  · have c0 := hk.cell (Ba.out.cell (o := 0) (v := .bool ga) rfl); have c1 := hk.cell (Ba.out.cell (o := 1) (v := .slice Aa na ca) rfl); go_simp
                  simp only [Act.put, List.setIfInBounds_toArray, List.set_cons_zero, List.set_cons_succ]
                  as_aux_lemma =>
                    refine WE.pure (d := some 107) rfl rfl (by rfl) (v := (.agg #[.bool gb, .slice Ab nb cb])) (fun w' hk => ?_) ?_
                    · have c0 := hk.cell (Bb.out.cell (o := 0) (v := .bool gb) rfl); have c1 := hk.cell (Bb.out.cell (o := 1) (v := .slice Ab nb cb) rfl); go_simp
                    simp only [Act.put, List.setIfInBounds_toArray, List.set_cons_zero, List.set_cons_succ]
                    refine WE.call (d := some 105) rfl rfl (by rfl) (f := 21) (args := #[(.agg #[.bool ga, .slice Aa na ca]), (.agg #[.bool gb, .slice Ab nb cb])]) (by go_simp) ?_
                    refine (same_w Ra.out Rb.out (b := sm) (HSM.out)).mono ?_
                    rintro e wn ⟨rfl, hb⟩
                    refine ⟨_, rfl, hb, ?_⟩
                    replace E := hid (E.out.trans hb)
                    replace Ba := hid (Ba.out.up hb)
                    replace Bb := hid (Bb.out.up hb)
                    replace V7 := hid (V7.out.up hb)
                    replace V8 := hid (V8.out.up hb)
                    replace V9 := hid (V9.out.up hb)
                    replace V10 := hid (V10.out.up hb)
                    replace V11 := hid (V11.out.up hb)
                    replace V12 := hid (V12.out.up hb)
                    replace V13 := hid (V13.out.up hb)
                    replace V14 := hid (V14.out.up hb)
                    replace Na := hid (Na.out.up hb)
                    replace Nb := hid (Nb.out.up hb)
                    replace Ra := hid (Ra.out.up hb)
                    replace Rb := hid (Rb.out.up hb)
                    replace Q1 := hid (Q1.out.up hb)
                    replace Q2 := hid (Q2.out.up hb)
                    replace Q3 := hid (Q3.out.up hb)
                    replace Q4 := hid (Q4.out.up hb)
                    replace Q5 := hid (Q5.out.up hb)
                    replace Q6 := hid (Q6.out.up hb)
                    replace Q7 := hid (Q7.out.up hb)
                    replace Q8 := hid (Q8.out.up hb)
                    clear hb
                    simp only [Act.put, List.setIfInBounds_toArray, List.set_cons_zero, List.set_cons_succ]
                    refine WE.call (d := some 108) rfl rfl (by rfl) (f := 22) (args := #[(.agg #[.bool ga, .slice Aa na ca]), (.agg #[.bool gb, .slice Ab nb cb])]) (by go_simp) ?_
                    refine (rSame_w Ra.out Rb.out (b := sm) (HSM.out)).mono ?_
                    rintro e wn ⟨rfl, hb⟩
                    refine ⟨_, rfl, hb, ?_⟩
                    replace E := hid (E.out.trans hb)
                    replace Ba := hid (Ba.out.up hb)
                    replace Bb := hid (Bb.out.up hb)
                    replace V7 := hid (V7.out.up hb)
                    replace V8 := hid (V8.out.up hb)
                    replace V9 := hid (V9.out.up hb)
                    replace V10 := hid (V10.out.up hb)
                    replace V11 := hid (V11.out.up hb)
                    replace V12 := hid (V12.out.up hb)
                    replace V13 := hid (V13.out.up hb)
                    replace V14 := hid (V14.out.up hb)
                    replace Na := hid (Na.out.up hb)
                    replace Nb := hid (Nb.out.up hb)
                    replace Ra := hid (Ra.out.up hb)
                    replace Rb := hid (Rb.out.up hb)
                    replace Q1 := hid (Q1.out.up hb)
                    replace Q2 := hid (Q2.out.up hb)
                    replace Q3 := hid (Q3.out.up hb)
                    replace Q4 := hid (Q4.out.up hb)
                    replace Q5 := hid (Q5.out.up hb)
                    replace Q6 := hid (Q6.out.up hb)
                    replace Q7 := hid (Q7.out.up hb)
                    replace Q8 := hid (Q8.out.up hb)
                    clear hb
                    simp only [Act.put, List.setIfInBounds_toArray, List.set_cons_zero, List.set_cons_succ]
                    refine WE.pure (d := some 109) rfl rfl (by rfl) (v := (.bool false)) (fun w' hk => ?_) ?_
                    · go_simp
                    simp only [Act.put, List.setIfInBounds_toArray, List.set_cons_zero, List.set_cons_succ]
                    refine WE.pure (d := some 110) rfl rfl (by rfl) (v := (.bool false)) (fun w' hk => ?_) ?_
                    · go_simp
                    simp only [Act.put, List.setIfInBounds_toArray, List.set_cons_zero, List.set_cons_succ]
                    refine WE.done ?_
                    go_upto_region 13 with (fail)
                    refine wp_region_E [(0, 0), (2, 0), (1, 1), (3, 1), (4, 1), (5, 0), (6, 0), (7, 0), (9, 0), (8, 1), (10, 1), (11, 1), (12, 0), (13, 0), (14, 0), (15, 0), (16, 0), (18, 0), (19, 0), (17, 1), (20, 1), (21, 1), (22, 0), (23, 0), (24, 0), (25, 0), (26, 0), (28, 0), (29, 0), (27, 1), (30, 1), (31, 1), (32, 0), (33, 0), (34, 0), (35, 0), (36, 0), (38, 0), (39, 0), (37, 1), (40, 1), (41, 1), (42, 0), (43, 0)] (fun _ => (0, #[])) rfl (by kernel_rfl) (by intro j hj; cases hj) (fun _ _ d _ _ => by cases d <;> exact Iff.rfl) fun wd hb => ?_
                    replace E := hid (E.out.trans hb)
                    replace Ba := hid (Ba.out.up hb)
                    replace Bb := hid (Bb.out.up hb)
                    replace V7 := hid (V7.out.up hb)
                    replace V8 := hid (V8.out.up hb)
                    replace V9 := hid (V9.out.up hb)
                    replace V10 := hid (V10.out.up hb)
                    replace V11 := hid (V11.out.up hb)
                    replace V12 := hid (V12.out.up hb)
                    replace V13 := hid (V13.out.up hb)
                    replace V14 := hid (V14.out.up hb)
                    replace Na := hid (Na.out.up hb)
                    replace Nb := hid (Nb.out.up hb)
                    replace Ra := hid (Ra.out.up hb)
                    replace Rb := hid (Rb.out.up hb)
                    replace Q1 := hid (Q1.out.up hb)
                    replace Q2 := hid (Q2.out.up hb)
                    replace Q3 := hid (Q3.out.up hb)
                    replace Q4 := hid (Q4.out.up hb)
                    replace Q5 := hid (Q5.out.up hb)
                    replace Q6 := hid (Q6.out.up hb)
                    replace Q7 := hid (Q7.out.up hb)
                    replace Q8 := hid (Q8.out.up hb)
                    clear hb
                    refine WE.pure (d := some 111) rfl rfl (by rfl) (v := (.agg #[.bool ga, .slice Aa na ca])) (fun w' hk => ?_) ?_
                    · have c0 := hk.cell (Ba.out.cell (o := 0) (v := .bool ga) rfl); have c1 := hk.cell (Ba.out.cell (o := 1) (v := .slice Aa na ca) rfl); go_simp
                    simp only [Act.put, List.setIfInBounds_toArray, List.set_cons_zero, List.set_cons_succ]
                    refine WE.pure (d := some 113) rfl rfl (by rfl) (v := (.agg #[.bool ga, .slice Aa na ca])) (fun w' hk => ?_) ?_
                    · have c0 := hk.cell (Ba.out.cell (o := 0) (v := .bool ga) rfl); have c1 := hk.cell (Ba.out.cell (o := 1) (v := .slice Aa na ca) rfl); go_simp
                    simp only [Act.put, List.setIfInBounds_toArray, List.set_cons_zero, List.set_cons_succ]
                    refine WE.call (d := some 112) rfl rfl (by rfl) (f := 23) (args := #[(.agg #[.bool ga, .slice Aa na ca])]) (by go_simp) ?_
                    refine (neg_w Ra.out (by omega)).mono ?_
                    rintro e wn ⟨v1, rfl, x1, hb⟩
                    obtain ⟨g11, A11, n11, c11, rfl⟩ := x1.shape
                    refine ⟨_, rfl, hb, ?_⟩
                    replace E := hid (E.out.trans hb)
                    replace Ba := hid (Ba.out.up hb)
                    replace Bb := hid (Bb.out.up hb)
                    replace V7 := hid (V7.out.up hb)
                    replace V8 := hid (V8.out.up hb)
                    replace V9 := hid (V9.out.up hb)
                    replace V10 := hid (V10.out.up hb)
                    replace V11 := hid (V11.out.up hb)
                    replace V12 := hid (V12.out.up hb)
                    replace V13 := hid (V13.out.up hb)
                    replace V14 := hid (V14.out.up hb)
                    replace Na := hid (Na.out.up hb)
                    replace Nb := hid (Nb.out.up hb)
                    replace Ra := hid (Ra.out.up hb)
                    replace Rb := hid (Rb.out.up hb)
                    replace Q1 := hid (Q1.out.up hb)
                    replace Q2 := hid (Q2.out.up hb)
                    replace Q3 := hid (Q3.out.up hb)
                    replace Q4 := hid (Q4.out.up hb)
                    replace Q5 := hid (Q5.out.up hb)
                    replace Q6 := hid (Q6.out.up hb)
                    replace Q7 := hid (Q7.out.up hb)
                    replace Q8 := hid (Q8.out.up hb)
                    have Q11 := hid x1
                    clear hb x1
                    simp only [Act.put, List.setIfInBounds_toArray, List.set_cons_zero, List.set_cons_succ]
                    refine WE.call (d := some 114) rfl rfl (by rfl) (f := 24) (args := #[(.agg #[.bool ga, .slice Aa na ca])]) (by go_simp) ?_
                    refine (rNeg_w Ra.out).mono ?_
                    rintro e wn ⟨v1, rfl, x1, hb⟩
                    obtain ⟨g12, A12, n12, c12, rfl⟩ := x1.shape
                    refine ⟨_, rfl, hb, ?_⟩
                    replace E := hid (E.out.trans hb)
                    replace Ba := hid (Ba.out.up hb)
                    replace Bb := hid (Bb.out.up hb)
                    replace V7 := hid (V7.out.up hb)
                    replace V8 := hid (V8.out.up hb)
                    replace V9 := hid (V9.out.up hb)
                    replace V10 := hid (V10.out.up hb)
                    replace V11 := hid (V11.out.up hb)
                    replace V12 := hid (V12.out.up hb)
                    replace V13 := hid (V13.out.up hb)
                    replace V14 := hid (V14.out.up hb)
                    replace Na := hid (Na.out.up hb)
                    replace Nb := hid (Nb.out.up hb)
                    replace Ra := hid (Ra.out.up hb)
                    replace Rb := hid (Rb.out.up hb)
                    replace Q1 := hid (Q1.out.up hb)
                    replace Q2 := hid (Q2.out.up hb)
                    replace Q3 := hid (Q3.out.up hb)
                    replace Q4 := hid (Q4.out.up hb)
                    replace Q5 := hid (Q5.out.up hb)
                    replace Q6 := hid (Q6.out.up hb)
                    replace Q7 := hid (Q7.out.up hb)
                    replace Q8 := hid (Q8.out.up hb)
                    replace Q11 := hid (Q11.out.up hb)
                    have Q12 := hid x1
                    clear hb x1
                    simp only [Act.put, List.setIfInBounds_toArray, List.set_cons_zero, List.set_cons_succ]
                    refine WE.call (d := some 115) rfl rfl (by rfl) (f := 14) (args := #[(.agg #[.bool g11, .slice A11 n11 c11]), (.agg #[.bool g12, .slice A12 n12 c12])]) (by go_simp) ?_
                    refine (equal_z (IsZ.to Q11.out (rfl)) (IsZ.to Q12.out (rfl))).mono ?_
                    rintro e wn ⟨rfl, hb⟩
                    refine ⟨_, rfl, hb, ?_⟩
                    replace E := hid (E.out.trans hb)
                    replace Ba := hid (Ba.out.up hb)
                    replace Bb := hid (Bb.out.up hb)
                    replace V7 := hid (V7.out.up hb)
                    replace V8 := hid (V8.out.up hb)
                    replace V9 := hid (V9.out.up hb)
                    replace V10 := hid (V10.out.up hb)
                    replace V11 := hid (V11.out.up hb)
                    replace V12 := hid (V12.out.up hb)
                    replace V13 := hid (V13.out.up hb)
                    replace V14 := hid (V14.out.up hb)
                    replace Na := hid (Na.out.up hb)
                    replace Nb := hid (Nb.out.up hb)
                    replace Ra := hid (Ra.out.up hb)
                    replace Rb := hid (Rb.out.up hb)
                    replace Q1 := hid (Q1.out.up hb)
                    replace Q2 := hid (Q2.out.up hb)
                    replace Q3 := hid (Q3.out.up hb)
                    replace Q4 := hid (Q4.out.up hb)
                    replace Q5 := hid (Q5.out.up hb)
                    replace Q6 := hid (Q6.out.up hb)
                    replace Q7 := hid (Q7.out.up hb)
                    replace Q8 := hid (Q8.out.up hb)
                    replace Q11 := hid (Q11.out.up hb)
                    replace Q12 := hid (Q12.out.up hb)
                    clear hb
                    simp only [Act.put, List.setIfInBounds_toArray, List.set_cons_zero, List.set_cons_succ]
                    clear Q11
                    clear Q12
                    refine WE.pure (d := some 116) rfl rfl (by rfl) (v := (.bool false)) (fun w' hk => ?_) ?_
                    · go_simp
                    simp only [Act.put, List.setIfInBounds_toArray, List.set_cons_zero, List.set_cons_succ]
                    refine WE.pure (d := some 117) rfl rfl (by rfl) (v := (.bool false)) (fun w' hk => ?_) ?_
                    · go_simp
                    simp only [Act.put, List.setIfInBounds_toArray, List.set_cons_zero, List.set_cons_succ]
                    as_aux_lemma =>
                      refine WE.pure (d := some 118) rfl rfl (by rfl) (v := (.agg #[.bool ga, .slice Aa na ca])) (fun w' hk => ?_) ?_
                      · have c0 := hk.cell (Ba.out.cell (o := 0) (v := .bool ga) rfl); have c1 := hk.cell (Ba.out.cell (o := 1) (v := .slice Aa na ca) rfl); go_simp
                      simp only [Act.put, List.setIfInBounds_toArray, List.set_cons_zero, List.set_cons_succ]
                      refine WE.pure (d := some 120) rfl rfl (by rfl) (v := (.agg #[.bool ga, .slice Aa na ca])) (fun w' hk => ?_) ?_
                      · have c0 := hk.cell (Ba.out.cell (o := 0) (v := .bool ga) rfl); have c1 := hk.cell (Ba.out.cell (o := 1) (v := .slice Aa na ca) rfl); go_simp
                      simp only [Act.put, List.setIfInBounds_toArray, List.set_cons_zero, List.set_cons_succ]
                      refine WE.call (d := some 119) rfl rfl (by rfl) (f := 25) (args := #[(.agg #[.bool ga, .slice Aa na ca])]) (by go_simp) ?_
                      refine (abs_w Ra.out (by omega)).mono ?_
                      rintro e wn ⟨v1, rfl, x1, hb⟩
                      obtain ⟨g13, A13, n13, c13, rfl⟩ := x1.shape
                      refine ⟨_, rfl, hb, ?_⟩
                      replace E := hid (E.out.trans hb)
                      replace Ba := hid (Ba.out.up hb)
                      replace Bb := hid (Bb.out.up hb)
                      replace V7 := hid (V7.out.up hb)
                      replace V8 := hid (V8.out.up hb)
                      replace V9 := hid (V9.out.up hb)
                      replace V10 := hid (V10.out.up hb)
                      replace V11 := hid (V11.out.up hb)
                      replace V12 := hid (V12.out.up hb)
                      replace V13 := hid (V13.out.up hb)
                      replace V14 := hid (V14.out.up hb)
                      replace Na := hid (Na.out.up hb)
                      replace Nb := hid (Nb.out.up hb)
                      replace Ra := hid (Ra.out.up hb)
                      replace Rb := hid (Rb.out.up hb)
                      replace Q1 := hid (Q1.out.up hb)
                      replace Q2 := hid (Q2.out.up hb)
                      replace Q3 := hid (Q3.out.up hb)
                      replace Q4 := hid (Q4.out.up hb)
                      replace Q5 := hid (Q5.out.up hb)
                      replace Q6 := hid (Q6.out.up hb)
                      replace Q7 := hid (Q7.out.up hb)
                      replace Q8 := hid (Q8.out.up hb)
                      have Q13 := hid x1
                      clear hb x1
                      simp only [Act.put, List.setIfInBounds_toArray, List.set_cons_zero, List.set_cons_succ]
                      refine WE.call (d := some 121) rfl rfl (by rfl) (f := 26) (args := #[(.agg #[.bool ga, .slice Aa na ca])]) (by go_simp) ?_
                      refine (rAbs_w Ra.out).mono ?_
                      rintro e wn ⟨v1, rfl, x1, hb⟩
                      obtain ⟨g14, A14, n14, c14, rfl⟩ := x1.shape
                      refine ⟨_, rfl, hb, ?_⟩
                      replace E := hid (E.out.trans hb)
                      replace Ba := hid (Ba.out.up hb)
                      replace Bb := hid (Bb.out.up hb)
                      replace V7 := hid (V7.out.up hb)
                      replace V8 := hid (V8.out.up hb)
                      replace V9 := hid (V9.out.up hb)
                      replace V10 := hid (V10.out.up hb)
                      replace V11 := hid (V11.out.up hb)
                      replace V12 := hid (V12.out.up hb)
                      replace V13 := hid (V13.out.up hb)
                      replace V14 := hid (V14.out.up hb)
                      replace Na := hid (Na.out.up hb)
                      replace Nb := hid (Nb.out.up hb)
                      replace Ra := hid (Ra.out.up hb)
                      replace Rb := hid (Rb.out.up hb)
                      replace Q1 := hid (Q1.out.up hb)
                      replace Q2 := hid (Q2.out.up hb)
                      replace Q3 := hid (Q3.out.up hb)
                      replace Q4 := hid (Q4.out.up hb)
                      replace Q5 := hid (Q5.out.up hb)
                      replace Q6 := hid (Q6.out.up hb)
                      replace Q7 := hid (Q7.out.up hb)
                      replace Q8 := hid (Q8.out.up hb)
                      replace Q13 := hid (Q13.out.up hb)
                      have Q14 := hid x1
                      clear hb x1
                      simp only [Act.put, List.setIfInBounds_toArray, List.set_cons_zero, List.set_cons_succ]
                      refine WE.call (d := some 122) rfl rfl (by rfl) (f := 14) (args := #[(.agg #[.bool g13, .slice A13 n13 c13]), (.agg #[.bool g14, .slice A14 n14 c14])]) (by go_simp) ?_
                      refine (equal_z (IsZ.to Q13.out (rfl)) (IsZ.to Q14.out (rfl))).mono ?_
                      rintro e wn ⟨rfl, hb⟩
                      refine ⟨_, rfl, hb, ?_⟩
                      replace E := hid (E.out.trans hb)
                      replace Ba := hid (Ba.out.up hb)
                      replace Bb := hid (Bb.out.up hb)
                      replace V7 := hid (V7.out.up hb)
                      replace V8 := hid (V8.out.up hb)
                      replace V9 := hid (V9.out.up hb)
                      replace V10 := hid (V10.out.up hb)
                      replace V11 := hid (V11.out.up hb)
                      replace V12 := hid (V12.out.up hb)
                      replace V13 := hid (V13.out.up hb)
                      replace V14 := hid (V14.out.up hb)
                      replace Na := hid (Na.out.up hb)
                      replace Nb := hid (Nb.out.up hb)
                      replace Ra := hid (Ra.out.up hb)
                      replace Rb := hid (Rb.out.up hb)
                      replace Q1 := hid (Q1.out.up hb)
                      replace Q2 := hid (Q2.out.up hb)
                      replace Q3 := hid (Q3.out.up hb)
                      replace Q4 := hid (Q4.out.up hb)
                      replace Q5 := hid (Q5.out.up hb)
                      replace Q6 := hid (Q6.out.up hb)
                      replace Q7 := hid (Q7.out.up hb)
                      replace Q8 := hid (Q8.out.up hb)
                      replace Q13 := hid (Q13.out.up hb)
                      replace Q14 := hid (Q14.out.up hb)
                      clear hb
                      simp only [Act.put, List.setIfInBounds_toArray, List.set_cons_zero, List.set_cons_succ]
                      clear Q13
                      clear Q14
                      refine WE.pure (d := some 123) rfl rfl (by rfl) (v := (.bool false)) (fun w' hk => ?_) ?_
                      · go_simp
                      simp only [Act.put, List.setIfInBounds_toArray, List.set_cons_zero, List.set_cons_succ]
                      refine WE.pure (d := some 124) rfl rfl (by rfl) (v := (.bool false)) (fun w' hk => ?_) ?_
                      · go_simp
                      simp only [Act.put, List.setIfInBounds_toArray, List.set_cons_zero, List.set_cons_succ]
                      refine WE.pure (d := some 125) rfl rfl (by rfl) (v := (.bool false)) (fun w' hk => ?_) ?_
                      · go_simp
                      simp only [Act.put, List.setIfInBounds_toArray, List.set_cons_zero, List.set_cons_succ]
                      refine WE.pure (d := some 126) rfl rfl (by rfl) (v := (.agg #[.bool ga, .slice Aa na ca])) (fun w' hk => ?_) ?_
                      · have c0 := hk.cell (Ba.out.cell (o := 0) (v := .bool ga) rfl); have c1 := hk.cell (Ba.out.cell (o := 1) (v := .slice Aa na ca) rfl); go_simp
                      simp only [Act.put, List.setIfInBounds_toArray, List.set_cons_zero, List.set_cons_succ]
                      refine WE.pure (d := some 127) rfl rfl (by rfl) (v := (.agg #[.bool gb, .slice Ab nb cb])) (fun w' hk => ?_) ?_
                      · have c0 := hk.cell (Bb.out.cell (o := 0) (v := .bool gb) rfl); have c1 := hk.cell (Bb.out.cell (o := 1) (v := .slice Ab nb cb) rfl); go_simp
                      simp only [Act.put, List.setIfInBounds_toArray, List.set_cons_zero, List.set_cons_succ]
                      refine WE.pure (d := some 129) rfl rfl (by rfl) (v := (.agg #[.bool ga, .slice Aa na ca])) (fun w' hk => ?_) ?_
                      · have c0 := hk.cell (Ba.out.cell (o := 0) (v := .bool ga) rfl); have c1 := hk.cell (Ba.out.cell (o := 1) (v := .slice Aa na ca) rfl); go_simp
                      simp only [Act.put, List.setIfInBounds_toArray, List.set_cons_zero, List.set_cons_succ]
                      refine WE.pure (d := some 130) rfl rfl (by rfl) (v := (.agg #[.bool gb, .slice Ab nb cb])) (fun w' hk => ?_) ?_
                      · have c0 := hk.cell (Bb.out.cell (o := 0) (v := .bool gb) rfl); have c1 := hk.cell (Bb.out.cell (o := 1) (v := .slice Ab nb cb) rfl); go_simp
                      simp only [Act.put, List.setIfInBounds_toArray, List.set_cons_zero, List.set_cons_succ]
                      as_aux_lemma =>
                        refine WE.call (d := some 128) rfl rfl (by rfl) (f := 27) (args := #[(.agg #[.bool ga, .slice Aa na ca]), (.agg #[.bool gb, .slice Ab nb cb])]) (by go_simp) ?_
                        refine (add_w Ra.out Rb.out (by omega) (by omega)).mono ?_
                        rintro e wn ⟨v1, rfl, x1, hb⟩
                        obtain ⟨g15, A15, n15, c15, rfl⟩ := x1.shape
                        refine ⟨_, rfl, hb, ?_⟩
                        replace E := hid (E.out.trans hb)
                        replace Ba := hid (Ba.out.up hb)
                        replace Bb := hid (Bb.out.up hb)
                        replace V7 := hid (V7.out.up hb)
                        replace V8 := hid (V8.out.up hb)
                        replace V9 := hid (V9.out.up hb)
                        replace V10 := hid (V10.out.up hb)
                        replace V11 := hid (V11.out.up hb)
                        replace V12 := hid (V12.out.up hb)
                        replace V13 := hid (V13.out.up hb)
                        replace V14 := hid (V14.out.up hb)
                        replace Na := hid (Na.out.up hb)
                        replace Nb := hid (Nb.out.up hb)
                        replace Ra := hid (Ra.out.up hb)
                        replace Rb := hid (Rb.out.up hb)
                        replace Q1 := hid (Q1.out.up hb)
                        replace Q2 := hid (Q2.out.up hb)
                        replace Q3 := hid (Q3.out.up hb)
                        replace Q4 := hid (Q4.out.up hb)
                        replace Q5 := hid (Q5.out.up hb)
                        replace Q6 := hid (Q6.out.up hb)
                        replace Q7 := hid (Q7.out.up hb)
                        replace Q8 := hid (Q8.out.up hb)
                        have Q15 := hid x1
                        clear hb x1
                        simp only [Act.put, List.setIfInBounds_toArray, List.set_cons_zero, List.set_cons_succ]
                        refine WE.call (d := some 131) rfl rfl (by rfl) (f := 28) (args := #[(.agg #[.bool ga, .slice Aa na ca]), (.agg #[.bool gb, .slice Ab nb cb])]) (by go_simp) ?_
                        refine (rAdd_w Ra.out Rb.out (by omega) (by omega)).mono ?_
                        rintro e wn ⟨v1, rfl, x1, hb⟩
                        obtain ⟨g16, A16, n16, c16, rfl⟩ := x1.shape
                        refine ⟨_, rfl, hb, ?_⟩
                        replace E := hid (E.out.trans hb)
                        replace Ba := hid (Ba.out.up hb)
                        replace Bb := hid (Bb.out.up hb)
                        replace V7 := hid (V7.out.up hb)
                        replace V8 := hid (V8.out.up hb)
                        replace V9 := hid (V9.out.up hb)
                        replace V10 := hid (V10.out.up hb)
                        replace V11 := hid (V11.out.up hb)
                        replace V12 := hid (V12.out.up hb)
                        replace V13 := hid (V13.out.up hb)
                        replace V14 := hid (V14.out.up hb)
                        replace Na := hid (Na.out.up hb)
                        replace Nb := hid (Nb.out.up hb)
                        replace Ra := hid (Ra.out.up hb)
                        replace Rb := hid (Rb.out.up hb)
                        replace Q1 := hid (Q1.out.up hb)
                        replace Q2 := hid (Q2.out.up hb)
                        replace Q3 := hid (Q3.out.up hb)
                        replace Q4 := hid (Q4.out.up hb)
                        replace Q5 := hid (Q5.out.up hb)
                        replace Q6 := hid (Q6.out.up hb)
                        replace Q7 := hid (Q7.out.up hb)
                        replace Q8 := hid (Q8.out.up hb)
                        replace Q15 := hid (Q15.out.up hb)
                        have Q16 := hid x1
                        clear hb x1
                        simp only [Act.put, List.setIfInBounds_toArray, List.set_cons_zero, List.set_cons_succ]
                        refine WE.call (d := some 132) rfl rfl (by rfl) (f := 14) (args := #[(.agg #[.bool g15, .slice A15 n15 c15]), (.agg #[.bool g16, .slice A16 n16 c16])]) (by go_simp) ?_
                        refine (equal_z (IsZ.to Q15.out (rfl)) (IsZ.to Q16.out (rfl))).mono ?_
                        rintro e wn ⟨rfl, hb⟩
                        refine ⟨_, rfl, hb, ?_⟩
                        replace E := hid (E.out.trans hb)
                        replace Ba := hid (Ba.out.up hb)
                        replace Bb := hid (Bb.out.up hb)
                        replace V7 := hid (V7.out.up hb)
                        replace V8 := hid (V8.out.up hb)
                        replace V9 := hid (V9.out.up hb)
                        replace V10 := hid (V10.out.up hb)
                        replace V11 := hid (V11.out.up hb)
                        replace V12 := hid (V12.out.up hb)
                        replace V13 := hid (V13.out.up hb)
                        replace V14 := hid (V14.out.up hb)
                        replace Na := hid (Na.out.up hb)
                        replace Nb := hid (Nb.out.up hb)
                        replace Ra := hid (Ra.out.up hb)
                        replace Rb := hid (Rb.out.up hb)
                        replace Q1 := hid (Q1.out.up hb)
                        replace Q2 := hid (Q2.out.up hb)
                        replace Q3 := hid (Q3.out.up hb)
                        replace Q4 := hid (Q4.out.up hb)
                        replace Q5 := hid (Q5.out.up hb)
                        replace Q6 := hid (Q6.out.up hb)
                        replace Q7 := hid (Q7.out.up hb)
                        replace Q8 := hid (Q8.out.up hb)
                        replace Q15 := hid (Q15.out.up hb)
                        replace Q16 := hid (Q16.out.up hb)
                        clear hb
                        simp only [Act.put, List.setIfInBounds_toArray, List.set_cons_zero, List.set_cons_succ]
                        clear Q15
                        clear Q16
                        refine WE.pure (d := some 133) rfl rfl (by rfl) (v := (.bool false)) (fun w' hk => ?_) ?_
                        · go_simp
                        simp only [Act.put, List.setIfInBounds_toArray, List.set_cons_zero, List.set_cons_succ]
                        refine WE.pure (d := some 134) rfl rfl (by rfl) (v := (.bool false)) (fun w' hk => ?_) ?_
                        · go_simp
                        simp only [Act.put, List.setIfInBounds_toArray, List.set_cons_zero, List.set_cons_succ]
                        refine WE.pure (d := some 135) rfl rfl (by rfl) (v := (.bool false)) (fun w' hk => ?_) ?_
                        · go_simp
                        simp only [Act.put, List.setIfInBounds_toArray, List.set_cons_zero, List.set_cons_succ]
                        refine WE.pure (d := some 136) rfl rfl (by rfl) (v := (.agg #[.bool ga, .slice Aa na ca])) (fun w' hk => ?_) ?_
                        · have c0 := hk.cell (Ba.out.cell (o := 0) (v := .bool ga) rfl); have c1 := hk.cell (Ba.out.cell (o := 1) (v := .slice Aa na ca) rfl); go_simp
                        simp only [Act.put, List.setIfInBounds_toArray, List.set_cons_zero, List.set_cons_succ]
                        refine WE.pure (d := some 137) rfl rfl (by rfl) (v := (.agg #[.bool gb, .slice Ab nb cb])) (fun w' hk => ?_) ?_
                        · have c0 := hk.cell (Bb.out.cell (o := 0) (v := .bool gb) rfl); have c1 := hk.cell (Bb.out.cell (o := 1) (v := .slice Ab nb cb) rfl); go_simp
                        simp only [Act.put, List.setIfInBounds_toArray, List.set_cons_zero, List.set_cons_succ]
                        refine WE.pure (d := some 139) rfl rfl (by rfl) (v := (.agg #[.bool ga, .slice Aa na ca])) (fun w' hk => ?_) ?_
                        · have c0 := hk.cell (Ba.out.cell (o := 0) (v := .bool ga) rfl); have c1 := hk.cell (Ba.out.cell (o := 1) (v := .slice Aa na ca) rfl); go_simp
                        simp only [Act.put, List.setIfInBounds_toArray, List.set_cons_zero, List.set_cons_succ]
                        refine WE.pure (d := some 140) rfl rfl (by rfl) (v := (.agg #[.bool gb, .slice Ab nb cb])) (fun w' hk => ?_) ?_
                        · have c0 := hk.cell (Bb.out.cell (o := 0) (v := .bool gb) rfl); have c1 := hk.cell (Bb.out.cell (o := 1) (v := .slice Ab nb cb) rfl); go_simp
                        simp only [Act.put, List.setIfInBounds_toArray, List.set_cons_zero, List.set_cons_succ]
                        refine WE.call (d := some 138) rfl rfl (by rfl) (f := 29) (args := #[(.agg #[.bool ga, .slice Aa na ca]), (.agg #[.bool gb, .slice Ab nb cb])]) (by go_simp) ?_
                        refine (sub_w Ra.out Rb.out (by omega) (by omega)).mono ?_
                        rintro e wn ⟨v1, rfl, x1, hb⟩
                        obtain ⟨g17, A17, n17, c17, rfl⟩ := x1.shape
                        refine ⟨_, rfl, hb, ?_⟩
                        replace E := hid (E.out.trans hb)
                        replace Ba := hid (Ba.out.up hb)
                        replace Bb := hid (Bb.out.up hb)
                        replace V7 := hid (V7.out.up hb)
                        replace V8 := hid (V8.out.up hb)
                        replace V9 := hid (V9.out.up hb)
                        replace V10 := hid (V10.out.up hb)
                        replace V11 := hid (V11.out.up hb)
                        replace V12 := hid (V12.out.up hb)
                        replace V13 := hid (V13.out.up hb)
                        replace V14 := hid (V14.out.up hb)
                        replace Na := hid (Na.out.up hb)
                        replace Nb := hid (Nb.out.up hb)
                        replace Ra := hid (Ra.out.up hb)
                        replace Rb := hid (Rb.out.up hb)
                        replace Q1 := hid (Q1.out.up hb)
                        replace Q2 := hid (Q2.out.up hb)
                        replace Q3 := hid (Q3.out.up hb)
                        replace Q4 := hid (Q4.out.up hb)
                        replace Q5 := hid (Q5.out.up hb)
                        replace Q6 := hid (Q6.out.up hb)
                        replace Q7 := hid (Q7.out.up hb)
                        replace Q8 := hid (Q8.out.up hb)
                        have Q17 := hid x1
                        clear hb x1
                        simp only [Act.put, List.setIfInBounds_toArray, List.set_cons_zero, List.set_cons_succ]
                        refine WE.call (d := some 141) rfl rfl (by rfl) (f := 30) (args := #[(.agg #[.bool ga, .slice Aa na ca]), (.agg #[.bool gb, .slice Ab nb cb])]) (by go_simp) ?_
                        refine (rSub_w Ra.out Rb.out (by omega) (by omega)).mono ?_
                        rintro e wn ⟨v1, rfl, x1, hb⟩
                        obtain ⟨g18, A18, n18, c18, rfl⟩ := x1.shape
                        refine ⟨_, rfl, hb, ?_⟩
                        replace E := hid (E.out.trans hb)
                        replace Ba := hid (Ba.out.up hb)
                        replace Bb := hid (Bb.out.up hb)
                        replace V7 := hid (V7.out.up hb)
                        replace V8 := hid (V8.out.up hb)
                        replace V9 := hid (V9.out.up hb)
                        replace V10 := hid (V10.out.up hb)
                        replace V11 := hid (V11.out.up hb)
                        replace V12 := hid (V12.out.up hb)
                        replace V13 := hid (V13.out.up hb)
                        replace V14 := hid (V14.out.up hb)
                        replace Na := hid (Na.out.up hb)
                        replace Nb := hid (Nb.out.up hb)
                        replace Ra := hid (Ra.out.up hb)
                        replace Rb := hid (Rb.out.up hb)
                        replace Q1 := hid (Q1.out.up hb)
                        replace Q2 := hid (Q2.out.up hb)
                        replace Q3 := hid (Q3.out.up hb)
                        replace Q4 := hid (Q4.out.up hb)
                        replace Q5 := hid (Q5.out.up hb)
                        replace Q6 := hid (Q6.out.up hb)
                        replace Q7 := hid (Q7.out.up hb)
                        replace Q8 := hid (Q8.out.up hb)
                        replace Q17 := hid (Q17.out.up hb)
                        have Q18 := hid x1
                        clear hb x1
                        simp only [Act.put, List.setIfInBounds_toArray, List.set_cons_zero, List.set_cons_succ]
                        as_aux_lemma =>
                          refine WE.call (d := some 142) rfl rfl (by rfl) (f := 14) (args := #[(.agg #[.bool g17, .slice A17 n17 c17]), (.agg #[.bool g18, .slice A18 n18 c18])]) (by go_simp) ?_
                          refine (equal_z (IsZ.to Q17.out (rfl)) (IsZ.to Q18.out (rfl))).mono ?_
                          rintro e wn ⟨rfl, hb⟩
                          refine ⟨_, rfl, hb, ?_⟩
                          replace E := hid (E.out.trans hb)
                          replace Ba := hid (Ba.out.up hb)
                          replace Bb := hid (Bb.out.up hb)
                          replace V7 := hid (V7.out.up hb)
                          replace V8 := hid (V8.out.up hb)
                          replace V9 := hid (V9.out.up hb)
                          replace V10 := hid (V10.out.up hb)
                          replace V11 := hid (V11.out.up hb)
                          replace V12 := hid (V12.out.up hb)
                          replace V13 := hid (V13.out.up hb)
                          replace V14 := hid (V14.out.up hb)
                          replace Na := hid (Na.out.up hb)
                          replace Nb := hid (Nb.out.up hb)
                          replace Ra := hid (Ra.out.up hb)
                          replace Rb := hid (Rb.out.up hb)
                          replace Q1 := hid (Q1.out.up hb)
                          replace Q2 := hid (Q2.out.up hb)
                          replace Q3 := hid (Q3.out.up hb)
                          replace Q4 := hid (Q4.out.up hb)
                          replace Q5 := hid (Q5.out.up hb)
                          replace Q6 := hid (Q6.out.up hb)
                          replace Q7 := hid (Q7.out.up hb)
                          replace Q8 := hid (Q8.out.up hb)
                          replace Q17 := hid (Q17.out.up hb)
                          replace Q18 := hid (Q18.out.up hb)
                          clear hb
                          simp only [Act.put, List.setIfInBounds_toArray, List.set_cons_zero, List.set_cons_succ]
                          clear Q17
                          clear Q18
                          refine WE.pure (d := some 143) rfl rfl (by rfl) (v := (.bool false)) (fun w' hk => ?_) ?_
                          · go_simp
                          simp only [Act.put, List.setIfInBounds_toArray, List.set_cons_zero, List.set_cons_succ]
                          refine WE.pure (d := some 144) rfl rfl (by rfl) (v := (.bool false)) (fun w' hk => ?_) ?_
                          · go_simp
                          simp only [Act.put, List.setIfInBounds_toArray, List.set_cons_zero, List.set_cons_succ]
                          refine WE.pure (d := some 145) rfl rfl (by rfl) (v := (.bool false)) (fun w' hk => ?_) ?_
                          · go_simp
                          simp only [Act.put, List.setIfInBounds_toArray, List.set_cons_zero, List.set_cons_succ]
                          refine WE.pure (d := some 146) rfl rfl (by rfl) (v := (.agg #[.bool ga, .slice Aa na ca])) (fun w' hk => ?_) ?_
                          · have c0 := hk.cell (Ba.out.cell (o := 0) (v := .bool ga) rfl); have c1 := hk.cell (Ba.out.cell (o := 1) (v := .slice Aa na ca) rfl); go_simp
                          simp only [Act.put, List.setIfInBounds_toArray, List.set_cons_zero, List.set_cons_succ]
                          refine WE.pure (d := some 147) rfl rfl (by rfl) (v := (.agg #[.bool gb, .slice Ab nb cb])) (fun w' hk => ?_) ?_
                          · have c0 := hk.cell (Bb.out.cell (o := 0) (v := .bool gb) rfl); have c1 := hk.cell (Bb.out.cell (o := 1) (v := .slice Ab nb cb) rfl); go_simp
                          simp only [Act.put, List.setIfInBounds_toArray, List.set_cons_zero, List.set_cons_succ]
                          refine WE.pure (d := some 149) rfl rfl (by rfl) (v := (.agg #[.bool ga, .slice Aa na ca])) (fun w' hk => ?_) ?_
                          · have c0 := hk.cell (Ba.out.cell (o := 0) (v := .bool ga) rfl); have c1 := hk.cell (Ba.out.cell (o := 1) (v := .slice Aa na ca) rfl); go_simp
                          simp only [Act.put, List.setIfInBounds_toArray, List.set_cons_zero, List.set_cons_succ]
                          refine WE.pure (d := some 150) rfl rfl (by rfl) (v := (.agg #[.bool gb, .slice Ab nb cb])) (fun w' hk => ?_) ?_
                          · have c0 := hk.cell (Bb.out.cell (o := 0) (v := .bool gb) rfl); have c1 := hk.cell (Bb.out.cell (o := 1) (v := .slice Ab nb cb) rfl); go_simp
                          simp only [Act.put, List.setIfInBounds_toArray, List.set_cons_zero, List.set_cons_succ]
                          refine WE.call (d := some 148) rfl rfl (by rfl) (f := 31) (args := #[(.agg #[.bool ga, .slice Aa na ca]), (.agg #[.bool gb, .slice Ab nb cb])]) (by go_simp) ?_
                          refine (mul_w Ra.out Rb.out (by omega) (by omega) (by omega)).mono ?_
                          rintro e wn ⟨v1, rfl, x1, hb⟩
                          obtain ⟨g19, A19, n19, c19, rfl⟩ := x1.shape
                          refine ⟨_, rfl, hb, ?_⟩
                          replace E := hid (E.out.trans hb)
                          replace Ba := hid (Ba.out.up hb)
                          replace Bb := hid (Bb.out.up hb)
                          replace V7 := hid (V7.out.up hb)
                          replace V8 := hid (V8.out.up hb)
                          replace V9 := hid (V9.out.up hb)
                          replace V10 := hid (V10.out.up hb)
                          replace V11 := hid (V11.out.up hb)
                          replace V12 := hid (V12.out.up hb)
                          replace V13 := hid (V13.out.up hb)
                          replace V14 := hid (V14.out.up hb)
                          replace Na := hid (Na.out.up hb)
                          replace Nb := hid (Nb.out.up hb)
                          replace Ra := hid (Ra.out.up hb)
                          replace Rb := hid (Rb.out.up hb)
                          replace Q1 := hid (Q1.out.up hb)
                          replace Q2 := hid (Q2.out.up hb)
                          replace Q3 := hid (Q3.out.up hb)
                          replace Q4 := hid (Q4.out.up hb)
                          replace Q5 := hid (Q5.out.up hb)
                          replace Q6 := hid (Q6.out.up hb)
                          replace Q7 := hid (Q7.out.up hb)
                          replace Q8 := hid (Q8.out.up hb)
                          have Q19 := hid x1
                          clear hb x1
                          simp only [Act.put, List.setIfInBounds_toArray, List.set_cons_zero, List.set_cons_succ]
                          refine WE.call (d := some 151) rfl rfl (by rfl) (f := 32) (args := #[(.agg #[.bool ga, .slice Aa na ca]), (.agg #[.bool gb, .slice Ab nb cb])]) (by go_simp) ?_
                          refine (rMul_w Ra.out Rb.out (by omega) (by omega)).mono ?_
                          rintro e wn ⟨v1, rfl, x1, hb⟩
                          obtain ⟨g20, A20, n20, c20, rfl⟩ := x1.shape
                          refine ⟨_, rfl, hb, ?_⟩
                          replace E := hid (E.out.trans hb)
                          replace Ba := hid (Ba.out.up hb)
                          replace Bb := hid (Bb.out.up hb)
                          replace V7 := hid (V7.out.up hb)
                          replace V8 := hid (V8.out.up hb)
                          replace V9 := hid (V9.out.up hb)
                          replace V10 := hid (V10.out.up hb)
                          replace V11 := hid (V11.out.up hb)
                          replace V12 := hid (V12.out.up hb)
                          replace V13 := hid (V13.out.up hb)
                          replace V14 := hid (V14.out.up hb)
                          replace Na := hid (Na.out.up hb)
                          replace Nb := hid (Nb.out.up hb)
                          replace Ra := hid (Ra.out.up hb)
                          replace Rb := hid (Rb.out.up hb)
                          replace Q1 := hid (Q1.out.up hb)
                          replace Q2 := hid (Q2.out.up hb)
                          replace Q3 := hid (Q3.out.up hb)
                          replace Q4 := hid (Q4.out.up hb)
                          replace Q5 := hid (Q5.out.up hb)
                          replace Q6 := hid (Q6.out.up hb)
                          replace Q7 := hid (Q7.out.up hb)
                          replace Q8 := hid (Q8.out.up hb)
                          replace Q19 := hid (Q19.out.up hb)
                          have Q20 := hid x1
                          clear hb x1
                          simp only [Act.put, List.setIfInBounds_toArray, List.set_cons_zero, List.set_cons_succ]
                          refine WE.call (d := some 152) rfl rfl (by rfl) (f := 14) (args := #[(.agg #[.bool g19, .slice A19 n19 c19]), (.agg #[.bool g20, .slice A20 n20 c20])]) (by go_simp) ?_
                          refine (equal_z (IsZ.to Q19.out (rfl)) (IsZ.to Q20.out (rfl))).mono ?_
                          rintro e wn ⟨rfl, hb⟩
                          refine ⟨_, rfl, hb, ?_⟩
                          replace E := hid (E.out.trans hb)
                          replace Ba := hid (Ba.out.up hb)
                          replace Bb := hid (Bb.out.up hb)
                          replace V7 := hid (V7.out.up hb)
                          replace V8 := hid (V8.out.up hb)
                          replace V9 := hid (V9.out.up hb)
                          replace V10 := hid (V10.out.up hb)
                          replace V11 := hid (V11.out.up hb)
                          replace V12 := hid (V12.out.up hb)
                          replace V13 := hid (V13.out.up hb)
                          replace V14 := hid (V14.out.up hb)
                          replace Na := hid (Na.out.up hb)
                          replace Nb := hid (Nb.out.up hb)
                          replace Ra := hid (Ra.out.up hb)
                          replace Rb := hid (Rb.out.up hb)
                          replace Q1 := hid (Q1.out.up hb)
                          replace Q2 := hid (Q2.out.up hb)
                          replace Q3 := hid (Q3.out.up hb)
                          replace Q4 := hid (Q4.out.up hb)
                          replace Q5 := hid (Q5.out.up hb)
                          replace Q6 := hid (Q6.out.up hb)
                          replace Q7 := hid (Q7.out.up hb)
                          replace Q8 := hid (Q8.out.up hb)
                          replace Q19 := hid (Q19.out.up hb)
                          replace Q20 := hid (Q20.out.up hb)
                          clear hb
                          simp only [Act.put, List.setIfInBounds_toArray, List.set_cons_zero, List.set_cons_succ]
                          clear Q19
                          clear Q20
                          refine WE.pure (d := some 153) rfl rfl (by rfl) (v := (.bool false)) (fun w' hk => ?_) ?_
                          · go_simp
                          simp only [Act.put, List.setIfInBounds_toArray, List.set_cons_zero, List.set_cons_succ]
                          as_aux_lemma =>
                            refine WE.pure (d := some 154) rfl rfl (by rfl) (v := (.bool false)) (fun w' hk => ?_) ?_
                            · go_simp
                            simp only [Act.put, List.setIfInBounds_toArray, List.set_cons_zero, List.set_cons_succ]
                            refine WE.done ?_
                            go_upto_region 15 with (fail)
                            refine wp_region_T [(0, 0), (1, 0), (2, 1), (3, 0), (4, 0), (5, 0), (6, 1), (7, 0), (8, 0), (9, 0), (10, 0), (11, 1), (12, 0), (13, 0), (14, 0), (15, 0), (16, 1), (17, 0), (18, 0)] (by kernel_rfl) fun wd hb => ?_
                            replace E := hid (E.out.trans hb)
                            replace Ba := hid (Ba.out.up hb)
                            replace Bb := hid (Bb.out.up hb)
                            replace V7 := hid (V7.out.up hb)
                            replace V8 := hid (V8.out.up hb)
                            replace V9 := hid (V9.out.up hb)
                            replace V10 := hid (V10.out.up hb)
                            replace V11 := hid (V11.out.up hb)
                            replace V12 := hid (V12.out.up hb)
                            replace V13 := hid (V13.out.up hb)
                            replace V14 := hid (V14.out.up hb)
                            replace Na := hid (Na.out.up hb)
                            replace Nb := hid (Nb.out.up hb)
                            replace Ra := hid (Ra.out.up hb)
                            replace Rb := hid (Rb.out.up hb)
                            replace Q1 := hid (Q1.out.up hb)
                            replace Q2 := hid (Q2.out.up hb)
                            replace Q3 := hid (Q3.out.up hb)
                            replace Q4 := hid (Q4.out.up hb)
                            replace Q5 := hid (Q5.out.up hb)
                            replace Q6 := hid (Q6.out.up hb)
                            replace Q7 := hid (Q7.out.up hb)
                            replace Q8 := hid (Q8.out.up hb)
                            clear hb
                            refine WE.pure (d := some 155) rfl rfl (by rfl) (v := (.agg #[.bool g1, .slice A1 n1 c1])) (fun w' hk => ?_) ?_
                            · have c0 := hk.cell (V7.out.cell (o := 0) (v := .bool g1) rfl); have c1 := hk.cell (V7.out.cell (o := 1) (v := .slice A1 n1 c1) rfl); go_simp
                            simp only [Act.put, List.setIfInBounds_toArray, List.set_cons_zero, List.set_cons_succ]
                            refine WE.pure (d := some 156) rfl rfl (by rfl) (v := (.agg #[.bool g3, .slice A3 n3 c3])) (fun w' hk => ?_) ?_
                            · have c0 := hk.cell (V9.out.cell (o := 0) (v := .bool g3) rfl); have c1 := hk.cell (V9.out.cell (o := 1) (v := .slice A3 n3 c3) rfl); go_simp
                            simp only [Act.put, List.setIfInBounds_toArray, List.set_cons_zero, List.set_cons_succ]
                            refine WE.call (d := some 157) rfl rfl (by rfl) (f := 14) (args := #[(.agg #[.bool g1, .slice A1 n1 c1]), (.agg #[.bool g3, .slice A3 n3 c3])]) (by go_simp) ?_
                            refine (equal_z (IsZ.to Q1.out (rfl)) (IsZ.to Q3.out (rfl))).mono ?_
                            rintro e wn ⟨rfl, hb⟩
                            refine ⟨_, rfl, hb, ?_⟩
                            replace E := hid (E.out.trans hb)
                            replace Ba := hid (Ba.out.up hb)
                            replace Bb := hid (Bb.out.up hb)
                            replace V7 := hid (V7.out.up hb)
                            replace V8 := hid (V8.out.up hb)
                            replace V9 := hid (V9.out.up hb)
                            replace V10 := hid (V10.out.up hb)
                            replace V11 := hid (V11.out.up hb)
                            replace V12 := hid (V12.out.up hb)
                            replace V13 := hid (V13.out.up hb)
                            replace V14 := hid (V14.out.up hb)
                            replace Na := hid (Na.out.up hb)
                            replace Nb := hid (Nb.out.up hb)
                            replace Ra := hid (Ra.out.up hb)
                            replace Rb := hid (Rb.out.up hb)
                            replace Q1 := hid (Q1.out.up hb)
                            replace Q2 := hid (Q2.out.up hb)
                            replace Q3 := hid (Q3.out.up hb)
                            replace Q4 := hid (Q4.out.up hb)
                            replace Q5 := hid (Q5.out.up hb)
                            replace Q6 := hid (Q6.out.up hb)
                            replace Q7 := hid (Q7.out.up hb)
                            replace Q8 := hid (Q8.out.up hb)
                            clear hb
                            simp only [Act.put, List.setIfInBounds_toArray, List.set_cons_zero, List.set_cons_succ]
                            refine WE.pure (d := some 158) rfl rfl (by rfl) (v := (.bool true)) (fun w' hk => ?_) ?_
                            · go_simp
                            simp only [Act.put, List.setIfInBounds_toArray, List.set_cons_zero, List.set_cons_succ]
                            refine WE.pure (d := some 159) rfl rfl (by rfl) (v := (.agg #[.bool g2, .slice A2 n2 c2])) (fun w' hk => ?_) ?_
                            · have c0 := hk.cell (V8.out.cell (o := 0) (v := .bool g2) rfl); have c1 := hk.cell (V8.out.cell (o := 1) (v := .slice A2 n2 c2) rfl); go_simp
                            simp only [Act.put, List.setIfInBounds_toArray, List.set_cons_zero, List.set_cons_succ]
                            refine WE.pure (d := some 160) rfl rfl (by rfl) (v := (.agg #[.bool g4, .slice A4 n4 c4])) (fun w' hk => ?_) ?_
                            · have c0 := hk.cell (V10.out.cell (o := 0) (v := .bool g4) rfl); have c1 := hk.cell (V10.out.cell (o := 1) (v := .slice A4 n4 c4) rfl); go_simp
                            simp only [Act.put, List.setIfInBounds_toArray, List.set_cons_zero, List.set_cons_succ]
                            refine WE.call (d := some 161) rfl rfl (by rfl) (f := 14) (args := #[(.agg #[.bool g2, .slice A2 n2 c2]), (.agg #[.bool g4, .slice A4 n4 c4])]) (by go_simp) ?_
                            refine (equal_z (IsZ.to Q2.out (rfl)) (IsZ.to Q4.out (rfl))).mono ?_
                            rintro e wn ⟨rfl, hb⟩
                            refine ⟨_, rfl, hb, ?_⟩
                            replace E := hid (E.out.trans hb)
                            replace Ba := hid (Ba.out.up hb)
                            replace Bb := hid (Bb.out.up hb)
                            replace V7 := hid (V7.out.up hb)
                            replace V8 := hid (V8.out.up hb)
                            replace V9 := hid (V9.out.up hb)
                            replace V10 := hid (V10.out.up hb)
                            replace V11 := hid (V11.out.up hb)
                            replace V12 := hid (V12.out.up hb)
                            replace V13 := hid (V13.out.up hb)
                            replace V14 := hid (V14.out.up hb)
                            replace Na := hid (Na.out.up hb)
                            replace Nb := hid (Nb.out.up hb)
                            replace Ra := hid (Ra.out.up hb)
                            replace Rb := hid (Rb.out.up hb)
                            replace Q1 := hid (Q1.out.up hb)
                            replace Q2 := hid (Q2.out.up hb)
                            replace Q3 := hid (Q3.out.up hb)
                            replace Q4 := hid (Q4.out.up hb)
                            replace Q5 := hid (Q5.out.up hb)
                            replace Q6 := hid (Q6.out.up hb)
                            replace Q7 := hid (Q7.out.up hb)
                            replace Q8 := hid (Q8.out.up hb)
                            clear hb
                            simp only [Act.put, List.setIfInBounds_toArray, List.set_cons_zero, List.set_cons_succ]
                            refine WE.pure (d := some 162) rfl rfl (by rfl) (v := (.bool true)) (fun w' hk => ?_) ?_
                            · go_simp
                            simp only [Act.put, List.setIfInBounds_toArray, List.set_cons_zero, List.set_cons_succ]
                            refine WE.pure (d := some 163) rfl rfl (by rfl) (v := (.bool true)) (fun w' hk => ?_) ?_
                            · go_simp
                            simp only [Act.put, List.setIfInBounds_toArray, List.set_cons_zero, List.set_cons_succ]
                            refine WE.pure (d := some 164) rfl rfl (by rfl) (v := (.agg #[.bool g5, .slice A5 n5 c5])) (fun w' hk => ?_) ?_
                            · have c0 := hk.cell (V11.out.cell (o := 0) (v := .bool g5) rfl); have c1 := hk.cell (V11.out.cell (o := 1) (v := .slice A5 n5 c5) rfl); go_simp
                            simp only [Act.put, List.setIfInBounds_toArray, List.set_cons_zero, List.set_cons_succ]
                            refine WE.pure (d := some 165) rfl rfl (by rfl) (v := (.agg #[.bool g7, .slice A7 n7 c7])) (fun w' hk => ?_) ?_
                            · have c0 := hk.cell (V13.out.cell (o := 0) (v := .bool g7) rfl); have c1 := hk.cell (V13.out.cell (o := 1) (v := .slice A7 n7 c7) rfl); go_simp
                            simp only [Act.put, List.setIfInBounds_toArray, List.set_cons_zero, List.set_cons_succ]
                            as_aux_lemma =>
                              refine WE.call (d := some 166) rfl rfl (by rfl) (f := 14) (args := #[(.agg #[.bool g5, .slice A5 n5 c5]), (.agg #[.bool g7, .slice A7 n7 c7])]) (by go_simp) ?_
                              refine (equal_z (IsZ.to Q5.out (rfl)) (IsZ.to Q7.out (rfl))).mono ?_
                              rintro e wn ⟨rfl, hb⟩
                              refine ⟨_, rfl, hb, ?_⟩
                              replace E := hid (E.out.trans hb)
                              replace Ba := hid (Ba.out.up hb)
                              replace Bb := hid (Bb.out.up hb)
                              replace V7 := hid (V7.out.up hb)
                              replace V8 := hid (V8.out.up hb)
                              replace V9 := hid (V9.out.up hb)
                              replace V10 := hid (V10.out.up hb)
                              replace V11 := hid (V11.out.up hb)
                              replace V12 := hid (V12.out.up hb)
                              replace V13 := hid (V13.out.up hb)
                              replace V14 := hid (V14.out.up hb)
                              replace Na := hid (Na.out.up hb)
                              replace Nb := hid (Nb.out.up hb)
                              replace Ra := hid (Ra.out.up hb)
                              replace Rb := hid (Rb.out.up hb)
                              replace Q1 := hid (Q1.out.up hb)
                              replace Q2 := hid (Q2.out.up hb)
                              replace Q3 := hid (Q3.out.up hb)
                              replace Q4 := hid (Q4.out.up hb)
                              replace Q5 := hid (Q5.out.up hb)
                              replace Q6 := hid (Q6.out.up hb)
                              replace Q7 := hid (Q7.out.up hb)
                              replace Q8 := hid (Q8.out.up hb)
                              clear hb
                              simp only [Act.put, List.setIfInBounds_toArray, List.set_cons_zero, List.set_cons_succ]
                              refine WE.pure (d := some 167) rfl rfl (by rfl) (v := (.bool true)) (fun w' hk => ?_) ?_
                              · go_simp
                              simp only [Act.put, List.setIfInBounds_toArray, List.set_cons_zero, List.set_cons_succ]
                              refine WE.pure (d := some 168) rfl rfl (by rfl) (v := (.bool true)) (fun w' hk => ?_) ?_
                              · go_simp
                              simp only [Act.put, List.setIfInBounds_toArray, List.set_cons_zero, List.set_cons_succ]
                              refine WE.pure (d := some 169) rfl rfl (by rfl) (v := (.agg #[.bool g6, .slice A6 n6 c6])) (fun w' hk => ?_) ?_
                              · have c0 := hk.cell (V12.out.cell (o := 0) (v := .bool g6) rfl); have c1 := hk.cell (V12.out.cell (o := 1) (v := .slice A6 n6 c6) rfl); go_simp
                              simp only [Act.put, List.setIfInBounds_toArray, List.set_cons_zero, List.set_cons_succ]
                              refine WE.pure (d := some 170) rfl rfl (by rfl) (v := (.agg #[.bool g8, .slice A8 n8 c8])) (fun w' hk => ?_) ?_
                              · have c0 := hk.cell (V14.out.cell (o := 0) (v := .bool g8) rfl); have c1 := hk.cell (V14.out.cell (o := 1) (v := .slice A8 n8 c8) rfl); go_simp
                              simp only [Act.put, List.setIfInBounds_toArray, List.set_cons_zero, List.set_cons_succ]
                              refine WE.call (d := some 171) rfl rfl (by rfl) (f := 14) (args := #[(.agg #[.bool g6, .slice A6 n6 c6]), (.agg #[.bool g8, .slice A8 n8 c8])]) (by go_simp) ?_
                              refine (equal_z (IsZ.to Q6.out (rfl)) (IsZ.to Q8.out (rfl))).mono ?_
                              rintro e wn ⟨rfl, hb⟩
                              refine ⟨_, rfl, hb, ?_⟩
                              replace E := hid (E.out.trans hb)
                              replace Ba := hid (Ba.out.up hb)
                              replace Bb := hid (Bb.out.up hb)
                              replace V7 := hid (V7.out.up hb)
                              replace V8 := hid (V8.out.up hb)
                              replace V9 := hid (V9.out.up hb)
                              replace V10 := hid (V10.out.up hb)
                              replace V11 := hid (V11.out.up hb)
                              replace V12 := hid (V12.out.up hb)
                              replace V13 := hid (V13.out.up hb)
                              replace V14 := hid (V14.out.up hb)
                              replace Na := hid (Na.out.up hb)
                              replace Nb := hid (Nb.out.up hb)
                              replace Ra := hid (Ra.out.up hb)
                              replace Rb := hid (Rb.out.up hb)
                              replace Q1 := hid (Q1.out.up hb)
                              replace Q2 := hid (Q2.out.up hb)
                              replace Q3 := hid (Q3.out.up hb)
                              replace Q4 := hid (Q4.out.up hb)
                              replace Q5 := hid (Q5.out.up hb)
                              replace Q6 := hid (Q6.out.up hb)
                              replace Q7 := hid (Q7.out.up hb)
                              replace Q8 := hid (Q8.out.up hb)
                              clear hb
                              simp only [Act.put, List.setIfInBounds_toArray, List.set_cons_zero, List.set_cons_succ]
                              refine WE.pure (d := some 172) rfl rfl (by rfl) (v := (.bool true)) (fun w' hk => ?_) ?_
                              · go_simp
                              simp only [Act.put, List.setIfInBounds_toArray, List.set_cons_zero, List.set_cons_succ]
                              refine WE.pure (d := some 6) rfl rfl (by rfl) (v := (.bool true)) (fun w' hk => ?_) ?_
                              · go_simp
                              simp only [Act.put, List.setIfInBounds_toArray, List.set_cons_zero, List.set_cons_succ]
                              refine WE.done ?_
                              go_wp2
                              go_ret
                              exact ⟨rfl, E.out⟩

set_option maxRecDepth 100000 in
set_option maxHeartbeats 8000000 in
theorem wholeTells_no (W : World) (ga : Bool) (Aa : Option Addr) (na ca : Nat) (la : List Nat) (ha : Num W W.heap.size (.slice Aa na ca) la) (gb : Bool) (Ab : Option Addr) (nb cb : Nat) (lb : List Nat) (hb : Num W W.heap.size (.slice Ab nb cb) lb) (n : Int) (h1 : -9223372036854775808 ≤ n) (h2 : n ≤ 9223372036854775807) (fa : Hid (decide (la.length ≤ 8) = true)) (fb : Hid (decide (lb.length ≤ 8) = true)) (x : Int) (HX : Hid (x = M.zv ga la)) (y : Int) (HY : Hid (y = M.zv gb lb)) (hcond : Hid (¬ M.fits x)) :
    Calls Try.prog 3 #[.agg #[.bool ga, .slice Aa na ca], .agg #[.bool gb, .slice Ab nb cb], .int .i64 n] W (fun e w' => e = .returned (.bool true) ∧ Ext W w') := by
  have HN1 := hid h1
  have HN2 := hid h2
  clear h1 h2
  obtain ⟨ia, hia⟩ : ∃ b : Bool, M.isZ ga la = b := ⟨_, rfl⟩
  obtain ⟨s, hs⟩ : ∃ s : Int, x.sign = s := ⟨_, rfl⟩
  obtain ⟨z, hz⟩ : ∃ z : Int, M.zcmp x y = z := ⟨_, rfl⟩
  obtain ⟨sm, hsm⟩ : ∃ b : Bool, decide (x = y) = b := ⟨_, rfl⟩
  have HIA := hid hia
  have HS := hid hs
  have HZ := hid hz
  have HSM := hid hsm
  clear hia hs hz hsm
  have Na := hid ha
  have Nb := hid hb
  have Ra := hid (worth_of ha (of_decide_eq_true fa.out) HX.out)
  have Rb := hid (worth_of hb (of_decide_eq_true fb.out) HY.out)
  clear ha hb
  go_enter Try.func3, Try.ntmps3
  go_upto_region 1 with (fail)
  have E := hid (((Ext.refl W).alloc' (.cells #[.bool ga, .slice Aa na ca] 24)).alloc' (.cells #[.bool gb, .slice Ab nb cb] 24))
  have Ba : Hid (Box ((W.alloc (.cells #[.bool ga, .slice Aa na ca] 24)).alloc (.cells #[.bool gb, .slice Ab nb cb] 24)) (W.heap.size) #[.bool ga, .slice Aa na ca] 24) := hid ((Box.at_ (w := W) #[.bool ga, .slice Aa na ca] 24 (by simp)).alloc (.cells #[.bool gb, .slice Ab nb cb] 24))
  have Bb : Hid (Box ((W.alloc (.cells #[.bool ga, .slice Aa na ca] 24)).alloc (.cells #[.bool gb, .slice Ab nb cb] 24)) (W.heap.size + 1) #[.bool gb, .slice Ab nb cb] 24) := hid (Box.at_ (w := (W.alloc (.cells #[.bool ga, .slice Aa na ca] 24))) #[.bool gb, .slice Ab nb cb] 24 (by simp))
  replace Na := hid (Na.out.up E.out)
  replace Nb := hid (Nb.out.up E.out)
  replace Ra := hid (Ra.out.up E.out)
  replace Rb := hid (Rb.out.up E.out)
  go_upto_region 1 with (fail)
  refine wp_region_T [(0, 1), (1, 0)] (by kernel_rfl) fun wd hb => ?_
  replace E := hid (E.out.trans hb)
  replace Ba := hid (Ba.out.up hb)
  replace Bb := hid (Bb.out.up hb)
  replace Na := hid (Na.out.up hb)
  replace Nb := hid (Nb.out.up hb)
  replace Ra := hid (Ra.out.up hb)
  replace Rb := hid (Rb.out.up hb)
  clear hb
  refine WE.call (d := some 19) rfl rfl (by rfl) (f := 4) (args := #[]) (by go_simp) ?_
  refine (known2 _).mono ?_
  rintro e wn ⟨rfl, hb⟩
  refine ⟨_, rfl, hb, ?_⟩
  replace E := hid (E.out.trans hb)
  replace Ba := hid (Ba.out.up hb)
  replace Bb := hid (Bb.out.up hb)
  replace Na := hid (Na.out.up hb)
  replace Nb := hid (Nb.out.up hb)
  replace Ra := hid (Ra.out.up hb)
  replace Rb := hid (Rb.out.up hb)
  clear hb
  simp only [Act.put, List.setIfInBounds_toArray, List.set_cons_zero, List.set_cons_succ]
  refine WE.pure (d := some 20) rfl rfl (by rfl) (v := (.bool false)) (fun w' hk => ?_) ?_
  · go_simp
  simp only [Act.put, List.setIfInBounds_toArray, List.set_cons_zero, List.set_cons_succ]
  refine WE.done ?_
  go_upto_region 3 with (fail)
  refine wp_region_T [(0, 0), (1, 1), (2, 0), (3, 0), (4, 0), (5, 1), (6, 0), (7, 0)] (by kernel_rfl) fun wd hb => ?_
  replace E := hid (E.out.trans hb)
  replace Ba := hid (Ba.out.up hb)
  replace Bb := hid (Bb.out.up hb)
  replace Na := hid (Na.out.up hb)
  replace Nb := hid (Nb.out.up hb)
  replace Ra := hid (Ra.out.up hb)
  replace Rb := hid (Rb.out.up hb)
  clear hb
  refine WE.pure (d := some 21) rfl rfl (by rfl) (v := (.agg #[.bool ga, .slice Aa na ca])) (fun w' hk => ?_) ?_
  · have c0 := hk.cell (Ba.out.cell (o := 0) (v := .bool ga) rfl); have c1 := hk.cell (Ba.out.cell (o := 1) (v := .slice Aa na ca) rfl); go_simp
  simp only [Act.put, List.setIfInBounds_toArray, List.set_cons_zero, List.set_cons_succ]
  refine WE.call (d := some 22) rfl rfl (by rfl) (f := 5) (args := #[(.agg #[.bool ga, .slice Aa na ca])]) (by go_simp) ?_
  refine (few_z Na.out fa.out).mono ?_
  rintro e wn ⟨rfl, hb⟩
  refine ⟨_, rfl, hb, ?_⟩
  replace E := hid (E.out.trans hb)
  replace Ba := hid (Ba.out.up hb)
  replace Bb := hid (Bb.out.up hb)
  replace Na := hid (Na.out.up hb)
  replace Nb := hid (Nb.out.up hb)
  replace Ra := hid (Ra.out.up hb)
  replace Rb := hid (Rb.out.up hb)
  clear hb
  simp only [Act.put, List.setIfInBounds_toArray, List.set_cons_zero, List.set_cons_succ]
  refine WE.pure (d := some 23) rfl rfl (by rfl) (v := (.bool false)) (fun w' hk => ?_) ?_
  · go_simp
  simp only [Act.put, List.setIfInBounds_toArray, List.set_cons_zero, List.set_cons_succ]
  refine WE.pure (d := some 24) rfl rfl (by rfl) (v := (.bool false)) (fun w' hk => ?_) ?_
  · go_simp
  simp only [Act.put, List.setIfInBounds_toArray, List.set_cons_zero, List.set_cons_succ]
  refine WE.pure (d := some 25) rfl rfl (by rfl) (v := (.agg #[.bool gb, .slice Ab nb cb])) (fun w' hk => ?_) ?_
  · have c0 := hk.cell (Bb.out.cell (o := 0) (v := .bool gb) rfl); have c1 := hk.cell (Bb.out.cell (o := 1) (v := .slice Ab nb cb) rfl); go_simp
  simp only [Act.put, List.setIfInBounds_toArray, List.set_cons_zero, List.set_cons_succ]
  refine WE.call (d := some 26) rfl rfl (by rfl) (f := 5) (args := #[(.agg #[.bool gb, .slice Ab nb cb])]) (by go_simp) ?_
  refine (few_z Nb.out fb.out).mono ?_
  rintro e wn ⟨rfl, hb⟩
  refine ⟨_, rfl, hb, ?_⟩
  replace E := hid (E.out.trans hb)
  replace Ba := hid (Ba.out.up hb)
  replace Bb := hid (Bb.out.up hb)
  replace Na := hid (Na.out.up hb)
  replace Nb := hid (Nb.out.up hb)
  replace Ra := hid (Ra.out.up hb)
  replace Rb := hid (Rb.out.up hb)
  clear hb
  simp only [Act.put, List.setIfInBounds_toArray, List.set_cons_zero, List.set_cons_succ]
  refine WE.pure (d := some 27) rfl rfl (by rfl) (v := (.bool false)) (fun w' hk => ?_) ?_
  · go_simp
  simp only [Act.put, List.setIfInBounds_toArray, List.set_cons_zero, List.set_cons_succ]
  refine WE.pure (d := some 28) rfl rfl (by rfl) (v := (.bool false)) (fun w' hk => ?_) ?_
  · go_simp
  simp only [Act.put, List.setIfInBounds_toArray, List.set_cons_zero, List.set_cons_succ]
  refine WE.done ?_
  go_upto_region 5 with (fail)
  refine wp_region_T [(0, 0), (1, 0), (2, 1), (3, 0), (4, 0), (5, 0), (6, 1), (7, 1), (8, 4), (9, 4)] (by kernel_rfl) fun wd hb => ?_
  replace E := hid (E.out.trans hb)
  replace Ba := hid (Ba.out.up hb)
  replace Bb := hid (Bb.out.up hb)
  replace Na := hid (Na.out.up hb)
  replace Nb := hid (Nb.out.up hb)
  replace Ra := hid (Ra.out.up hb)
  replace Rb := hid (Rb.out.up hb)
  clear hb
  refine WE.pure (d := some 30) rfl rfl (by rfl) (v := (.agg #[.bool ga, .slice Aa na ca])) (fun w' hk => ?_) ?_
  · have c0 := hk.cell (Ba.out.cell (o := 0) (v := .bool ga) rfl); have c1 := hk.cell (Ba.out.cell (o := 1) (v := .slice Aa na ca) rfl); go_simp
  simp only [Act.put, List.setIfInBounds_toArray, List.set_cons_zero, List.set_cons_succ]
  as_aux_lemma =>
    refine WE.pure (d := some 31) rfl rfl (by rfl) (v := (.agg #[.bool gb, .slice Ab nb cb])) (fun w' hk => ?_) ?_
    · have c0 := hk.cell (Bb.out.cell (o := 0) (v := .bool gb) rfl); have c1 := hk.cell (Bb.out.cell (o := 1) (v := .slice Ab nb cb) rfl); go_simp
    simp only [Act.put, List.setIfInBounds_toArray, List.set_cons_zero, List.set_cons_succ]
    refine WE.call (d := some 32) rfl rfl (by rfl) (f := 6) (args := #[(.agg #[.bool ga, .slice Aa na ca]), (.agg #[.bool gb, .slice Ab nb cb])]) (by go_simp) ?_
    refine (floor_w Ra.out Rb.out (by omega) (by omega)).mono ?_
    rintro e wn ⟨v1, v2, rfl, x1, x2, hb⟩
    obtain ⟨g1, A1, n1, c1, rfl⟩ := x1.shape
    obtain ⟨g2, A2, n2, c2, rfl⟩ := x2.shape
    refine ⟨_, rfl, hb, ?_⟩
    replace E := hid (E.out.trans hb)
    replace Ba := hid (Ba.out.up hb)
    replace Bb := hid (Bb.out.up hb)
    replace Na := hid (Na.out.up hb)
    replace Nb := hid (Nb.out.up hb)
    replace Ra := hid (Ra.out.up hb)
    replace Rb := hid (Rb.out.up hb)
    have Q1 := hid x1
    have Q2 := hid x2
    clear hb x1 x2
    simp only [Act.put, List.setIfInBounds_toArray, List.set_cons_zero, List.set_cons_succ]
    refine WE.pure (d := some 29) rfl rfl (by rfl) (v := (.tuple #[(.agg #[.bool g1, .slice A1 n1 c1]), (.agg #[.bool g2, .slice A2 n2 c2])])) (fun w' hk => ?_) ?_
    · go_simp
    simp only [Act.put, List.setIfInBounds_toArray, List.set_cons_zero, List.set_cons_succ]
    refine WE.pure (d := some 33) rfl rfl (by rfl) (v := (.agg #[.bool g1, .slice A1 n1 c1])) (fun w' hk => ?_) ?_
    · go_simp
    simp only [Act.put, List.setIfInBounds_toArray, List.set_cons_zero, List.set_cons_succ]
    refine WE.pure (d := some 34) rfl rfl (by rfl) (v := (.agg #[.bool g2, .slice A2 n2 c2])) (fun w' hk => ?_) ?_
    · go_simp
    simp only [Act.put, List.setIfInBounds_toArray, List.set_cons_zero, List.set_cons_succ]
    refine WE.new (d := some 7) (cs := #[.bool false, .slice none 0 0]) (t := 24) (v := fun g => (.pointer (some ⟨g, 0, none⟩))) rfl rfl (by rfl) (fun w => by go_simp) fun gV7 wv hx0 hbox hge => ?_
    have HNV7Ba := hid (show gV7 ≠ (W.heap.size) by have := Ba.out.lt; omega)
    have HNV7Bb := hid (show gV7 ≠ (W.heap.size + 1) by have := Bb.out.lt; omega)
    have HGV7 := hid (show W.heap.size ≤ gV7 by have := E.out.size; omega)
    replace E := hid (E.out.trans hx0)
    replace Ba := hid (Ba.out.up hx0)
    replace Bb := hid (Bb.out.up hx0)
    replace Na := hid (Na.out.up hx0)
    replace Nb := hid (Nb.out.up hx0)
    replace Ra := hid (Ra.out.up hx0)
    replace Rb := hid (Rb.out.up hx0)
    replace Q1 := hid (Q1.out.up hx0)
    replace Q2 := hid (Q2.out.up hx0)
    have V7 : Hid (Box wv gV7 #[.bool false, .slice none 0 0] 24) := hid hbox
    clear hx0 hbox hge
    simp only [Act.put, List.setIfInBounds_toArray, List.set_cons_zero, List.set_cons_succ]
    refine WE.new (d := some 8) (cs := #[.bool false, .slice none 0 0]) (t := 24) (v := fun g => (.pointer (some ⟨g, 0, none⟩))) rfl rfl (by rfl) (fun w => by go_simp) fun gV8 wv hx0 hbox hge => ?_
    have HNV8Ba := hid (show gV8 ≠ (W.heap.size) by have := Ba.out.lt; omega)
    have HNV8Bb := hid (show gV8 ≠ (W.heap.size + 1) by have := Bb.out.lt; omega)
    have HNV8V7 := hid (show gV8 ≠ gV7 by have := V7.out.lt; omega)
    have HGV8 := hid (show W.heap.size ≤ gV8 by have := E.out.size; omega)
    replace E := hid (E.out.trans hx0)
    replace Ba := hid (Ba.out.up hx0)
    replace Bb := hid (Bb.out.up hx0)
    replace V7 := hid (V7.out.up hx0)
    replace Na := hid (Na.out.up hx0)
    replace Nb := hid (Nb.out.up hx0)
    replace Ra := hid (Ra.out.up hx0)
    replace Rb := hid (Rb.out.up hx0)
    replace Q1 := hid (Q1.out.up hx0)
    replace Q2 := hid (Q2.out.up hx0)
    have V8 : Hid (Box wv gV8 #[.bool false, .slice none 0 0] 24) := hid hbox
    clear hx0 hbox hge
    simp only [Act.put, List.setIfInBounds_toArray, List.set_cons_zero, List.set_cons_succ]
    refine WE.store2 (g := gV7) (x := .bool g1) (y := .slice A1 n1 c1) (t := 24) rfl rfl (by rfl) (fun w hb => ?_) V7.out (by rfl) fun ws hk hs => ?_
    · have c0 := hb.cell (o := 0) (v := .bool false) rfl; have f0 := hb.free 0; have c1 := hb.cell (o := 1) (v := .slice none 0 0) rfl; have f1 := hb.free 1; go_simp
    intro hbx
    replace E := hid (E.out.keptG hk HGV7.out)
    replace Ba := hid (Ba.out.kept hk (by simpa using HNV7Ba.out.symm))
    replace Bb := hid (Bb.out.kept hk (by simpa using HNV7Bb.out.symm))
    replace V7 := hid hbx
    replace V8 := hid (V8.out.kept hk (by simpa using HNV8V7.out))
    replace Na := hid (Na.out.kz hs)
    replace Nb := hid (Nb.out.kz hs)
    replace Ra := hid (Ra.out.kz hs)
    replace Rb := hid (Rb.out.kz hs)
    replace Q1 := hid (Q1.out.kz hs)
    replace Q2 := hid (Q2.out.kz hs)
    clear hk hs hbx
    refine WE.store2 (g := gV8) (x := .bool g2) (y := .slice A2 n2 c2) (t := 24) rfl rfl (by rfl) (fun w hb => ?_) V8.out (by rfl) fun ws hk hs => ?_
    · have c0 := hb.cell (o := 0) (v := .bool false) rfl; have f0 := hb.free 0; have c1 := hb.cell (o := 1) (v := .slice none 0 0) rfl; have f1 := hb.free 1; go_simp
    intro hbx
    replace E := hid (E.out.keptG hk HGV8.out)
    replace Ba := hid (Ba.out.kept hk (by simpa using HNV8Ba.out.symm))
    replace Bb := hid (Bb.out.kept hk (by simpa using HNV8Bb.out.symm))
    replace V7 := hid (V7.out.kept hk (by simpa using HNV8V7.out.symm))
    replace V8 := hid hbx
    replace Na := hid (Na.out.kz hs)
    replace Nb := hid (Nb.out.kz hs)
    replace Ra := hid (Ra.out.kz hs)
    replace Rb := hid (Rb.out.kz hs)
    replace Q1 := hid (Q1.out.kz hs)
    replace Q2 := hid (Q2.out.kz hs)
    clear hk hs hbx
    refine WE.done ?_
    go_upto_region 6 with (fail)
    refine wp_region_T [(0, 0), (1, 0), (2, 1), (3, 0), (4, 0), (5, 0), (6, 1), (7, 1), (8, 4), (9, 4)] (by kernel_rfl) fun wd hb => ?_
    replace E := hid (E.out.trans hb)
    replace Ba := hid (Ba.out.up hb)
    replace Bb := hid (Bb.out.up hb)
    replace V7 := hid (V7.out.up hb)
    replace V8 := hid (V8.out.up hb)
    replace Na := hid (Na.out.up hb)
    replace Nb := hid (Nb.out.up hb)
    replace Ra := hid (Ra.out.up hb)
    replace Rb := hid (Rb.out.up hb)
    replace Q1 := hid (Q1.out.up hb)
    replace Q2 := hid (Q2.out.up hb)
    clear hb
    refine WE.pure (d := some 36) rfl rfl (by rfl) (v := (.agg #[.bool ga, .slice Aa na ca])) (fun w' hk => ?_) ?_
    · have c0 := hk.cell (Ba.out.cell (o := 0) (v := .bool ga) rfl); have c1 := hk.cell (Ba.out.cell (o := 1) (v := .slice Aa na ca) rfl); go_simp
    simp only [Act.put, List.setIfInBounds_toArray, List.set_cons_zero, List.set_cons_succ]
    refine WE.pure (d := some 37) rfl rfl (by rfl) (v := (.agg #[.bool gb, .slice Ab nb cb])) (fun w' hk => ?_) ?_
    · have c0 := hk.cell (Bb.out.cell (o := 0) (v := .bool gb) rfl); have c1 := hk.cell (Bb.out.cell (o := 1) (v := .slice Ab nb cb) rfl); go_simp
    simp only [Act.put, List.setIfInBounds_toArray, List.set_cons_zero, List.set_cons_succ]
    refine WE.call (d := some 38) rfl rfl (by rfl) (f := 7) (args := #[(.agg #[.bool ga, .slice Aa na ca]), (.agg #[.bool gb, .slice Ab nb cb])]) (by go_simp) ?_
    refine (rFloor_w Ra.out Rb.out (by omega) (by omega)).mono ?_
    rintro e wn ⟨v1, v2, rfl, x1, x2, hb⟩
    obtain ⟨g3, A3, n3, c3, rfl⟩ := x1.shape
    obtain ⟨g4, A4, n4, c4, rfl⟩ := x2.shape
    refine ⟨_, rfl, hb, ?_⟩
    replace E := hid (E.out.trans hb)
    replace Ba := hid (Ba.out.up hb)
    replace Bb := hid (Bb.out.up hb)
    replace V7 := hid (V7.out.up hb)
    replace V8 := hid (V8.out.up hb)
    replace Na := hid (Na.out.up hb)
    replace Nb := hid (Nb.out.up hb)
    replace Ra := hid (Ra.out.up hb)
    replace Rb := hid (Rb.out.up hb)
    replace Q1 := hid (Q1.out.up hb)
    replace Q2 := hid (Q2.out.up hb)
    have Q3 := hid x1
    have Q4 := hid x2
    clear hb x1 x2
    simp only [Act.put, List.setIfInBounds_toArray, List.set_cons_zero, List.set_cons_succ]
    as_aux_lemma =>
      refine WE.pure (d := some 35) rfl rfl (by rfl) (v := (.tuple #[(.agg #[.bool g3, .slice A3 n3 c3]), (.agg #[.bool g4, .slice A4 n4 c4])])) (fun w' hk => ?_) ?_
      · go_simp
      simp only [Act.put, List.setIfInBounds_toArray, List.set_cons_zero, List.set_cons_succ]
      refine WE.pure (d := some 39) rfl rfl (by rfl) (v := (.agg #[.bool g3, .slice A3 n3 c3])) (fun w' hk => ?_) ?_
      · go_simp
      simp only [Act.put, List.setIfInBounds_toArray, List.set_cons_zero, List.set_cons_succ]
      refine WE.pure (d := some 40) rfl rfl (by rfl) (v := (.agg #[.bool g4, .slice A4 n4 c4])) (fun w' hk => ?_) ?_
      · go_simp
      simp only [Act.put, List.setIfInBounds_toArray, List.set_cons_zero, List.set_cons_succ]
      refine WE.new (d := some 9) (cs := #[.bool false, .slice none 0 0]) (t := 24) (v := fun g => (.pointer (some ⟨g, 0, none⟩))) rfl rfl (by rfl) (fun w => by go_simp) fun gV9 wv hx0 hbox hge => ?_
      have HNV9Ba := hid (show gV9 ≠ (W.heap.size) by have := Ba.out.lt; omega)
      have HNV9Bb := hid (show gV9 ≠ (W.heap.size + 1) by have := Bb.out.lt; omega)
      have HNV9V7 := hid (show gV9 ≠ gV7 by have := V7.out.lt; omega)
      have HNV9V8 := hid (show gV9 ≠ gV8 by have := V8.out.lt; omega)
      have HGV9 := hid (show W.heap.size ≤ gV9 by have := E.out.size; omega)
      replace E := hid (E.out.trans hx0)
      replace Ba := hid (Ba.out.up hx0)
      replace Bb := hid (Bb.out.up hx0)
      replace V7 := hid (V7.out.up hx0)
      replace V8 := hid (V8.out.up hx0)
      replace Na := hid (Na.out.up hx0)
      replace Nb := hid (Nb.out.up hx0)
      replace Ra := hid (Ra.out.up hx0)
      replace Rb := hid (Rb.out.up hx0)
      replace Q1 := hid (Q1.out.up hx0)
      replace Q2 := hid (Q2.out.up hx0)
      replace Q3 := hid (Q3.out.up hx0)
      replace Q4 := hid (Q4.out.up hx0)
      have V9 : Hid (Box wv gV9 #[.bool false, .slice none 0 0] 24) := hid hbox
      clear hx0 hbox hge
      simp only [Act.put, List.setIfInBounds_toArray, List.set_cons_zero, List.set_cons_succ]
      refine WE.new (d := some 10) (cs := #[.bool false, .slice none 0 0]) (t := 24) (v := fun g => (.pointer (some ⟨g, 0, none⟩))) rfl rfl (by rfl) (fun w => by go_simp) fun gV10 wv hx0 hbox hge => ?_
      have HNV10Ba := hid (show gV10 ≠ (W.heap.size) by have := Ba.out.lt; omega)
      have HNV10Bb := hid (show gV10 ≠ (W.heap.size + 1) by have := Bb.out.lt; omega)
      have HNV10V7 := hid (show gV10 ≠ gV7 by have := V7.out.lt; omega)
      have HNV10V8 := hid (show gV10 ≠ gV8 by have := V8.out.lt; omega)
      have HNV10V9 := hid (show gV10 ≠ gV9 by have := V9.out.lt; omega)
      have HGV10 := hid (show W.heap.size ≤ gV10 by have := E.out.size; omega)
      replace E := hid (E.out.trans hx0)
      replace Ba := hid (Ba.out.up hx0)
      replace Bb := hid (Bb.out.up hx0)
      replace V7 := hid (V7.out.up hx0)
      replace V8 := hid (V8.out.up hx0)
      replace V9 := hid (V9.out.up hx0)
      replace Na := hid (Na.out.up hx0)
      replace Nb := hid (Nb.out.up hx0)
      replace Ra := hid (Ra.out.up hx0)
      replace Rb := hid (Rb.out.up hx0)
      replace Q1 := hid (Q1.out.up hx0)
      replace Q2 := hid (Q2.out.up hx0)
      replace Q3 := hid (Q3.out.up hx0)
      replace Q4 := hid (Q4.out.up hx0)
      have V10 : Hid (Box wv gV10 #[.bool false, .slice none 0 0] 24) := hid hbox
      clear hx0 hbox hge
      simp only [Act.put, List.setIfInBounds_toArray, List.set_cons_zero, List.set_cons_succ]
      refine WE.store2 (g := gV9) (x := .bool g3) (y := .slice A3 n3 c3) (t := 24) rfl rfl (by rfl) (fun w hb => ?_) V9.out (by rfl) fun ws hk hs => ?_
      · have c0 := hb.cell (o := 0) (v := .bool false) rfl; have f0 := hb.free 0; have c1 := hb.cell (o := 1) (v := .slice none 0 0) rfl; have f1 := hb.free 1; go_simp
      intro hbx
      replace E := hid (E.out.keptG hk HGV9.out)
      replace Ba := hid (Ba.out.kept hk (by simpa using HNV9Ba.out.symm))
      replace Bb := hid (Bb.out.kept hk (by simpa using HNV9Bb.out.symm))
      replace V7 := hid (V7.out.kept hk (by simpa using HNV9V7.out.symm))
      replace V8 := hid (V8.out.kept hk (by simpa using HNV9V8.out.symm))
      replace V9 := hid hbx
      replace V10 := hid (V10.out.kept hk (by simpa using HNV10V9.out))
      replace Na := hid (Na.out.kz hs)
      replace Nb := hid (Nb.out.kz hs)
      replace Ra := hid (Ra.out.kz hs)
      replace Rb := hid (Rb.out.kz hs)
      replace Q1 := hid (Q1.out.kz hs)
      replace Q2 := hid (Q2.out.kz hs)
      replace Q3 := hid (Q3.out.kz hs)
      replace Q4 := hid (Q4.out.kz hs)
      clear hk hs hbx
      refine WE.store2 (g := gV10) (x := .bool g4) (y := .slice A4 n4 c4) (t := 24) rfl rfl (by rfl) (fun w hb => ?_) V10.out (by rfl) fun ws hk hs => ?_
      · have c0 := hb.cell (o := 0) (v := .bool false) rfl; have f0 := hb.free 0; have c1 := hb.cell (o := 1) (v := .slice none 0 0) rfl; have f1 := hb.free 1; go_simp
      intro hbx
      replace E := hid (E.out.keptG hk HGV10.out)
      replace Ba := hid (Ba.out.kept hk (by simpa using HNV10Ba.out.symm))
      replace Bb := hid (Bb.out.kept hk (by simpa using HNV10Bb.out.symm))
      replace V7 := hid (V7.out.kept hk (by simpa using HNV10V7.out.symm))
      replace V8 := hid (V8.out.kept hk (by simpa using HNV10V8.out.symm))
      replace V9 := hid (V9.out.kept hk (by simpa using HNV10V9.out.symm))
      replace V10 := hid hbx
      replace Na := hid (Na.out.kz hs)
      replace Nb := hid (Nb.out.kz hs)
      replace Ra := hid (Ra.out.kz hs)
      replace Rb := hid (Rb.out.kz hs)
      replace Q1 := hid (Q1.out.kz hs)
      replace Q2 := hid (Q2.out.kz hs)
      replace Q3 := hid (Q3.out.kz hs)
      replace Q4 := hid (Q4.out.kz hs)
      clear hk hs hbx
      refine WE.done ?_
      go_upto_region 7 with (fail)
      refine wp_region_T [(0, 0), (1, 0), (2, 1), (3, 0), (4, 0), (5, 0), (6, 1), (7, 1), (8, 4), (9, 4)] (by kernel_rfl) fun wd hb => ?_
      replace E := hid (E.out.trans hb)
      replace Ba := hid (Ba.out.up hb)
      replace Bb := hid (Bb.out.up hb)
      replace V7 := hid (V7.out.up hb)
      replace V8 := hid (V8.out.up hb)
      replace V9 := hid (V9.out.up hb)
      replace V10 := hid (V10.out.up hb)
      replace Na := hid (Na.out.up hb)
      replace Nb := hid (Nb.out.up hb)
      replace Ra := hid (Ra.out.up hb)
      replace Rb := hid (Rb.out.up hb)
      replace Q1 := hid (Q1.out.up hb)
      replace Q2 := hid (Q2.out.up hb)
      replace Q3 := hid (Q3.out.up hb)
      replace Q4 := hid (Q4.out.up hb)
      clear hb
      refine WE.pure (d := some 42) rfl rfl (by rfl) (v := (.agg #[.bool ga, .slice Aa na ca])) (fun w' hk => ?_) ?_
      · have c0 := hk.cell (Ba.out.cell (o := 0) (v := .bool ga) rfl); have c1 := hk.cell (Ba.out.cell (o := 1) (v := .slice Aa na ca) rfl); go_simp
      simp only [Act.put, List.setIfInBounds_toArray, List.set_cons_zero, List.set_cons_succ]
      refine WE.pure (d := some 43) rfl rfl (by rfl) (v := (.agg #[.bool gb, .slice Ab nb cb])) (fun w' hk => ?_) ?_
      · have c0 := hk.cell (Bb.out.cell (o := 0) (v := .bool gb) rfl); have c1 := hk.cell (Bb.out.cell (o := 1) (v := .slice Ab nb cb) rfl); go_simp
      simp only [Act.put, List.setIfInBounds_toArray, List.set_cons_zero, List.set_cons_succ]
      refine WE.call (d := some 44) rfl rfl (by rfl) (f := 8) (args := #[(.agg #[.bool ga, .slice Aa na ca]), (.agg #[.bool gb, .slice Ab nb cb])]) (by go_simp) ?_
      refine (euclid_w Ra.out Rb.out (by omega) (by omega)).mono ?_
      rintro e wn ⟨v1, v2, rfl, x1, x2, hb⟩
      obtain ⟨g5, A5, n5, c5, rfl⟩ := x1.shape
      obtain ⟨g6, A6, n6, c6, rfl⟩ := x2.shape
      refine ⟨_, rfl, hb, ?_⟩
      replace E := hid (E.out.trans hb)
      replace Ba := hid (Ba.out.up hb)
      replace Bb := hid (Bb.out.up hb)
      replace V7 := hid (V7.out.up hb)
      replace V8 := hid (V8.out.up hb)
      replace V9 := hid (V9.out.up hb)
      replace V10 := hid (V10.out.up hb)
      replace Na := hid (Na.out.up hb)
      replace Nb := hid (Nb.out.up hb)
      replace Ra := hid (Ra.out.up hb)
      replace Rb := hid (Rb.out.up hb)
      replace Q1 := hid (Q1.out.up hb)
      replace Q2 := hid (Q2.out.up hb)
      replace Q3 := hid (Q3.out.up hb)
      replace Q4 := hid (Q4.out.up hb)
      have Q5 := hid x1
      have Q6 := hid x2
      clear hb x1 x2
      simp only [Act.put, List.setIfInBounds_toArray, List.set_cons_zero, List.set_cons_succ]
      refine WE.pure (d := some 41) rfl rfl (by rfl) (v := (.tuple #[(.agg #[.bool g5, .slice A5 n5 c5]), (.agg #[.bool g6, .slice A6 n6 c6])])) (fun w' hk => ?_) ?_
      · go_simp
      simp only [Act.put, List.setIfInBounds_toArray, List.set_cons_zero, List.set_cons_succ]
      refine WE.pure (d := some 45) rfl rfl (by rfl) (v := (.agg #[.bool g5, .slice A5 n5 c5])) (fun w' hk => ?_) ?_
      · go_simp
      simp only [Act.put, List.setIfInBounds_toArray, List.set_cons_zero, List.set_cons_succ]
      as_aux_lemma =>
        refine WE.pure (d := some 46) rfl rfl (by rfl) (v := (.agg #[.bool g6, .slice A6 n6 c6])) (fun w' hk => ?_) ?_
        · go_simp
        simp only [Act.put, List.setIfInBounds_toArray, List.set_cons_zero, List.set_cons_succ]
        refine WE.new (d := some 11) (cs := #[.bool false, .slice none 0 0]) (t := 24) (v := fun g => (.pointer (some ⟨g, 0, none⟩))) rfl rfl (by rfl) (fun w => by go_simp) fun gV11 wv hx0 hbox hge => ?_
        have HNV11Ba := hid (show gV11 ≠ (W.heap.size) by have := Ba.out.lt; omega)
        have HNV11Bb := hid (show gV11 ≠ (W.heap.size + 1) by have := Bb.out.lt; omega)
        have HNV11V7 := hid (show gV11 ≠ gV7 by have := V7.out.lt; omega)
        have HNV11V8 := hid (show gV11 ≠ gV8 by have := V8.out.lt; omega)
        have HNV11V9 := hid (show gV11 ≠ gV9 by have := V9.out.lt; omega)
        have HNV11V10 := hid (show gV11 ≠ gV10 by have := V10.out.lt; omega)
        have HGV11 := hid (show W.heap.size ≤ gV11 by have := E.out.size; omega)
        replace E := hid (E.out.trans hx0)
        replace Ba := hid (Ba.out.up hx0)
        replace Bb := hid (Bb.out.up hx0)
        replace V7 := hid (V7.out.up hx0)
        replace V8 := hid (V8.out.up hx0)
        replace V9 := hid (V9.out.up hx0)
        replace V10 := hid (V10.out.up hx0)
        replace Na := hid (Na.out.up hx0)
        replace Nb := hid (Nb.out.up hx0)
        replace Ra := hid (Ra.out.up hx0)
        replace Rb := hid (Rb.out.up hx0)
        replace Q1 := hid (Q1.out.up hx0)
        replace Q2 := hid (Q2.out.up hx0)
        replace Q3 := hid (Q3.out.up hx0)
        replace Q4 := hid (Q4.out.up hx0)
        replace Q5 := hid (Q5.out.up hx0)
        replace Q6 := hid (Q6.out.up hx0)
        have V11 : Hid (Box wv gV11 #[.bool false, .slice none 0 0] 24) := hid hbox
        clear hx0 hbox hge
        simp only [Act.put, List.setIfInBounds_toArray, List.set_cons_zero, List.set_cons_succ]
        refine WE.new (d := some 12) (cs := #[.bool false, .slice none 0 0]) (t := 24) (v := fun g => (.pointer (some ⟨g, 0, none⟩))) rfl rfl (by rfl) (fun w => by go_simp) fun gV12 wv hx0 hbox hge => ?_
        have HNV12Ba := hid (show gV12 ≠ (W.heap.size) by have := Ba.out.lt; omega)
        have HNV12Bb := hid (show gV12 ≠ (W.heap.size + 1) by have := Bb.out.lt; omega)
        have HNV12V7 := hid (show gV12 ≠ gV7 by have := V7.out.lt; omega)
        have HNV12V8 := hid (show gV12 ≠ gV8 by have := V8.out.lt; omega)
        have HNV12V9 := hid (show gV12 ≠ gV9 by have := V9.out.lt; omega)
        have HNV12V10 := hid (show gV12 ≠ gV10 by have := V10.out.lt; omega)
        have HNV12V11 := hid (show gV12 ≠ gV11 by have := V11.out.lt; omega)
        have HGV12 := hid (show W.heap.size ≤ gV12 by have := E.out.size; omega)
        replace E := hid (E.out.trans hx0)
        replace Ba := hid (Ba.out.up hx0)
        replace Bb := hid (Bb.out.up hx0)
        replace V7 := hid (V7.out.up hx0)
        replace V8 := hid (V8.out.up hx0)
        replace V9 := hid (V9.out.up hx0)
        replace V10 := hid (V10.out.up hx0)
        replace V11 := hid (V11.out.up hx0)
        replace Na := hid (Na.out.up hx0)
        replace Nb := hid (Nb.out.up hx0)
        replace Ra := hid (Ra.out.up hx0)
        replace Rb := hid (Rb.out.up hx0)
        replace Q1 := hid (Q1.out.up hx0)
        replace Q2 := hid (Q2.out.up hx0)
        replace Q3 := hid (Q3.out.up hx0)
        replace Q4 := hid (Q4.out.up hx0)
        replace Q5 := hid (Q5.out.up hx0)
        replace Q6 := hid (Q6.out.up hx0)
        have V12 : Hid (Box wv gV12 #[.bool false, .slice none 0 0] 24) := hid hbox
        clear hx0 hbox hge
        simp only [Act.put, List.setIfInBounds_toArray, List.set_cons_zero, List.set_cons_succ]
        refine WE.store2 (g := gV11) (x := .bool g5) (y := .slice A5 n5 c5) (t := 24) rfl rfl (by rfl) (fun w hb => ?_) V11.out (by rfl) fun ws hk hs => ?_
        · have c0 := hb.cell (o := 0) (v := .bool false) rfl; have f0 := hb.free 0; have c1 := hb.cell (o := 1) (v := .slice none 0 0) rfl; have f1 := hb.free 1; go_simp
        intro hbx
        replace E := hid (E.out.keptG hk HGV11.out)
        replace Ba := hid (Ba.out.kept hk (by simpa using HNV11Ba.out.symm))
        replace Bb := hid (Bb.out.kept hk (by simpa using HNV11Bb.out.symm))
        replace V7 := hid (V7.out.kept hk (by simpa using HNV11V7.out.symm))
        replace V8 := hid (V8.out.kept hk (by simpa using HNV11V8.out.symm))
        replace V9 := hid (V9.out.kept hk (by simpa using HNV11V9.out.symm))
        replace V10 := hid (V10.out.kept hk (by simpa using HNV11V10.out.symm))
        replace V11 := hid hbx
        replace V12 := hid (V12.out.kept hk (by simpa using HNV12V11.out))
        replace Na := hid (Na.out.kz hs)
        replace Nb := hid (Nb.out.kz hs)
        replace Ra := hid (Ra.out.kz hs)
        replace Rb := hid (Rb.out.kz hs)
        replace Q1 := hid (Q1.out.kz hs)
        replace Q2 := hid (Q2.out.kz hs)
        replace Q3 := hid (Q3.out.kz hs)
        replace Q4 := hid (Q4.out.kz hs)
        replace Q5 := hid (Q5.out.kz hs)
        replace Q6 := hid (Q6.out.kz hs)
        clear hk hs hbx
        refine WE.store2 (g := gV12) (x := .bool g6) (y := .slice A6 n6 c6) (t := 24) rfl rfl (by rfl) (fun w hb => ?_) V12.out (by rfl) fun ws hk hs => ?_
        · have c0 := hb.cell (o := 0) (v := .bool false) rfl; have f0 := hb.free 0; have c1 := hb.cell (o := 1) (v := .slice none 0 0) rfl; have f1 := hb.free 1; go_simp
        intro hbx
        replace E := hid (E.out.keptG hk HGV12.out)
        replace Ba := hid (Ba.out.kept hk (by simpa using HNV12Ba.out.symm))
        replace Bb := hid (Bb.out.kept hk (by simpa using HNV12Bb.out.symm))
        replace V7 := hid (V7.out.kept hk (by simpa using HNV12V7.out.symm))
        replace V8 := hid (V8.out.kept hk (by simpa using HNV12V8.out.symm))
        replace V9 := hid (V9.out.kept hk (by simpa using HNV12V9.out.symm))
        replace V10 := hid (V10.out.kept hk (by simpa using HNV12V10.out.symm))
        replace V11 := hid (V11.out.kept hk (by simpa using HNV12V11.out.symm))
        replace V12 := hid hbx
        replace Na := hid (Na.out.kz hs)
        replace Nb := hid (Nb.out.kz hs)
        replace Ra := hid (Ra.out.kz hs)
        replace Rb := hid (Rb.out.kz hs)
        replace Q1 := hid (Q1.out.kz hs)
        replace Q2 := hid (Q2.out.kz hs)
        replace Q3 := hid (Q3.out.kz hs)
        replace Q4 := hid (Q4.out.kz hs)
        replace Q5 := hid (Q5.out.kz hs)
        replace Q6 := hid (Q6.out.kz hs)
        clear hk hs hbx
        refine WE.done ?_
        go_upto_region 8 with (fail)
        refine wp_region_T [(0, 0), (1, 0), (2, 1), (3, 0), (4, 0), (5, 0), (6, 1), (7, 1), (8, 4), (9, 4)] (by kernel_rfl) fun wd hb => ?_
        replace E := hid (E.out.trans hb)
        replace Ba := hid (Ba.out.up hb)
        replace Bb := hid (Bb.out.up hb)
        replace V7 := hid (V7.out.up hb)
        replace V8 := hid (V8.out.up hb)
        replace V9 := hid (V9.out.up hb)
        replace V10 := hid (V10.out.up hb)
        replace V11 := hid (V11.out.up hb)
        replace V12 := hid (V12.out.up hb)
        replace Na := hid (Na.out.up hb)
        replace Nb := hid (Nb.out.up hb)
        replace Ra := hid (Ra.out.up hb)
        replace Rb := hid (Rb.out.up hb)
        replace Q1 := hid (Q1.out.up hb)
        replace Q2 := hid (Q2.out.up hb)
        replace Q3 := hid (Q3.out.up hb)
        replace Q4 := hid (Q4.out.up hb)
        replace Q5 := hid (Q5.out.up hb)
        replace Q6 := hid (Q6.out.up hb)
        clear hb
        refine WE.pure (d := some 48) rfl rfl (by rfl) (v := (.agg #[.bool ga, .slice Aa na ca])) (fun w' hk => ?_) ?_
        · have c0 := hk.cell (Ba.out.cell (o := 0) (v := .bool ga) rfl); have c1 := hk.cell (Ba.out.cell (o := 1) (v := .slice Aa na ca) rfl); go_simp
        simp only [Act.put, List.setIfInBounds_toArray, List.set_cons_zero, List.set_cons_succ]
        refine WE.pure (d := some 49) rfl rfl (by rfl) (v := (.agg #[.bool gb, .slice Ab nb cb])) (fun w' hk => ?_) ?_
        · have c0 := hk.cell (Bb.out.cell (o := 0) (v := .bool gb) rfl); have c1 := hk.cell (Bb.out.cell (o := 1) (v := .slice Ab nb cb) rfl); go_simp
        simp only [Act.put, List.setIfInBounds_toArray, List.set_cons_zero, List.set_cons_succ]
        refine WE.call (d := some 50) rfl rfl (by rfl) (f := 9) (args := #[(.agg #[.bool ga, .slice Aa na ca]), (.agg #[.bool gb, .slice Ab nb cb])]) (by go_simp) ?_
        refine (rEuclid_w Ra.out Rb.out (by omega) (by omega)).mono ?_
        rintro e wn ⟨v1, v2, rfl, x1, x2, hb⟩
        obtain ⟨g7, A7, n7, c7, rfl⟩ := x1.shape
        obtain ⟨g8, A8, n8, c8, rfl⟩ := x2.shape
        refine ⟨_, rfl, hb, ?_⟩
        replace E := hid (E.out.trans hb)
        replace Ba := hid (Ba.out.up hb)
        replace Bb := hid (Bb.out.up hb)
        replace V7 := hid (V7.out.up hb)
        replace V8 := hid (V8.out.up hb)
        replace V9 := hid (V9.out.up hb)
        replace V10 := hid (V10.out.up hb)
        replace V11 := hid (V11.out.up hb)
        replace V12 := hid (V12.out.up hb)
        replace Na := hid (Na.out.up hb)
        replace Nb := hid (Nb.out.up hb)
        replace Ra := hid (Ra.out.up hb)
        replace Rb := hid (Rb.out.up hb)
        replace Q1 := hid (Q1.out.up hb)
        replace Q2 := hid (Q2.out.up hb)
        replace Q3 := hid (Q3.out.up hb)
        replace Q4 := hid (Q4.out.up hb)
        replace Q5 := hid (Q5.out.up hb)
        replace Q6 := hid (Q6.out.up hb)
        have Q7 := hid x1
        have Q8 := hid x2
        clear hb x1 x2
        simp only [Act.put, List.setIfInBounds_toArray, List.set_cons_zero, List.set_cons_succ]
        refine WE.pure (d := some 47) rfl rfl (by rfl) (v := (.tuple #[(.agg #[.bool g7, .slice A7 n7 c7]), (.agg #[.bool g8, .slice A8 n8 c8])])) (fun w' hk => ?_) ?_
        · go_simp
        simp only [Act.put, List.setIfInBounds_toArray, List.set_cons_zero, List.set_cons_succ]
        refine WE.pure (d := some 51) rfl rfl (by rfl) (v := (.agg #[.bool g7, .slice A7 n7 c7])) (fun w' hk => ?_) ?_
        · go_simp
        simp only [Act.put, List.setIfInBounds_toArray, List.set_cons_zero, List.set_cons_succ]
        refine WE.pure (d := some 52) rfl rfl (by rfl) (v := (.agg #[.bool g8, .slice A8 n8 c8])) (fun w' hk => ?_) ?_
        · go_simp
        simp only [Act.put, List.setIfInBounds_toArray, List.set_cons_zero, List.set_cons_succ]
        refine WE.new (d := some 13) (cs := #[.bool false, .slice none 0 0]) (t := 24) (v := fun g => (.pointer (some ⟨g, 0, none⟩))) rfl rfl (by rfl) (fun w => by go_simp) fun gV13 wv hx0 hbox hge => ?_
        have HNV13Ba := hid (show gV13 ≠ (W.heap.size) by have := Ba.out.lt; omega)
        have HNV13Bb := hid (show gV13 ≠ (W.heap.size + 1) by have := Bb.out.lt; omega)
        have HNV13V7 := hid (show gV13 ≠ gV7 by have := V7.out.lt; omega)
        have HNV13V8 := hid (show gV13 ≠ gV8 by have := V8.out.lt; omega)
        have HNV13V9 := hid (show gV13 ≠ gV9 by have := V9.out.lt; omega)
        have HNV13V10 := hid (show gV13 ≠ gV10 by have := V10.out.lt; omega)
        have HNV13V11 := hid (show gV13 ≠ gV11 by have := V11.out.lt; omega)
        have HNV13V12 := hid (show gV13 ≠ gV12 by have := V12.out.lt; omega)
        have HGV13 := hid (show W.heap.size ≤ gV13 by have := E.out.size; omega)
        replace E := hid (E.out.trans hx0)
        replace Ba := hid (Ba.out.up hx0)
        replace Bb := hid (Bb.out.up hx0)
        replace V7 := hid (V7.out.up hx0)
        replace V8 := hid (V8.out.up hx0)
        replace V9 := hid (V9.out.up hx0)
        replace V10 := hid (V10.out.up hx0)
        replace V11 := hid (V11.out.up hx0)
        replace V12 := hid (V12.out.up hx0)
        replace Na := hid (Na.out.up hx0)
        replace Nb := hid (Nb.out.up hx0)
        replace Ra := hid (Ra.out.up hx0)
        replace Rb := hid (Rb.out.up hx0)
        replace Q1 := hid (Q1.out.up hx0)
        replace Q2 := hid (Q2.out.up hx0)
        replace Q3 := hid (Q3.out.up hx0)
        replace Q4 := hid (Q4.out.up hx0)
        replace Q5 := hid (Q5.out.up hx0)
        replace Q6 := hid (Q6.out.up hx0)
        replace Q7 := hid (Q7.out.up hx0)
        replace Q8 := hid (Q8.out.up hx0)
        have V13 : Hid (Box wv gV13 #[.bool false, .slice none 0 0] 24) := hid hbox
        clear hx0 hbox hge
        simp only [Act.put, List.setIfInBounds_toArray, List.set_cons_zero, List.set_cons_succ]
        as_aux_lemma =>
          refine WE.new (d := some 14) (cs := #[.bool false, .slice none 0 0]) (t := 24) (v := fun g => (.pointer (some ⟨g, 0, none⟩))) rfl rfl (by rfl) (fun w => by go_simp) fun gV14 wv hx0 hbox hge => ?_
          have HNV14Ba := hid (show gV14 ≠ (W.heap.size) by have := Ba.out.lt; omega)
          have HNV14Bb := hid (show gV14 ≠ (W.heap.size + 1) by have := Bb.out.lt; omega)
          have HNV14V7 := hid (show gV14 ≠ gV7 by have := V7.out.lt; omega)
          have HNV14V8 := hid (show gV14 ≠ gV8 by have := V8.out.lt; omega)
          have HNV14V9 := hid (show gV14 ≠ gV9 by have := V9.out.lt; omega)
          have HNV14V10 := hid (show gV14 ≠ gV10 by have := V10.out.lt; omega)
          have HNV14V11 := hid (show gV14 ≠ gV11 by have := V11.out.lt; omega)
          have HNV14V12 := hid (show gV14 ≠ gV12 by have := V12.out.lt; omega)
          have HNV14V13 := hid (show gV14 ≠ gV13 by have := V13.out.lt; omega)
          have HGV14 := hid (show W.heap.size ≤ gV14 by have := E.out.size; omega)
          replace E := hid (E.out.trans hx0)
          replace Ba := hid (Ba.out.up hx0)
          replace Bb := hid (Bb.out.up hx0)
          replace V7 := hid (V7.out.up hx0)
          replace V8 := hid (V8.out.up hx0)
          replace V9 := hid (V9.out.up hx0)
          replace V10 := hid (V10.out.up hx0)
          replace V11 := hid (V11.out.up hx0)
          replace V12 := hid (V12.out.up hx0)
          replace V13 := hid (V13.out.up hx0)
          replace Na := hid (Na.out.up hx0)
          replace Nb := hid (Nb.out.up hx0)
          replace Ra := hid (Ra.out.up hx0)
          replace Rb := hid (Rb.out.up hx0)
          replace Q1 := hid (Q1.out.up hx0)
          replace Q2 := hid (Q2.out.up hx0)
          replace Q3 := hid (Q3.out.up hx0)
          replace Q4 := hid (Q4.out.up hx0)
          replace Q5 := hid (Q5.out.up hx0)
          replace Q6 := hid (Q6.out.up hx0)
          replace Q7 := hid (Q7.out.up hx0)
          replace Q8 := hid (Q8.out.up hx0)
          have V14 : Hid (Box wv gV14 #[.bool false, .slice none 0 0] 24) := hid hbox
          clear hx0 hbox hge
          simp only [Act.put, List.setIfInBounds_toArray, List.set_cons_zero, List.set_cons_succ]
          refine WE.store2 (g := gV13) (x := .bool g7) (y := .slice A7 n7 c7) (t := 24) rfl rfl (by rfl) (fun w hb => ?_) V13.out (by rfl) fun ws hk hs => ?_
          · have c0 := hb.cell (o := 0) (v := .bool false) rfl; have f0 := hb.free 0; have c1 := hb.cell (o := 1) (v := .slice none 0 0) rfl; have f1 := hb.free 1; go_simp
          intro hbx
          replace E := hid (E.out.keptG hk HGV13.out)
          replace Ba := hid (Ba.out.kept hk (by simpa using HNV13Ba.out.symm))
          replace Bb := hid (Bb.out.kept hk (by simpa using HNV13Bb.out.symm))
          replace V7 := hid (V7.out.kept hk (by simpa using HNV13V7.out.symm))
          replace V8 := hid (V8.out.kept hk (by simpa using HNV13V8.out.symm))
          replace V9 := hid (V9.out.kept hk (by simpa using HNV13V9.out.symm))
          replace V10 := hid (V10.out.kept hk (by simpa using HNV13V10.out.symm))
          replace V11 := hid (V11.out.kept hk (by simpa using HNV13V11.out.symm))
          replace V12 := hid (V12.out.kept hk (by simpa using HNV13V12.out.symm))
          replace V13 := hid hbx
          replace V14 := hid (V14.out.kept hk (by simpa using HNV14V13.out))
          replace Na := hid (Na.out.kz hs)
          replace Nb := hid (Nb.out.kz hs)
          replace Ra := hid (Ra.out.kz hs)
          replace Rb := hid (Rb.out.kz hs)
          replace Q1 := hid (Q1.out.kz hs)
          replace Q2 := hid (Q2.out.kz hs)
          replace Q3 := hid (Q3.out.kz hs)
          replace Q4 := hid (Q4.out.kz hs)
          replace Q5 := hid (Q5.out.kz hs)
          replace Q6 := hid (Q6.out.kz hs)
          replace Q7 := hid (Q7.out.kz hs)
          replace Q8 := hid (Q8.out.kz hs)
          clear hk hs hbx
          refine WE.store2 (g := gV14) (x := .bool g8) (y := .slice A8 n8 c8) (t := 24) rfl rfl (by rfl) (fun w hb => ?_) V14.out (by rfl) fun ws hk hs => ?_
          · have c0 := hb.cell (o := 0) (v := .bool false) rfl; have f0 := hb.free 0; have c1 := hb.cell (o := 1) (v := .slice none 0 0) rfl; have f1 := hb.free 1; go_simp
          intro hbx
          replace E := hid (E.out.keptG hk HGV14.out)
          replace Ba := hid (Ba.out.kept hk (by simpa using HNV14Ba.out.symm))
          replace Bb := hid (Bb.out.kept hk (by simpa using HNV14Bb.out.symm))
          replace V7 := hid (V7.out.kept hk (by simpa using HNV14V7.out.symm))
          replace V8 := hid (V8.out.kept hk (by simpa using HNV14V8.out.symm))
          replace V9 := hid (V9.out.kept hk (by simpa using HNV14V9.out.symm))
          replace V10 := hid (V10.out.kept hk (by simpa using HNV14V10.out.symm))
          replace V11 := hid (V11.out.kept hk (by simpa using HNV14V11.out.symm))
          replace V12 := hid (V12.out.kept hk (by simpa using HNV14V12.out.symm))
          replace V13 := hid (V13.out.kept hk (by simpa using HNV14V13.out.symm))
          replace V14 := hid hbx
          replace Na := hid (Na.out.kz hs)
          replace Nb := hid (Nb.out.kz hs)
          replace Ra := hid (Ra.out.kz hs)
          replace Rb := hid (Rb.out.kz hs)
          replace Q1 := hid (Q1.out.kz hs)
          replace Q2 := hid (Q2.out.kz hs)
          replace Q3 := hid (Q3.out.kz hs)
          replace Q4 := hid (Q4.out.kz hs)
          replace Q5 := hid (Q5.out.kz hs)
          replace Q6 := hid (Q6.out.kz hs)
          replace Q7 := hid (Q7.out.kz hs)
          replace Q8 := hid (Q8.out.kz hs)
          clear hk hs hbx
          refine WE.done ?_
          go_upto_region 9 with (fail)
          refine wp_region_T [(0, 0), (1, 1), (2, 0), (3, 0), (4, 0), (5, 0), (6, 0)] (by kernel_rfl) fun wd hb => ?_
          replace E := hid (E.out.trans hb)
          replace Ba := hid (Ba.out.up hb)
          replace Bb := hid (Bb.out.up hb)
          replace V7 := hid (V7.out.up hb)
          replace V8 := hid (V8.out.up hb)
          replace V9 := hid (V9.out.up hb)
          replace V10 := hid (V10.out.up hb)
          replace V11 := hid (V11.out.up hb)
          replace V12 := hid (V12.out.up hb)
          replace V13 := hid (V13.out.up hb)
          replace V14 := hid (V14.out.up hb)
          replace Na := hid (Na.out.up hb)
          replace Nb := hid (Nb.out.up hb)
          replace Ra := hid (Ra.out.up hb)
          replace Rb := hid (Rb.out.up hb)
          replace Q1 := hid (Q1.out.up hb)
          replace Q2 := hid (Q2.out.up hb)
          replace Q3 := hid (Q3.out.up hb)
          replace Q4 := hid (Q4.out.up hb)
          replace Q5 := hid (Q5.out.up hb)
          replace Q6 := hid (Q6.out.up hb)
          replace Q7 := hid (Q7.out.up hb)
          replace Q8 := hid (Q8.out.up hb)
          clear hb
          refine WE.pure (d := some 54) rfl rfl (by rfl) (v := (.agg #[.bool ga, .slice Aa na ca])) (fun w' hk => ?_) ?_
          · have c0 := hk.cell (Ba.out.cell (o := 0) (v := .bool ga) rfl); have c1 := hk.cell (Ba.out.cell (o := 1) (v := .slice Aa na ca) rfl); go_simp
          simp only [Act.put, List.setIfInBounds_toArray, List.set_cons_zero, List.set_cons_succ]
          refine WE.call (d := some 55) rfl rfl (by rfl) (f := 10) (args := #[(.agg #[.bool ga, .slice Aa na ca])]) (by go_simp) ?_
          refine (small_no Ra.out (hcond.out)).mono ?_
          rintro e wn ⟨rfl, hb⟩
          refine ⟨_, rfl, hb, ?_⟩
          replace E := hid (E.out.trans hb)
          replace Ba := hid (Ba.out.up hb)
          replace Bb := hid (Bb.out.up hb)
          replace V7 := hid (V7.out.up hb)
          replace V8 := hid (V8.out.up hb)
          replace V9 := hid (V9.out.up hb)
          replace V10 := hid (V10.out.up hb)
          replace V11 := hid (V11.out.up hb)
          replace V12 := hid (V12.out.up hb)
          replace V13 := hid (V13.out.up hb)
          replace V14 := hid (V14.out.up hb)
          replace Na := hid (Na.out.up hb)
          replace Nb := hid (Nb.out.up hb)
          replace Ra := hid (Ra.out.up hb)
          replace Rb := hid (Rb.out.up hb)
          replace Q1 := hid (Q1.out.up hb)
          replace Q2 := hid (Q2.out.up hb)
          replace Q3 := hid (Q3.out.up hb)
          replace Q4 := hid (Q4.out.up hb)
          replace Q5 := hid (Q5.out.up hb)
          replace Q6 := hid (Q6.out.up hb)
          replace Q7 := hid (Q7.out.up hb)
          replace Q8 := hid (Q8.out.up hb)
          clear hb
          simp only [Act.put, List.setIfInBounds_toArray, List.set_cons_zero, List.set_cons_succ]
          refine WE.pure (d := some 53) rfl rfl (by rfl) (v := (.tuple #[(.int .i64 0), (.bool false)])) (fun w' hk => ?_) ?_
          · go_simp
          simp only [Act.put, List.setIfInBounds_toArray, List.set_cons_zero, List.set_cons_succ]
          refine WE.pure (d := some 56) rfl rfl (by rfl) (v := (.int .i64 0)) (fun w' hk => ?_) ?_
          · go_simp
          simp only [Act.put, List.setIfInBounds_toArray, List.set_cons_zero, List.set_cons_succ]
          refine WE.pure (d := some 57) rfl rfl (by rfl) (v := (.bool false)) (fun w' hk => ?_) ?_
          · go_simp
          simp only [Act.put, List.setIfInBounds_toArray, List.set_cons_zero, List.set_cons_succ]
          refine WE.pure (d := some 15) rfl rfl (by rfl) (v := (.int .i64 0)) (fun w' hk => ?_) ?_
          · go_simp
          simp only [Act.put, List.setIfInBounds_toArray, List.set_cons_zero, List.set_cons_succ]
          refine WE.pure (d := some 16) rfl rfl (by rfl) (v := (.bool false)) (fun w' hk => ?_) ?_
          · go_simp
          simp only [Act.put, List.setIfInBounds_toArray, List.set_cons_zero, List.set_cons_succ]
          refine WE.done ?_
          go_upto_region 10 with (fail)
          refine wp_region_T [(0, 0), (1, 1), (2, 0), (3, 0), (4, 0), (5, 0), (6, 0)] (by kernel_rfl) fun wd hb => ?_
          replace E := hid (E.out.trans hb)
          replace Ba := hid (Ba.out.up hb)
          replace Bb := hid (Bb.out.up hb)
          replace V7 := hid (V7.out.up hb)
          replace V8 := hid (V8.out.up hb)
          replace V9 := hid (V9.out.up hb)
          replace V10 := hid (V10.out.up hb)
          replace V11 := hid (V11.out.up hb)
          replace V12 := hid (V12.out.up hb)
          replace V13 := hid (V13.out.up hb)
          replace V14 := hid (V14.out.up hb)
          replace Na := hid (Na.out.up hb)
          replace Nb := hid (Nb.out.up hb)
          replace Ra := hid (Ra.out.up hb)
          replace Rb := hid (Rb.out.up hb)
          replace Q1 := hid (Q1.out.up hb)
          replace Q2 := hid (Q2.out.up hb)
          replace Q3 := hid (Q3.out.up hb)
          replace Q4 := hid (Q4.out.up hb)
          replace Q5 := hid (Q5.out.up hb)
          replace Q6 := hid (Q6.out.up hb)
          replace Q7 := hid (Q7.out.up hb)
          replace Q8 := hid (Q8.out.up hb)
          clear hb
          refine WE.pure (d := some 59) rfl rfl (by rfl) (v := (.agg #[.bool ga, .slice Aa na ca])) (fun w' hk => ?_) ?_
          · have c0 := hk.cell (Ba.out.cell (o := 0) (v := .bool ga) rfl); have c1 := hk.cell (Ba.out.cell (o := 1) (v := .slice Aa na ca) rfl); go_simp
          simp only [Act.put, List.setIfInBounds_toArray, List.set_cons_zero, List.set_cons_succ]
          refine WE.call (d := some 60) rfl rfl (by rfl) (f := 11) (args := #[(.agg #[.bool ga, .slice Aa na ca])]) (by go_simp) ?_
          refine (rSmall_no Ra.out (hcond.out)).mono ?_
          rintro e wn ⟨rfl, hb⟩
          refine ⟨_, rfl, hb, ?_⟩
          replace E := hid (E.out.trans hb)
          replace Ba := hid (Ba.out.up hb)
          replace Bb := hid (Bb.out.up hb)
          replace V7 := hid (V7.out.up hb)
          replace V8 := hid (V8.out.up hb)
          replace V9 := hid (V9.out.up hb)
          replace V10 := hid (V10.out.up hb)
          replace V11 := hid (V11.out.up hb)
          replace V12 := hid (V12.out.up hb)
          replace V13 := hid (V13.out.up hb)
          replace V14 := hid (V14.out.up hb)
          replace Na := hid (Na.out.up hb)
          replace Nb := hid (Nb.out.up hb)
          replace Ra := hid (Ra.out.up hb)
          replace Rb := hid (Rb.out.up hb)
          replace Q1 := hid (Q1.out.up hb)
          replace Q2 := hid (Q2.out.up hb)
          replace Q3 := hid (Q3.out.up hb)
          replace Q4 := hid (Q4.out.up hb)
          replace Q5 := hid (Q5.out.up hb)
          replace Q6 := hid (Q6.out.up hb)
          replace Q7 := hid (Q7.out.up hb)
          replace Q8 := hid (Q8.out.up hb)
          clear hb
          simp only [Act.put, List.setIfInBounds_toArray, List.set_cons_zero, List.set_cons_succ]
          as_aux_lemma =>
            refine WE.pure (d := some 58) rfl rfl (by rfl) (v := (.tuple #[(.int .i64 0), (.bool false)])) (fun w' hk => ?_) ?_
            · go_simp
            simp only [Act.put, List.setIfInBounds_toArray, List.set_cons_zero, List.set_cons_succ]
            refine WE.pure (d := some 61) rfl rfl (by rfl) (v := (.int .i64 0)) (fun w' hk => ?_) ?_
            · go_simp
            simp only [Act.put, List.setIfInBounds_toArray, List.set_cons_zero, List.set_cons_succ]
            refine WE.pure (d := some 62) rfl rfl (by rfl) (v := (.bool false)) (fun w' hk => ?_) ?_
            · go_simp
            simp only [Act.put, List.setIfInBounds_toArray, List.set_cons_zero, List.set_cons_succ]
            refine WE.pure (d := some 17) rfl rfl (by rfl) (v := (.int .i64 0)) (fun w' hk => ?_) ?_
            · go_simp
            simp only [Act.put, List.setIfInBounds_toArray, List.set_cons_zero, List.set_cons_succ]
            refine WE.pure (d := some 18) rfl rfl (by rfl) (v := (.bool false)) (fun w' hk => ?_) ?_
            · go_simp
            simp only [Act.put, List.setIfInBounds_toArray, List.set_cons_zero, List.set_cons_succ]
            refine WE.done ?_
            go_upto_region 11 with (fail)
            refine wp_region_E [(0, 0), (2, 0), (1, 1), (3, 1), (4, 0), (5, 0), (6, 0), (8, 0), (7, 1), (9, 1), (10, 1), (11, 0), (12, 0), (13, 0), (14, 0), (15, 0), (16, 0), (17, 0), (18, 0), (19, 0), (20, 0), (21, 0), (22, 0), (23, 0), (24, 0), (26, 0), (25, 1), (27, 1), (28, 0), (29, 0), (30, 0), (31, 0), (32, 0), (34, 0), (35, 0), (33, 1), (36, 1), (37, 0), (38, 0), (39, 0), (40, 0), (41, 0), (43, 0), (44, 0), (42, 1), (45, 1), (46, 0), (47, 0)] (fun _ => (0, #[])) rfl (by kernel_rfl) (by intro j hj; cases hj) (fun _ _ d _ _ => by cases d <;> exact Iff.rfl) fun wd hb => ?_
            replace E := hid (E.out.trans hb)
            replace Ba := hid (Ba.out.up hb)
            replace Bb := hid (Bb.out.up hb)
            replace V7 := hid (V7.out.up hb)
            replace V8 := hid (V8.out.up hb)
            replace V9 := hid (V9.out.up hb)
            replace V10 := hid (V10.out.up hb)
            replace V11 := hid (V11.out.up hb)
            replace V12 := hid (V12.out.up hb)
            replace V13 := hid (V13.out.up hb)
            replace V14 := hid (V14.out.up hb)
            replace Na := hid (Na.out.up hb)
            replace Nb := hid (Nb.out.up hb)
            replace Ra := hid (Ra.out.up hb)
            replace Rb := hid (Rb.out.up hb)
            replace Q1 := hid (Q1.out.up hb)
            replace Q2 := hid (Q2.out.up hb)
            replace Q3 := hid (Q3.out.up hb)
            replace Q4 := hid (Q4.out.up hb)
            replace Q5 := hid (Q5.out.up hb)
            replace Q6 := hid (Q6.out.up hb)
            replace Q7 := hid (Q7.out.up hb)
            replace Q8 := hid (Q8.out.up hb)
            clear hb
            refine WE.pure (d := some 63) rfl rfl (by rfl) (v := (.agg #[.bool ga, .slice Aa na ca])) (fun w' hk => ?_) ?_
            · have c0 := hk.cell (Ba.out.cell (o := 0) (v := .bool ga) rfl); have c1 := hk.cell (Ba.out.cell (o := 1) (v := .slice Aa na ca) rfl); go_simp
            simp only [Act.put, List.setIfInBounds_toArray, List.set_cons_zero, List.set_cons_succ]
            refine WE.pure (d := some 65) rfl rfl (by rfl) (v := (.agg #[.bool ga, .slice Aa na ca])) (fun w' hk => ?_) ?_
            · have c0 := hk.cell (Ba.out.cell (o := 0) (v := .bool ga) rfl); have c1 := hk.cell (Ba.out.cell (o := 1) (v := .slice Aa na ca) rfl); go_simp
            simp only [Act.put, List.setIfInBounds_toArray, List.set_cons_zero, List.set_cons_succ]
            refine WE.call (d := some 64) rfl rfl (by rfl) (f := 12) (args := #[(.agg #[.bool ga, .slice Aa na ca])]) (by go_simp) ?_
            refine (wIs_any Na.out HIA.out).mono ?_
            rintro e wn ⟨rfl, hb⟩
            refine ⟨_, rfl, hb, ?_⟩
            replace E := hid (E.out.trans hb)
            replace Ba := hid (Ba.out.up hb)
            replace Bb := hid (Bb.out.up hb)
            replace V7 := hid (V7.out.up hb)
            replace V8 := hid (V8.out.up hb)
            replace V9 := hid (V9.out.up hb)
            replace V10 := hid (V10.out.up hb)
            replace V11 := hid (V11.out.up hb)
            replace V12 := hid (V12.out.up hb)
            replace V13 := hid (V13.out.up hb)
            replace V14 := hid (V14.out.up hb)
            replace Na := hid (Na.out.up hb)
            replace Nb := hid (Nb.out.up hb)
            replace Ra := hid (Ra.out.up hb)
            replace Rb := hid (Rb.out.up hb)
            replace Q1 := hid (Q1.out.up hb)
            replace Q2 := hid (Q2.out.up hb)
            replace Q3 := hid (Q3.out.up hb)
            replace Q4 := hid (Q4.out.up hb)
            replace Q5 := hid (Q5.out.up hb)
            replace Q6 := hid (Q6.out.up hb)
            replace Q7 := hid (Q7.out.up hb)
            replace Q8 := hid (Q8.out.up hb)
            clear hb
            simp only [Act.put, List.setIfInBounds_toArray, List.set_cons_zero, List.set_cons_succ]
            refine WE.call (d := some 66) rfl rfl (by rfl) (f := 13) (args := #[(.agg #[.bool ga, .slice Aa na ca])]) (by go_simp) ?_
            refine (rzIs_any Na.out HIA.out).mono ?_
            rintro e wn ⟨rfl, hb⟩
            refine ⟨_, rfl, hb, ?_⟩
            replace E := hid (E.out.trans hb)
            replace Ba := hid (Ba.out.up hb)
            replace Bb := hid (Bb.out.up hb)
            replace V7 := hid (V7.out.up hb)
            replace V8 := hid (V8.out.up hb)
            replace V9 := hid (V9.out.up hb)
            replace V10 := hid (V10.out.up hb)
            replace V11 := hid (V11.out.up hb)
            replace V12 := hid (V12.out.up hb)
            replace V13 := hid (V13.out.up hb)
            replace V14 := hid (V14.out.up hb)
            replace Na := hid (Na.out.up hb)
            replace Nb := hid (Nb.out.up hb)
            replace Ra := hid (Ra.out.up hb)
            replace Rb := hid (Rb.out.up hb)
            replace Q1 := hid (Q1.out.up hb)
            replace Q2 := hid (Q2.out.up hb)
            replace Q3 := hid (Q3.out.up hb)
            replace Q4 := hid (Q4.out.up hb)
            replace Q5 := hid (Q5.out.up hb)
            replace Q6 := hid (Q6.out.up hb)
            replace Q7 := hid (Q7.out.up hb)
            replace Q8 := hid (Q8.out.up hb)
            clear hb
            simp only [Act.put, List.setIfInBounds_toArray, List.set_cons_zero, List.set_cons_succ]
            refine WE.pure (d := some 67) rfl rfl (by rfl) (v := (.bool false)) (fun w' hk => ?_) ?_
            · go_simp
            simp only [Act.put, List.setIfInBounds_toArray, List.set_cons_zero, List.set_cons_succ]
            refine WE.pure (d := some 68) rfl rfl (by rfl) (v := (.bool false)) (fun w' hk => ?_) ?_
            · go_simp
            simp only [Act.put, List.setIfInBounds_toArray, List.set_cons_zero, List.set_cons_succ]
            refine WE.pure (d := some 69) rfl rfl (by rfl) (v := (.int .i64 n)) (fun w' hk => ?_) ?_
            · go_simp
            simp only [Act.put, List.setIfInBounds_toArray, List.set_cons_zero, List.set_cons_succ]
            as_aux_lemma =>
              refine WE.pure (d := some 71) rfl rfl (by rfl) (v := (.int .i64 n)) (fun w' hk => ?_) ?_
              · go_simp
              simp only [Act.put, List.setIfInBounds_toArray, List.set_cons_zero, List.set_cons_succ]
              refine WE.call (d := some 70) rfl rfl (by rfl) (f := 15) (args := #[(.int .i64 n)]) (by go_simp) ?_
              refine (of_z (n := n) HN1.out HN2.out _).mono ?_
              rintro e wn ⟨v1, rfl, x1, hb⟩
              obtain ⟨g9, A9, n9, c9, rfl⟩ := x1.shape
              refine ⟨_, rfl, hb, ?_⟩
              replace E := hid (E.out.trans hb)
              replace Ba := hid (Ba.out.up hb)
              replace Bb := hid (Bb.out.up hb)
              replace V7 := hid (V7.out.up hb)
              replace V8 := hid (V8.out.up hb)
              replace V9 := hid (V9.out.up hb)
              replace V10 := hid (V10.out.up hb)
              replace V11 := hid (V11.out.up hb)
              replace V12 := hid (V12.out.up hb)
              replace V13 := hid (V13.out.up hb)
              replace V14 := hid (V14.out.up hb)
              replace Na := hid (Na.out.up hb)
              replace Nb := hid (Nb.out.up hb)
              replace Ra := hid (Ra.out.up hb)
              replace Rb := hid (Rb.out.up hb)
              replace Q1 := hid (Q1.out.up hb)
              replace Q2 := hid (Q2.out.up hb)
              replace Q3 := hid (Q3.out.up hb)
              replace Q4 := hid (Q4.out.up hb)
              replace Q5 := hid (Q5.out.up hb)
              replace Q6 := hid (Q6.out.up hb)
              replace Q7 := hid (Q7.out.up hb)
              replace Q8 := hid (Q8.out.up hb)
              have Q9 := hid x1
              clear hb x1
              simp only [Act.put, List.setIfInBounds_toArray, List.set_cons_zero, List.set_cons_succ]
              refine WE.call (d := some 72) rfl rfl (by rfl) (f := 16) (args := #[(.int .i64 n)]) (by go_simp) ?_
              refine (rOf_z (n := n) HN1.out HN2.out _).mono ?_
              rintro e wn ⟨v1, rfl, x1, hb⟩
              obtain ⟨g10, A10, n10, c10, rfl⟩ := x1.shape
              refine ⟨_, rfl, hb, ?_⟩
              replace E := hid (E.out.trans hb)
              replace Ba := hid (Ba.out.up hb)
              replace Bb := hid (Bb.out.up hb)
              replace V7 := hid (V7.out.up hb)
              replace V8 := hid (V8.out.up hb)
              replace V9 := hid (V9.out.up hb)
              replace V10 := hid (V10.out.up hb)
              replace V11 := hid (V11.out.up hb)
              replace V12 := hid (V12.out.up hb)
              replace V13 := hid (V13.out.up hb)
              replace V14 := hid (V14.out.up hb)
              replace Na := hid (Na.out.up hb)
              replace Nb := hid (Nb.out.up hb)
              replace Ra := hid (Ra.out.up hb)
              replace Rb := hid (Rb.out.up hb)
              replace Q1 := hid (Q1.out.up hb)
              replace Q2 := hid (Q2.out.up hb)
              replace Q3 := hid (Q3.out.up hb)
              replace Q4 := hid (Q4.out.up hb)
              replace Q5 := hid (Q5.out.up hb)
              replace Q6 := hid (Q6.out.up hb)
              replace Q7 := hid (Q7.out.up hb)
              replace Q8 := hid (Q8.out.up hb)
              replace Q9 := hid (Q9.out.up hb)
              have Q10 := hid x1
              clear hb x1
              simp only [Act.put, List.setIfInBounds_toArray, List.set_cons_zero, List.set_cons_succ]
              refine WE.call (d := some 73) rfl rfl (by rfl) (f := 14) (args := #[(.agg #[.bool g9, .slice A9 n9 c9]), (.agg #[.bool g10, .slice A10 n10 c10])]) (by go_simp) ?_
              refine (equal_z (IsZ.to Q9.out (rfl)) (IsZ.to Q10.out (rfl))).mono ?_
              rintro e wn ⟨rfl, hb⟩
              refine ⟨_, rfl, hb, ?_⟩
              replace E := hid (E.out.trans hb)
              replace Ba := hid (Ba.out.up hb)
              replace Bb := hid (Bb.out.up hb)
              replace V7 := hid (V7.out.up hb)
              replace V8 := hid (V8.out.up hb)
              replace V9 := hid (V9.out.up hb)
              replace V10 := hid (V10.out.up hb)
              replace V11 := hid (V11.out.up hb)
              replace V12 := hid (V12.out.up hb)
              replace V13 := hid (V13.out.up hb)
              replace V14 := hid (V14.out.up hb)
              replace Na := hid (Na.out.up hb)
              replace Nb := hid (Nb.out.up hb)
              replace Ra := hid (Ra.out.up hb)
              replace Rb := hid (Rb.out.up hb)
              replace Q1 := hid (Q1.out.up hb)
              replace Q2 := hid (Q2.out.up hb)
              replace Q3 := hid (Q3.out.up hb)
              replace Q4 := hid (Q4.out.up hb)
              replace Q5 := hid (Q5.out.up hb)
              replace Q6 := hid (Q6.out.up hb)
              replace Q7 := hid (Q7.out.up hb)
              replace Q8 := hid (Q8.out.up hb)
              replace Q9 := hid (Q9.out.up hb)
              replace Q10 := hid (Q10.out.up hb)
              clear hb
              simp only [Act.put, List.setIfInBounds_toArray, List.set_cons_zero, List.set_cons_succ]
              clear Q9
              clear Q10
              refine WE.pure (d := some 74) rfl rfl (by rfl) (v := (.bool false)) (fun w' hk => ?_) ?_
              · go_simp
              simp only [Act.put, List.setIfInBounds_toArray, List.set_cons_zero, List.set_cons_succ]
              refine WE.pure (d := some 75) rfl rfl (by rfl) (v := (.bool false)) (fun w' hk => ?_) ?_
              · go_simp
              simp only [Act.put, List.setIfInBounds_toArray, List.set_cons_zero, List.set_cons_succ]
              refine WE.pure (d := some 76) rfl rfl (by rfl) (v := (.bool false)) (fun w' hk => ?_) ?_
              · go_simp
              simp only [Act.put, List.setIfInBounds_toArray, List.set_cons_zero, List.set_cons_succ]
              refine WE.pure (d := some 77) rfl rfl (by rfl) (v := (.int .i64 0)) (fun w' hk => ?_) ?_
              · go_simp
              simp only [Act.put, List.setIfInBounds_toArray, List.set_cons_zero, List.set_cons_succ]
              refine WE.pure (d := some 78) rfl rfl (by rfl) (v := (.int .i64 0)) (fun w' hk => ?_) ?_
              · go_simp
              simp only [Act.put, List.setIfInBounds_toArray, List.set_cons_zero, List.set_cons_succ]
              refine WE.pure (d := some 79) rfl rfl (by rfl) (v := (.bool false)) (fun w' hk => ?_) ?_
              · go_simp
              simp only [Act.put, List.setIfInBounds_toArray, List.set_cons_zero, List.set_cons_succ]
              refine WE.pure (d := some 80) rfl rfl (by rfl) (v := (.bool false)) (fun w' hk => ?_) ?_
              · go_simp
              simp only [Act.put, List.setIfInBounds_toArray, List.set_cons_zero, List.set_cons_succ]
              refine WE.pure (d := some 81) rfl rfl (by rfl) (v := (.bool false)) (fun w' hk => ?_) ?_
              · go_simp
              simp only [Act.put, List.setIfInBounds_toArray, List.set_cons_zero, List.set_cons_succ]
              as_aux_lemma =>
                refine WE.pure (d := some 82) rfl rfl (by rfl) (v := (.bool false)) (fun w' hk => ?_) ?_
                · go_simp
                simp only [Act.put, List.setIfInBounds_toArray, List.set_cons_zero, List.set_cons_succ]
                refine WE.pure (d := some 83) rfl rfl (by rfl) (v := (.bool false)) (fun w' hk => ?_) ?_
                · go_simp
                simp only [Act.put, List.setIfInBounds_toArray, List.set_cons_zero, List.set_cons_succ]
                refine WE.pure (d := some 84) rfl rfl (by rfl) (v := (.bool false)) (fun w' hk => ?_) ?_
                · go_simp
                simp only [Act.put, List.setIfInBounds_toArray, List.set_cons_zero, List.set_cons_succ]
                refine WE.pure (d := some 85) rfl rfl (by rfl) (v := (.bool false)) (fun w' hk => ?_) ?_
                · go_simp
                simp only [Act.put, List.setIfInBounds_toArray, List.set_cons_zero, List.set_cons_succ]
                refine WE.pure (d := some 86) rfl rfl (by rfl) (v := (.bool false)) (fun w' hk => ?_) ?_
                · go_simp
                simp only [Act.put, List.setIfInBounds_toArray, List.set_cons_zero, List.set_cons_succ]
                refine WE.pure (d := some 87) rfl rfl (by rfl) (v := (.agg #[.bool ga, .slice Aa na ca])) (fun w' hk => ?_) ?_
                · have c0 := hk.cell (Ba.out.cell (o := 0) (v := .bool ga) rfl); have c1 := hk.cell (Ba.out.cell (o := 1) (v := .slice Aa na ca) rfl); go_simp
                simp only [Act.put, List.setIfInBounds_toArray, List.set_cons_zero, List.set_cons_succ]
                refine WE.pure (d := some 89) rfl rfl (by rfl) (v := (.agg #[.bool ga, .slice Aa na ca])) (fun w' hk => ?_) ?_
                · have c0 := hk.cell (Ba.out.cell (o := 0) (v := .bool ga) rfl); have c1 := hk.cell (Ba.out.cell (o := 1) (v := .slice Aa na ca) rfl); go_simp
                simp only [Act.put, List.setIfInBounds_toArray, List.set_cons_zero, List.set_cons_succ]
                refine WE.call (d := some 88) rfl rfl (by rfl) (f := 17) (args := #[(.agg #[.bool ga, .slice Aa na ca])]) (by go_simp) ?_
                refine (sign_e Ra.out (s := s) (HS.out)).mono ?_
                rintro e wn ⟨rfl, hb⟩
                refine ⟨_, rfl, hb, ?_⟩
                replace E := hid (E.out.trans hb)
                replace Ba := hid (Ba.out.up hb)
                replace Bb := hid (Bb.out.up hb)
                replace V7 := hid (V7.out.up hb)
                replace V8 := hid (V8.out.up hb)
                replace V9 := hid (V9.out.up hb)
                replace V10 := hid (V10.out.up hb)
                replace V11 := hid (V11.out.up hb)
                replace V12 := hid (V12.out.up hb)
                replace V13 := hid (V13.out.up hb)
                replace V14 := hid (V14.out.up hb)
                replace Na := hid (Na.out.up hb)
                replace Nb := hid (Nb.out.up hb)
                replace Ra := hid (Ra.out.up hb)
                replace Rb := hid (Rb.out.up hb)
                replace Q1 := hid (Q1.out.up hb)
                replace Q2 := hid (Q2.out.up hb)
                replace Q3 := hid (Q3.out.up hb)
                replace Q4 := hid (Q4.out.up hb)
                replace Q5 := hid (Q5.out.up hb)
                replace Q6 := hid (Q6.out.up hb)
                replace Q7 := hid (Q7.out.up hb)
                replace Q8 := hid (Q8.out.up hb)
                clear hb
                simp only [Act.put, List.setIfInBounds_toArray, List.set_cons_zero, List.set_cons_succ]
                refine WE.call (d := some 90) rfl rfl (by rfl) (f := 18) (args := #[(.agg #[.bool ga, .slice Aa na ca])]) (by go_simp) ?_
                refine (rSign_w Ra.out (s := s) (HS.out)).mono ?_
                rintro e wn ⟨rfl, hb⟩
                refine ⟨_, rfl, hb, ?_⟩
                replace E := hid (E.out.trans hb)
                replace Ba := hid (Ba.out.up hb)
                replace Bb := hid (Bb.out.up hb)
                replace V7 := hid (V7.out.up hb)
                replace V8 := hid (V8.out.up hb)
                replace V9 := hid (V9.out.up hb)
                replace V10 := hid (V10.out.up hb)
                replace V11 := hid (V11.out.up hb)
                replace V12 := hid (V12.out.up hb)
                replace V13 := hid (V13.out.up hb)
                replace V14 := hid (V14.out.up hb)
                replace Na := hid (Na.out.up hb)
                replace Nb := hid (Nb.out.up hb)
                replace Ra := hid (Ra.out.up hb)
                replace Rb := hid (Rb.out.up hb)
                replace Q1 := hid (Q1.out.up hb)
                replace Q2 := hid (Q2.out.up hb)
                replace Q3 := hid (Q3.out.up hb)
                replace Q4 := hid (Q4.out.up hb)
                replace Q5 := hid (Q5.out.up hb)
                replace Q6 := hid (Q6.out.up hb)
                replace Q7 := hid (Q7.out.up hb)
                replace Q8 := hid (Q8.out.up hb)
                clear hb
                simp only [Act.put, List.setIfInBounds_toArray, List.set_cons_zero, List.set_cons_succ]
                refine WE.pure (d := some 91) rfl rfl (by rfl) (v := (.bool false)) (fun w' hk => ?_) ?_
                · go_simp
                simp only [Act.put, List.setIfInBounds_toArray, List.set_cons_zero, List.set_cons_succ]
                refine WE.pure (d := some 92) rfl rfl (by rfl) (v := (.bool false)) (fun w' hk => ?_) ?_
                · go_simp
                simp only [Act.put, List.setIfInBounds_toArray, List.set_cons_zero, List.set_cons_succ]
                refine WE.pure (d := some 93) rfl rfl (by rfl) (v := (.bool false)) (fun w' hk => ?_) ?_
                · go_simp
                simp only [Act.put, List.setIfInBounds_toArray, List.set_cons_zero, List.set_cons_succ]
                as_aux_lemma =>
                  refine WE.pure (d := some 94) rfl rfl (by rfl) (v := (.agg #[.bool ga, .slice Aa na ca])) (fun w' hk => ?_) ?_
                  · have c0 := hk.cell (Ba.out.cell (o := 0) (v := .bool ga) rfl); have c1 := hk.cell (Ba.out.cell (o := 1) (v := .slice Aa na ca) rfl); go_simp
                  simp only [Act.put, List.setIfInBounds_toArray, List.set_cons_zero, List.set_cons_succ]
                  refine WE.pure (d := some 95) rfl rfl (by rfl) (v := (.agg #[.bool gb, .slice Ab nb cb])) (fun w' hk => ?_) ?_
                  · have c0 := hk.cell (Bb.out.cell (o := 0) (v := .bool gb) rfl); have c1 := hk.cell (Bb.out.cell (o := 1) (v := .slice Ab nb cb) rfl); go_simp
                  simp only [Act.put, List.setIfInBounds_toArray, List.set_cons_zero, List.set_cons_succ]
                  refine WE.pure (d := some 97) rfl rfl (by rfl) (v := (.agg #[.bool ga, .slice Aa na ca])) (fun w' hk => ?_) ?_
                  · have c0 := hk.cell (Ba.out.cell (o := 0) (v := .bool ga) rfl); have c1 := hk.cell (Ba.out.cell (o := 1) (v := .slice Aa na ca) rfl); go_simp
                  simp only [Act.put, List.setIfInBounds_toArray, List.set_cons_zero, List.set_cons_succ]
                  refine WE.pure (d := some 98) rfl rfl (by rfl) (v := (.agg #[.bool gb, .slice Ab nb cb])) (fun w' hk => ?_) ?_
                  · have c0 := hk.cell (Bb.out.cell (o := 0) (v := .bool gb) rfl); have c1 := hk.cell (Bb.out.cell (o := 1) (v := .slice Ab nb cb) rfl); go_simp
                  simp only [Act.put, List.setIfInBounds_toArray, List.set_cons_zero, List.set_cons_succ]
                  refine WE.call (d := some 96) rfl rfl (by rfl) (f := 19) (args := #[(.agg #[.bool ga, .slice Aa na ca]), (.agg #[.bool gb, .slice Ab nb cb])]) (by go_simp) ?_
                  refine (cmp_w Ra.out Rb.out (z := z) (HZ.out)).mono ?_
                  rintro e wn ⟨rfl, hb⟩
                  refine ⟨_, rfl, hb, ?_⟩
                  replace E := hid (E.out.trans hb)
                  replace Ba := hid (Ba.out.up hb)
                  replace Bb := hid (Bb.out.up hb)
                  replace V7 := hid (V7.out.up hb)
                  replace V8 := hid (V8.out.up hb)
                  replace V9 := hid (V9.out.up hb)
                  replace V10 := hid (V10.out.up hb)
                  replace V11 := hid (V11.out.up hb)
                  replace V12 := hid (V12.out.up hb)
                  replace V13 := hid (V13.out.up hb)
                  replace V14 := hid (V14.out.up hb)
                  replace Na := hid (Na.out.up hb)
                  replace Nb := hid (Nb.out.up hb)
                  replace Ra := hid (Ra.out.up hb)
                  replace Rb := hid (Rb.out.up hb)
                  replace Q1 := hid (Q1.out.up hb)
                  replace Q2 := hid (Q2.out.up hb)
                  replace Q3 := hid (Q3.out.up hb)
                  replace Q4 := hid (Q4.out.up hb)
                  replace Q5 := hid (Q5.out.up hb)
                  replace Q6 := hid (Q6.out.up hb)
                  replace Q7 := hid (Q7.out.up hb)
                  replace Q8 := hid (Q8.out.up hb)
                  clear hb
                  simp only [Act.put, List.setIfInBounds_toArray, List.set_cons_zero, List.set_cons_succ]
                  refine WE.call (d := some 99) rfl rfl (by rfl) (f := 20) (args := #[(.agg #[.bool ga, .slice Aa na ca]), (.agg #[.bool gb, .slice Ab nb cb])]) (by go_simp) ?_
                  refine (rCmp_w Ra.out Rb.out (z := z) (HZ.out)).mono ?_
                  rintro e wn ⟨rfl, hb⟩
                  refine ⟨_, rfl, hb, ?_⟩
                  replace E := hid (E.out.trans hb)
                  replace Ba := hid (Ba.out.up hb)
                  replace Bb := hid (Bb.out.up hb)
                  replace V7 := hid (V7.out.up hb)
                  replace V8 := hid (V8.out.up hb)
                  replace V9 := hid (V9.out.up hb)
                  replace V10 := hid (V10.out.up hb)
                  replace V11 := hid (V11.out.up hb)
                  replace V12 := hid (V12.out.up hb)
                  replace V13 := hid (V13.out.up hb)
                  replace V14 := hid (V14.out.up hb)
                  replace Na := hid (Na.out.up hb)
                  replace Nb := hid (Nb.out.up hb)
                  replace Ra := hid (Ra.out.up hb)
                  replace Rb := hid (Rb.out.up hb)
                  replace Q1 := hid (Q1.out.up hb)
                  replace Q2 := hid (Q2.out.up hb)
                  replace Q3 := hid (Q3.out.up hb)
                  replace Q4 := hid (Q4.out.up hb)
                  replace Q5 := hid (Q5.out.up hb)
                  replace Q6 := hid (Q6.out.up hb)
                  replace Q7 := hid (Q7.out.up hb)
                  replace Q8 := hid (Q8.out.up hb)
                  clear hb
                  simp only [Act.put, List.setIfInBounds_toArray, List.set_cons_zero, List.set_cons_succ]
                  refine WE.pure (d := some 100) rfl rfl (by rfl) (v := (.bool false)) (fun w' hk => ?_) ?_
                  · go_simp
                  simp only [Act.put, List.setIfInBounds_toArray, List.set_cons_zero, List.set_cons_succ]
                  refine WE.pure (d := some 101) rfl rfl (by rfl) (v := (.bool false)) (fun w' hk => ?_) ?_
                  · go_simp
                  simp only [Act.put, List.setIfInBounds_toArray, List.set_cons_zero, List.set_cons_succ]
                  refine WE.pure (d := some 102) rfl rfl (by rfl) (v := (.bool false)) (fun w' hk => ?_) ?_
                  · go_simp
                  simp only [Act.put, List.setIfInBounds_toArray, List.set_cons_zero, List.set_cons_succ]
                  refine WE.pure (d := some 103) rfl rfl (by rfl) (v := (.agg #[.bool ga, .slice Aa na ca])) (fun w' hk => ?_) ?_
                  · have c0 := hk.cell (Ba.out.cell (o := 0) (v := .bool ga) rfl); have c1 := hk.cell (Ba.out.cell (o := 1) (v := .slice Aa na ca) rfl); go_simp
                  simp only [Act.put, List.setIfInBounds_toArray, List.set_cons_zero, List.set_cons_succ]
                  refine WE.pure (d := some 104) rfl rfl (by rfl) (v := (.agg #[.bool gb, .slice Ab nb cb])) (fun w' hk => ?_) ?_
                  · have c0 := hk.cell (Bb.out.cell (o := 0) (v := .bool gb) rfl); have c1 := hk.cell (Bb.out.cell (o := 1) (v := .slice Ab nb cb) rfl); go_simp
                  simp only [Act.put, List.setIfInBounds_toArray, List.set_cons_zero, List.set_cons_succ]
                  refine WE.pure (d := some 106) rfl rfl (by rfl) (v := (.agg #[.bool ga, .slice Aa na ca])) (fun w' hk => ?_) ?_
                  · have c0 := hk.cell (Ba.out.cell (o := 0) (v := .bool ga) rfl); have c1 := hk.cell (Ba.out.cell (o := 1) (v := .slice Aa na ca) rfl); go_simp
                  simp only [Act.put, List.setIfInBounds_toArray, List.set_cons_zero, List.set_cons_succ]
                  as_aux_lemma =>
                    refine WE.pure (d := some 107) rfl rfl (by rfl) (v := (.agg #[.bool gb, .slice Ab nb cb])) (fun w' hk => ?_) ?_
                    · have c0 := hk.cell (Bb.out.cell (o := 0) (v := .bool gb) rfl); have c1 := hk.cell (Bb.out.cell (o := 1) (v := .slice Ab nb cb) rfl); go_simp
                    simp only [Act.put, List.setIfInBounds_toArray, List.set_cons_zero, List.set_cons_succ]
                    refine WE.call (d := some 105) rfl rfl (by rfl) (f := 21) (args := #[(.agg #[.bool ga, .slice Aa na ca]), (.agg #[.bool gb, .slice Ab nb cb])]) (by go_simp) ?_
                    refine (same_w Ra.out Rb.out (b := sm) (HSM.out)).mono ?_
                    rintro e wn ⟨rfl, hb⟩
                    refine ⟨_, rfl, hb, ?_⟩
                    replace E := hid (E.out.trans hb)
                    replace Ba := hid (Ba.out.up hb)
                    replace Bb := hid (Bb.out.up hb)
                    replace V7 := hid (V7.out.up hb)
                    replace V8 := hid (V8.out.up hb)
                    replace V9 := hid (V9.out.up hb)
                    replace V10 := hid (V10.out.up hb)
                    replace V11 := hid (V11.out.up hb)
                    replace V12 := hid (V12.out.up hb)
                    replace V13 := hid (V13.out.up hb)
                    replace V14 := hid (V14.out.up hb)
                    replace Na := hid (Na.out.up hb)
                    replace Nb := hid (Nb.out.up hb)
                    replace Ra := hid (Ra.out.up hb)
                    replace Rb := hid (Rb.out.up hb)
                    replace Q1 := hid (Q1.out.up hb)
                    replace Q2 := hid (Q2.out.up hb)
                    replace Q3 := hid (Q3.out.up hb)
                    replace Q4 := hid (Q4.out.up hb)
                    replace Q5 := hid (Q5.out.up hb)
                    replace Q6 := hid (Q6.out.up hb)
                    replace Q7 := hid (Q7.out.up hb)
                    replace Q8 := hid (Q8.out.up hb)
                    clear hb
                    simp only [Act.put, List.setIfInBounds_toArray, List.set_cons_zero, List.set_cons_succ]
                    refine WE.call (d := some 108) rfl rfl (by rfl) (f := 22) (args := #[(.agg #[.bool ga, .slice Aa na ca]), (.agg #[.bool gb, .slice Ab nb cb])]) (by go_simp) ?_
                    refine (rSame_w Ra.out Rb.out (b := sm) (HSM.out)).mono ?_
                    rintro e wn ⟨rfl, hb⟩
                    refine ⟨_, rfl, hb, ?_⟩
                    replace E := hid (E.out.trans hb)
                    replace Ba := hid (Ba.out.up hb)
                    replace Bb := hid (Bb.out.up hb)
                    replace V7 := hid (V7.out.up hb)
                    replace V8 := hid (V8.out.up hb)
                    replace V9 := hid (V9.out.up hb)
                    replace V10 := hid (V10.out.up hb)
                    replace V11 := hid (V11.out.up hb)
                    replace V12 := hid (V12.out.up hb)
                    replace V13 := hid (V13.out.up hb)
                    replace V14 := hid (V14.out.up hb)
                    replace Na := hid (Na.out.up hb)
                    replace Nb := hid (Nb.out.up hb)
                    replace Ra := hid (Ra.out.up hb)
                    replace Rb := hid (Rb.out.up hb)
                    replace Q1 := hid (Q1.out.up hb)
                    replace Q2 := hid (Q2.out.up hb)
                    replace Q3 := hid (Q3.out.up hb)
                    replace Q4 := hid (Q4.out.up hb)
                    replace Q5 := hid (Q5.out.up hb)
                    replace Q6 := hid (Q6.out.up hb)
                    replace Q7 := hid (Q7.out.up hb)
                    replace Q8 := hid (Q8.out.up hb)
                    clear hb
                    simp only [Act.put, List.setIfInBounds_toArray, List.set_cons_zero, List.set_cons_succ]
                    refine WE.pure (d := some 109) rfl rfl (by rfl) (v := (.bool false)) (fun w' hk => ?_) ?_
                    · go_simp
                    simp only [Act.put, List.setIfInBounds_toArray, List.set_cons_zero, List.set_cons_succ]
                    refine WE.pure (d := some 110) rfl rfl (by rfl) (v := (.bool false)) (fun w' hk => ?_) ?_
                    · go_simp
                    simp only [Act.put, List.setIfInBounds_toArray, List.set_cons_zero, List.set_cons_succ]
                    refine WE.done ?_
                    go_upto_region 13 with (fail)
                    refine wp_region_E [(0, 0), (2, 0), (1, 1), (3, 1), (4, 1), (5, 0), (6, 0), (7, 0), (9, 0), (8, 1), (10, 1), (11, 1), (12, 0), (13, 0), (14, 0), (15, 0), (16, 0), (18, 0), (19, 0), (17, 1), (20, 1), (21, 1), (22, 0), (23, 0), (24, 0), (25, 0), (26, 0), (28, 0), (29, 0), (27, 1), (30, 1), (31, 1), (32, 0), (33, 0), (34, 0), (35, 0), (36, 0), (38, 0), (39, 0), (37, 1), (40, 1), (41, 1), (42, 0), (43, 0)] (fun _ => (0, #[])) rfl (by kernel_rfl) (by intro j hj; cases hj) (fun _ _ d _ _ => by cases d <;> exact Iff.rfl) fun wd hb => ?_
                    replace E := hid (E.out.trans hb)
                    replace Ba := hid (Ba.out.up hb)
                    replace Bb := hid (Bb.out.up hb)
                    replace V7 := hid (V7.out.up hb)
                    replace V8 := hid (V8.out.up hb)
                    replace V9 := hid (V9.out.up hb)
                    replace V10 := hid (V10.out.up hb)
                    replace V11 := hid (V11.out.up hb)
                    replace V12 := hid (V12.out.up hb)
                    replace V13 := hid (V13.out.up hb)
                    replace V14 := hid (V14.out.up hb)
                    replace Na := hid (Na.out.up hb)
                    replace Nb := hid (Nb.out.up hb)
                    replace Ra := hid (Ra.out.up hb)
                    replace Rb := hid (Rb.out.up hb)
                    replace Q1 := hid (Q1.out.up hb)
                    replace Q2 := hid (Q2.out.up hb)
                    replace Q3 := hid (Q3.out.up hb)
                    replace Q4 := hid (Q4.out.up hb)
                    replace Q5 := hid (Q5.out.up hb)
                    replace Q6 := hid (Q6.out.up hb)
                    replace Q7 := hid (Q7.out.up hb)
                    replace Q8 := hid (Q8.out.up hb)
                    clear hb
                    refine WE.pure (d := some 111) rfl rfl (by rfl) (v := (.agg #[.bool ga, .slice Aa na ca])) (fun w' hk => ?_) ?_
                    · have c0 := hk.cell (Ba.out.cell (o := 0) (v := .bool ga) rfl); have c1 := hk.cell (Ba.out.cell (o := 1) (v := .slice Aa na ca) rfl); go_simp
                    simp only [Act.put, List.setIfInBounds_toArray, List.set_cons_zero, List.set_cons_succ]
                    refine WE.pure (d := some 113) rfl rfl (by rfl) (v := (.agg #[.bool ga, .slice Aa na ca])) (fun w' hk => ?_) ?_
                    · have c0 := hk.cell (Ba.out.cell (o := 0) (v := .bool ga) rfl); have c1 := hk.cell (Ba.out.cell (o := 1) (v := .slice Aa na ca) rfl); go_simp
                    simp only [Act.put, List.setIfInBounds_toArray, List.set_cons_zero, List.set_cons_succ]
                    refine WE.call (d := some 112) rfl rfl (by rfl) (f := 23) (args := #[(.agg #[.bool ga, .slice Aa na ca])]) (by go_simp) ?_
                    refine (neg_w Ra.out (by omega)).mono ?_
                    rintro e wn ⟨v1, rfl, x1, hb⟩
                    obtain ⟨g11, A11, n11, c11, rfl⟩ := x1.shape
                    refine ⟨_, rfl, hb, ?_⟩
                    replace E := hid (E.out.trans hb)
                    replace Ba := hid (Ba.out.up hb)
                    replace Bb := hid (Bb.out.up hb)
                    replace V7 := hid (V7.out.up hb)
                    replace V8 := hid (V8.out.up hb)
                    replace V9 := hid (V9.out.up hb)
                    replace V10 := hid (V10.out.up hb)
                    replace V11 := hid (V11.out.up hb)
                    replace V12 := hid (V12.out.up hb)
                    replace V13 := hid (V13.out.up hb)
                    replace V14 := hid (V14.out.up hb)
                    replace Na := hid (Na.out.up hb)
                    replace Nb := hid (Nb.out.up hb)
                    replace Ra := hid (Ra.out.up hb)
                    replace Rb := hid (Rb.out.up hb)
                    replace Q1 := hid (Q1.out.up hb)
                    replace Q2 := hid (Q2.out.up hb)
                    replace Q3 := hid (Q3.out.up hb)
                    replace Q4 := hid (Q4.out.up hb)
                    replace Q5 := hid (Q5.out.up hb)
                    replace Q6 := hid (Q6.out.up hb)
                    replace Q7 := hid (Q7.out.up hb)
                    replace Q8 := hid (Q8.out.up hb)
                    have Q11 := hid x1
                    clear hb x1
                    simp only [Act.put, List.setIfInBounds_toArray, List.set_cons_zero, List.set_cons_succ]
                    refine WE.call (d := some 114) rfl rfl (by rfl) (f := 24) (args := #[(.agg #[.bool ga, .slice Aa na ca])]) (by go_simp) ?_
                    refine (rNeg_w Ra.out).mono ?_
                    rintro e wn ⟨v1, rfl, x1, hb⟩
                    obtain ⟨g12, A12, n12, c12, rfl⟩ := x1.shape
                    refine ⟨_, rfl, hb, ?_⟩
                    replace E := hid (E.out.trans hb)
                    replace Ba := hid (Ba.out.up hb)
                    replace Bb := hid (Bb.out.up hb)
                    replace V7 := hid (V7.out.up hb)
                    replace V8 := hid (V8.out.up hb)
                    replace V9 := hid (V9.out.up hb)
                    replace V10 := hid (V10.out.up hb)
                    replace V11 := hid (V11.out.up hb)
                    replace V12 := hid (V12.out.up hb)
                    replace V13 := hid (V13.out.up hb)
                    replace V14 := hid (V14.out.up hb)
                    replace Na := hid (Na.out.up hb)
                    replace Nb := hid (Nb.out.up hb)
                    replace Ra := hid (Ra.out.up hb)
                    replace Rb := hid (Rb.out.up hb)
                    replace Q1 := hid (Q1.out.up hb)
                    replace Q2 := hid (Q2.out.up hb)
                    replace Q3 := hid (Q3.out.up hb)
                    replace Q4 := hid (Q4.out.up hb)
                    replace Q5 := hid (Q5.out.up hb)
                    replace Q6 := hid (Q6.out.up hb)
                    replace Q7 := hid (Q7.out.up hb)
                    replace Q8 := hid (Q8.out.up hb)
                    replace Q11 := hid (Q11.out.up hb)
                    have Q12 := hid x1
                    clear hb x1
                    simp only [Act.put, List.setIfInBounds_toArray, List.set_cons_zero, List.set_cons_succ]
                    refine WE.call (d := some 115) rfl rfl (by rfl) (f := 14) (args := #[(.agg #[.bool g11, .slice A11 n11 c11]), (.agg #[.bool g12, .slice A12 n12 c12])]) (by go_simp) ?_
                    refine (equal_z (IsZ.to Q11.out (rfl)) (IsZ.to Q12.out (rfl))).mono ?_
                    rintro e wn ⟨rfl, hb⟩
                    refine ⟨_, rfl, hb, ?_⟩
                    replace E := hid (E.out.trans hb)
                    replace Ba := hid (Ba.out.up hb)
                    replace Bb := hid (Bb.out.up hb)
                    replace V7 := hid (V7.out.up hb)
                    replace V8 := hid (V8.out.up hb)
                    replace V9 := hid (V9.out.up hb)
                    replace V10 := hid (V10.out.up hb)
                    replace V11 := hid (V11.out.up hb)
                    replace V12 := hid (V12.out.up hb)
                    replace V13 := hid (V13.out.up hb)
                    replace V14 := hid (V14.out.up hb)
                    replace Na := hid (Na.out.up hb)
                    replace Nb := hid (Nb.out.up hb)
                    replace Ra := hid (Ra.out.up hb)
                    replace Rb := hid (Rb.out.up hb)
                    replace Q1 := hid (Q1.out.up hb)
                    replace Q2 := hid (Q2.out.up hb)
                    replace Q3 := hid (Q3.out.up hb)
                    replace Q4 := hid (Q4.out.up hb)
                    replace Q5 := hid (Q5.out.up hb)
                    replace Q6 := hid (Q6.out.up hb)
                    replace Q7 := hid (Q7.out.up hb)
                    replace Q8 := hid (Q8.out.up hb)
                    replace Q11 := hid (Q11.out.up hb)
                    replace Q12 := hid (Q12.out.up hb)
                    clear hb
                    simp only [Act.put, List.setIfInBounds_toArray, List.set_cons_zero, List.set_cons_succ]
                    clear Q11
                    clear Q12
                    refine WE.pure (d := some 116) rfl rfl (by rfl) (v := (.bool false)) (fun w' hk => ?_) ?_
                    · go_simp
                    simp only [Act.put, List.setIfInBounds_toArray, List.set_cons_zero, List.set_cons_succ]
                    refine WE.pure (d := some 117) rfl rfl (by rfl) (v := (.bool false)) (fun w' hk => ?_) ?_
                    · go_simp
                    simp only [Act.put, List.setIfInBounds_toArray, List.set_cons_zero, List.set_cons_succ]
                    as_aux_lemma =>
                      refine WE.pure (d := some 118) rfl rfl (by rfl) (v := (.agg #[.bool ga, .slice Aa na ca])) (fun w' hk => ?_) ?_
                      · have c0 := hk.cell (Ba.out.cell (o := 0) (v := .bool ga) rfl); have c1 := hk.cell (Ba.out.cell (o := 1) (v := .slice Aa na ca) rfl); go_simp
                      simp only [Act.put, List.setIfInBounds_toArray, List.set_cons_zero, List.set_cons_succ]
                      refine WE.pure (d := some 120) rfl rfl (by rfl) (v := (.agg #[.bool ga, .slice Aa na ca])) (fun w' hk => ?_) ?_
                      · have c0 := hk.cell (Ba.out.cell (o := 0) (v := .bool ga) rfl); have c1 := hk.cell (Ba.out.cell (o := 1) (v := .slice Aa na ca) rfl); go_simp
                      simp only [Act.put, List.setIfInBounds_toArray, List.set_cons_zero, List.set_cons_succ]
                      refine WE.call (d := some 119) rfl rfl (by rfl) (f := 25) (args := #[(.agg #[.bool ga, .slice Aa na ca])]) (by go_simp) ?_
                      refine (abs_w Ra.out (by omega)).mono ?_
                      rintro e wn ⟨v1, rfl, x1, hb⟩
                      obtain ⟨g13, A13, n13, c13, rfl⟩ := x1.shape
                      refine ⟨_, rfl, hb, ?_⟩
                      replace E := hid (E.out.trans hb)
                      replace Ba := hid (Ba.out.up hb)
                      replace Bb := hid (Bb.out.up hb)
                      replace V7 := hid (V7.out.up hb)
                      replace V8 := hid (V8.out.up hb)
                      replace V9 := hid (V9.out.up hb)
                      replace V10 := hid (V10.out.up hb)
                      replace V11 := hid (V11.out.up hb)
                      replace V12 := hid (V12.out.up hb)
                      replace V13 := hid (V13.out.up hb)
                      replace V14 := hid (V14.out.up hb)
                      replace Na := hid (Na.out.up hb)
                      replace Nb := hid (Nb.out.up hb)
                      replace Ra := hid (Ra.out.up hb)
                      replace Rb := hid (Rb.out.up hb)
                      replace Q1 := hid (Q1.out.up hb)
                      replace Q2 := hid (Q2.out.up hb)
                      replace Q3 := hid (Q3.out.up hb)
                      replace Q4 := hid (Q4.out.up hb)
                      replace Q5 := hid (Q5.out.up hb)
                      replace Q6 := hid (Q6.out.up hb)
                      replace Q7 := hid (Q7.out.up hb)
                      replace Q8 := hid (Q8.out.up hb)
                      have Q13 := hid x1
                      clear hb x1
                      simp only [Act.put, List.setIfInBounds_toArray, List.set_cons_zero, List.set_cons_succ]
                      refine WE.call (d := some 121) rfl rfl (by rfl) (f := 26) (args := #[(.agg #[.bool ga, .slice Aa na ca])]) (by go_simp) ?_
                      refine (rAbs_w Ra.out).mono ?_
                      rintro e wn ⟨v1, rfl, x1, hb⟩
                      obtain ⟨g14, A14, n14, c14, rfl⟩ := x1.shape
                      refine ⟨_, rfl, hb, ?_⟩
                      replace E := hid (E.out.trans hb)
                      replace Ba := hid (Ba.out.up hb)
                      replace Bb := hid (Bb.out.up hb)
                      replace V7 := hid (V7.out.up hb)
                      replace V8 := hid (V8.out.up hb)
                      replace V9 := hid (V9.out.up hb)
                      replace V10 := hid (V10.out.up hb)
                      replace V11 := hid (V11.out.up hb)
                      replace V12 := hid (V12.out.up hb)
                      replace V13 := hid (V13.out.up hb)
                      replace V14 := hid (V14.out.up hb)
                      replace Na := hid (Na.out.up hb)
                      replace Nb := hid (Nb.out.up hb)
                      replace Ra := hid (Ra.out.up hb)
                      replace Rb := hid (Rb.out.up hb)
                      replace Q1 := hid (Q1.out.up hb)
                      replace Q2 := hid (Q2.out.up hb)
                      replace Q3 := hid (Q3.out.up hb)
                      replace Q4 := hid (Q4.out.up hb)
                      replace Q5 := hid (Q5.out.up hb)
                      replace Q6 := hid (Q6.out.up hb)
                      replace Q7 := hid (Q7.out.up hb)
                      replace Q8 := hid (Q8.out.up hb)
                      replace Q13 := hid (Q13.out.up hb)
                      have Q14 := hid x1
                      clear hb x1
                      simp only [Act.put, List.setIfInBounds_toArray, List.set_cons_zero, List.set_cons_succ]
                      refine WE.call (d := some 122) rfl rfl (by rfl) (f := 14) (args := #[(.agg #[.bool g13, .slice A13 n13 c13]), (.agg #[.bool g14, .slice A14 n14 c14])]) (by go_simp) ?_
                      refine (equal_z (IsZ.to Q13.out (rfl)) (IsZ.to Q14.out (rfl))).mono ?_
                      rintro e wn ⟨rfl, hb⟩
                      refine ⟨_, rfl, hb, ?_⟩
                      replace E := hid (E.out.trans hb)
                      replace Ba := hid (Ba.out.up hb)
                      replace Bb := hid (Bb.out.up hb)
                      replace V7 := hid (V7.out.up hb)
                      replace V8 := hid (V8.out.up hb)
                      replace V9 := hid (V9.out.up hb)
                      replace V10 := hid (V10.out.up hb)
                      replace V11 := hid (V11.out.up hb)
                      replace V12 := hid (V12.out.up hb)
                      replace V13 := hid (V13.out.up hb)
                      replace V14 := hid (V14.out.up hb)
                      replace Na := hid (Na.out.up hb)
                      replace Nb := hid (Nb.out.up hb)
                      replace Ra := hid (Ra.out.up hb)
                      replace Rb := hid (Rb.out.up hb)
                      replace Q1 := hid (Q1.out.up hb)
                      replace Q2 := hid (Q2.out.up hb)
                      replace Q3 := hid (Q3.out.up hb)
                      replace Q4 := hid (Q4.out.up hb)
                      replace Q5 := hid (Q5.out.up hb)
                      replace Q6 := hid (Q6.out.up hb)
                      replace Q7 := hid (Q7.out.up hb)
                      replace Q8 := hid (Q8.out.up hb)
                      replace Q13 := hid (Q13.out.up hb)
                      replace Q14 := hid (Q14.out.up hb)
                      clear hb
                      simp only [Act.put, List.setIfInBounds_toArray, List.set_cons_zero, List.set_cons_succ]
                      clear Q13
                      clear Q14
                      refine WE.pure (d := some 123) rfl rfl (by rfl) (v := (.bool false)) (fun w' hk => ?_) ?_
                      · go_simp
                      simp only [Act.put, List.setIfInBounds_toArray, List.set_cons_zero, List.set_cons_succ]
                      refine WE.pure (d := some 124) rfl rfl (by rfl) (v := (.bool false)) (fun w' hk => ?_) ?_
                      · go_simp
                      simp only [Act.put, List.setIfInBounds_toArray, List.set_cons_zero, List.set_cons_succ]
                      refine WE.pure (d := some 125) rfl rfl (by rfl) (v := (.bool false)) (fun w' hk => ?_) ?_
                      · go_simp
                      simp only [Act.put, List.setIfInBounds_toArray, List.set_cons_zero, List.set_cons_succ]
                      refine WE.pure (d := some 126) rfl rfl (by rfl) (v := (.agg #[.bool ga, .slice Aa na ca])) (fun w' hk => ?_) ?_
                      · have c0 := hk.cell (Ba.out.cell (o := 0) (v := .bool ga) rfl); have c1 := hk.cell (Ba.out.cell (o := 1) (v := .slice Aa na ca) rfl); go_simp
                      simp only [Act.put, List.setIfInBounds_toArray, List.set_cons_zero, List.set_cons_succ]
                      refine WE.pure (d := some 127) rfl rfl (by rfl) (v := (.agg #[.bool gb, .slice Ab nb cb])) (fun w' hk => ?_) ?_
                      · have c0 := hk.cell (Bb.out.cell (o := 0) (v := .bool gb) rfl); have c1 := hk.cell (Bb.out.cell (o := 1) (v := .slice Ab nb cb) rfl); go_simp
                      simp only [Act.put, List.setIfInBounds_toArray, List.set_cons_zero, List.set_cons_succ]
                      refine WE.pure (d := some 129) rfl rfl (by rfl) (v := (.agg #[.bool ga, .slice Aa na ca])) (fun w' hk => ?_) ?_
                      · have c0 := hk.cell (Ba.out.cell (o := 0) (v := .bool ga) rfl); have c1 := hk.cell (Ba.out.cell (o := 1) (v := .slice Aa na ca) rfl); go_simp
                      simp only [Act.put, List.setIfInBounds_toArray, List.set_cons_zero, List.set_cons_succ]
                      refine WE.pure (d := some 130) rfl rfl (by rfl) (v := (.agg #[.bool gb, .slice Ab nb cb])) (fun w' hk => ?_) ?_
                      · have c0 := hk.cell (Bb.out.cell (o := 0) (v := .bool gb) rfl); have c1 := hk.cell (Bb.out.cell (o := 1) (v := .slice Ab nb cb) rfl); go_simp
                      simp only [Act.put, List.setIfInBounds_toArray, List.set_cons_zero, List.set_cons_succ]
                      as_aux_lemma =>
                        refine WE.call (d := some 128) rfl rfl (by rfl) (f := 27) (args := #[(.agg #[.bool ga, .slice Aa na ca]), (.agg #[.bool gb, .slice Ab nb cb])]) (by go_simp) ?_
                        refine (add_w Ra.out Rb.out (by omega) (by omega)).mono ?_
                        rintro e wn ⟨v1, rfl, x1, hb⟩
                        obtain ⟨g15, A15, n15, c15, rfl⟩ := x1.shape
                        refine ⟨_, rfl, hb, ?_⟩
                        replace E := hid (E.out.trans hb)
                        replace Ba := hid (Ba.out.up hb)
                        replace Bb := hid (Bb.out.up hb)
                        replace V7 := hid (V7.out.up hb)
                        replace V8 := hid (V8.out.up hb)
                        replace V9 := hid (V9.out.up hb)
                        replace V10 := hid (V10.out.up hb)
                        replace V11 := hid (V11.out.up hb)
                        replace V12 := hid (V12.out.up hb)
                        replace V13 := hid (V13.out.up hb)
                        replace V14 := hid (V14.out.up hb)
                        replace Na := hid (Na.out.up hb)
                        replace Nb := hid (Nb.out.up hb)
                        replace Ra := hid (Ra.out.up hb)
                        replace Rb := hid (Rb.out.up hb)
                        replace Q1 := hid (Q1.out.up hb)
                        replace Q2 := hid (Q2.out.up hb)
                        replace Q3 := hid (Q3.out.up hb)
                        replace Q4 := hid (Q4.out.up hb)
                        replace Q5 := hid (Q5.out.up hb)
                        replace Q6 := hid (Q6.out.up hb)
                        replace Q7 := hid (Q7.out.up hb)
                        replace Q8 := hid (Q8.out.up hb)
                        have Q15 := hid x1
                        clear hb x1
                        simp only [Act.put, List.setIfInBounds_toArray, List.set_cons_zero, List.set_cons_succ]
                        refine WE.call (d := some 131) rfl rfl (by rfl) (f := 28) (args := #[(.agg #[.bool ga, .slice Aa na ca]), (.agg #[.bool gb, .slice Ab nb cb])]) (by go_simp) ?_
                        refine (rAdd_w Ra.out Rb.out (by omega) (by omega)).mono ?_
                        rintro e wn ⟨v1, rfl, x1, hb⟩
                        obtain ⟨g16, A16, n16, c16, rfl⟩ := x1.shape
                        refine ⟨_, rfl, hb, ?_⟩
                        replace E := hid (E.out.trans hb)
                        replace Ba := hid (Ba.out.up hb)
                        replace Bb := hid (Bb.out.up hb)
                        replace V7 := hid (V7.out.up hb)
                        replace V8 := hid (V8.out.up hb)
                        replace V9 := hid (V9.out.up hb)
                        replace V10 := hid (V10.out.up hb)
                        replace V11 := hid (V11.out.up hb)
                        replace V12 := hid (V12.out.up hb)
                        replace V13 := hid (V13.out.up hb)
                        replace V14 := hid (V14.out.up hb)
                        replace Na := hid (Na.out.up hb)
                        replace Nb := hid (Nb.out.up hb)
                        replace Ra := hid (Ra.out.up hb)
                        replace Rb := hid (Rb.out.up hb)
                        replace Q1 := hid (Q1.out.up hb)
                        replace Q2 := hid (Q2.out.up hb)
                        replace Q3 := hid (Q3.out.up hb)
                        replace Q4 := hid (Q4.out.up hb)
                        replace Q5 := hid (Q5.out.up hb)
                        replace Q6 := hid (Q6.out.up hb)
                        replace Q7 := hid (Q7.out.up hb)
                        replace Q8 := hid (Q8.out.up hb)
                        replace Q15 := hid (Q15.out.up hb)
                        have Q16 := hid x1
                        clear hb x1
                        simp only [Act.put, List.setIfInBounds_toArray, List.set_cons_zero, List.set_cons_succ]
                        refine WE.call (d := some 132) rfl rfl (by rfl) (f := 14) (args := #[(.agg #[.bool g15, .slice A15 n15 c15]), (.agg #[.bool g16, .slice A16 n16 c16])]) (by go_simp) ?_
                        refine (equal_z (IsZ.to Q15.out (rfl)) (IsZ.to Q16.out (rfl))).mono ?_
                        rintro e wn ⟨rfl, hb⟩
                        refine ⟨_, rfl, hb, ?_⟩
                        replace E := hid (E.out.trans hb)
                        replace Ba := hid (Ba.out.up hb)
                        replace Bb := hid (Bb.out.up hb)
                        replace V7 := hid (V7.out.up hb)
                        replace V8 := hid (V8.out.up hb)
                        replace V9 := hid (V9.out.up hb)
                        replace V10 := hid (V10.out.up hb)
                        replace V11 := hid (V11.out.up hb)
                        replace V12 := hid (V12.out.up hb)
                        replace V13 := hid (V13.out.up hb)
                        replace V14 := hid (V14.out.up hb)
                        replace Na := hid (Na.out.up hb)
                        replace Nb := hid (Nb.out.up hb)
                        replace Ra := hid (Ra.out.up hb)
                        replace Rb := hid (Rb.out.up hb)
                        replace Q1 := hid (Q1.out.up hb)
                        replace Q2 := hid (Q2.out.up hb)
                        replace Q3 := hid (Q3.out.up hb)
                        replace Q4 := hid (Q4.out.up hb)
                        replace Q5 := hid (Q5.out.up hb)
                        replace Q6 := hid (Q6.out.up hb)
                        replace Q7 := hid (Q7.out.up hb)
                        replace Q8 := hid (Q8.out.up hb)
                        replace Q15 := hid (Q15.out.up hb)
                        replace Q16 := hid (Q16.out.up hb)
                        clear hb
                        simp only [Act.put, List.setIfInBounds_toArray, List.set_cons_zero, List.set_cons_succ]
                        clear Q15
                        clear Q16
                        refine WE.pure (d := some 133) rfl rfl (by rfl) (v := (.bool false)) (fun w' hk => ?_) ?_
                        · go_simp
                        simp only [Act.put, List.setIfInBounds_toArray, List.set_cons_zero, List.set_cons_succ]
                        refine WE.pure (d := some 134) rfl rfl (by rfl) (v := (.bool false)) (fun w' hk => ?_) ?_
                        · go_simp
                        simp only [Act.put, List.setIfInBounds_toArray, List.set_cons_zero, List.set_cons_succ]
                        refine WE.pure (d := some 135) rfl rfl (by rfl) (v := (.bool false)) (fun w' hk => ?_) ?_
                        · go_simp
                        simp only [Act.put, List.setIfInBounds_toArray, List.set_cons_zero, List.set_cons_succ]
                        refine WE.pure (d := some 136) rfl rfl (by rfl) (v := (.agg #[.bool ga, .slice Aa na ca])) (fun w' hk => ?_) ?_
                        · have c0 := hk.cell (Ba.out.cell (o := 0) (v := .bool ga) rfl); have c1 := hk.cell (Ba.out.cell (o := 1) (v := .slice Aa na ca) rfl); go_simp
                        simp only [Act.put, List.setIfInBounds_toArray, List.set_cons_zero, List.set_cons_succ]
                        refine WE.pure (d := some 137) rfl rfl (by rfl) (v := (.agg #[.bool gb, .slice Ab nb cb])) (fun w' hk => ?_) ?_
                        · have c0 := hk.cell (Bb.out.cell (o := 0) (v := .bool gb) rfl); have c1 := hk.cell (Bb.out.cell (o := 1) (v := .slice Ab nb cb) rfl); go_simp
                        simp only [Act.put, List.setIfInBounds_toArray, List.set_cons_zero, List.set_cons_succ]
                        refine WE.pure (d := some 139) rfl rfl (by rfl) (v := (.agg #[.bool ga, .slice Aa na ca])) (fun w' hk => ?_) ?_
                        · have c0 := hk.cell (Ba.out.cell (o := 0) (v := .bool ga) rfl); have c1 := hk.cell (Ba.out.cell (o := 1) (v := .slice Aa na ca) rfl); go_simp
                        simp only [Act.put, List.setIfInBounds_toArray, List.set_cons_zero, List.set_cons_succ]
                        refine WE.pure (d := some 140) rfl rfl (by rfl) (v := (.agg #[.bool gb, .slice Ab nb cb])) (fun w' hk => ?_) ?_
                        · have c0 := hk.cell (Bb.out.cell (o := 0) (v := .bool gb) rfl); have c1 := hk.cell (Bb.out.cell (o := 1) (v := .slice Ab nb cb) rfl); go_simp
                        simp only [Act.put, List.setIfInBounds_toArray, List.set_cons_zero, List.set_cons_succ]
                        refine WE.call (d := some 138) rfl rfl (by rfl) (f := 29) (args := #[(.agg #[.bool ga, .slice Aa na ca]), (.agg #[.bool gb, .slice Ab nb cb])]) (by go_simp) ?_
                        refine (sub_w Ra.out Rb.out (by omega) (by omega)).mono ?_
                        rintro e wn ⟨v1, rfl, x1, hb⟩
                        obtain ⟨g17, A17, n17, c17, rfl⟩ := x1.shape
                        refine ⟨_, rfl, hb, ?_⟩
                        replace E := hid (E.out.trans hb)
                        replace Ba := hid (Ba.out.up hb)
                        replace Bb := hid (Bb.out.up hb)
                        replace V7 := hid (V7.out.up hb)
                        replace V8 := hid (V8.out.up hb)
                        replace V9 := hid (V9.out.up hb)
                        replace V10 := hid (V10.out.up hb)
                        replace V11 := hid (V11.out.up hb)
                        replace V12 := hid (V12.out.up hb)
                        replace V13 := hid (V13.out.up hb)
                        replace V14 := hid (V14.out.up hb)
                        replace Na := hid (Na.out.up hb)
                        replace Nb := hid (Nb.out.up hb)
                        replace Ra := hid (Ra.out.up hb)
                        replace Rb := hid (Rb.out.up hb)
                        replace Q1 := hid (Q1.out.up hb)
                        replace Q2 := hid (Q2.out.up hb)
                        replace Q3 := hid (Q3.out.up hb)
                        replace Q4 := hid (Q4.out.up hb)
                        replace Q5 := hid (Q5.out.up hb)
                        replace Q6 := hid (Q6.out.up hb)
                        replace Q7 := hid (Q7.out.up hb)
                        replace Q8 := hid (Q8.out.up hb)
                        have Q17 := hid x1
                        clear hb x1
                        simp only [Act.put, List.setIfInBounds_toArray, List.set_cons_zero, List.set_cons_succ]
                        refine WE.call (d := some 141) rfl rfl (by rfl) (f := 30) (args := #[(.agg #[.bool ga, .slice Aa na ca]), (.agg #[.bool gb, .slice Ab nb cb])]) (by go_simp) ?_
                        refine (rSub_w Ra.out Rb.out (by omega) (by omega)).mono ?_
                        rintro e wn ⟨v1, rfl, x1, hb⟩
                        obtain ⟨g18, A18, n18, c18, rfl⟩ := x1.shape
                        refine ⟨_, rfl, hb, ?_⟩
                        replace E := hid (E.out.trans hb)
                        replace Ba := hid (Ba.out.up hb)
                        replace Bb := hid (Bb.out.up hb)
                        replace V7 := hid (V7.out.up hb)
                        replace V8 := hid (V8.out.up hb)
                        replace V9 := hid (V9.out.up hb)
                        replace V10 := hid (V10.out.up hb)
                        replace V11 := hid (V11.out.up hb)
                        replace V12 := hid (V12.out.up hb)
                        replace V13 := hid (V13.out.up hb)
                        replace V14 := hid (V14.out.up hb)
                        replace Na := hid (Na.out.up hb)
                        replace Nb := hid (Nb.out.up hb)
                        replace Ra := hid (Ra.out.up hb)
                        replace Rb := hid (Rb.out.up hb)
                        replace Q1 := hid (Q1.out.up hb)
                        replace Q2 := hid (Q2.out.up hb)
                        replace Q3 := hid (Q3.out.up hb)
                        replace Q4 := hid (Q4.out.up hb)
                        replace Q5 := hid (Q5.out.up hb)
                        replace Q6 := hid (Q6.out.up hb)
                        replace Q7 := hid (Q7.out.up hb)
                        replace Q8 := hid (Q8.out.up hb)
                        replace Q17 := hid (Q17.out.up hb)
                        have Q18 := hid x1
                        clear hb x1
                        simp only [Act.put, List.setIfInBounds_toArray, List.set_cons_zero, List.set_cons_succ]
                        as_aux_lemma =>
                          refine WE.call (d := some 142) rfl rfl (by rfl) (f := 14) (args := #[(.agg #[.bool g17, .slice A17 n17 c17]), (.agg #[.bool g18, .slice A18 n18 c18])]) (by go_simp) ?_
                          refine (equal_z (IsZ.to Q17.out (rfl)) (IsZ.to Q18.out (rfl))).mono ?_
                          rintro e wn ⟨rfl, hb⟩
                          refine ⟨_, rfl, hb, ?_⟩
                          replace E := hid (E.out.trans hb)
                          replace Ba := hid (Ba.out.up hb)
                          replace Bb := hid (Bb.out.up hb)
                          replace V7 := hid (V7.out.up hb)
                          replace V8 := hid (V8.out.up hb)
                          replace V9 := hid (V9.out.up hb)
                          replace V10 := hid (V10.out.up hb)
                          replace V11 := hid (V11.out.up hb)
                          replace V12 := hid (V12.out.up hb)
                          replace V13 := hid (V13.out.up hb)
                          replace V14 := hid (V14.out.up hb)
                          replace Na := hid (Na.out.up hb)
                          replace Nb := hid (Nb.out.up hb)
                          replace Ra := hid (Ra.out.up hb)
                          replace Rb := hid (Rb.out.up hb)
                          replace Q1 := hid (Q1.out.up hb)
                          replace Q2 := hid (Q2.out.up hb)
                          replace Q3 := hid (Q3.out.up hb)
                          replace Q4 := hid (Q4.out.up hb)
                          replace Q5 := hid (Q5.out.up hb)
                          replace Q6 := hid (Q6.out.up hb)
                          replace Q7 := hid (Q7.out.up hb)
                          replace Q8 := hid (Q8.out.up hb)
                          replace Q17 := hid (Q17.out.up hb)
                          replace Q18 := hid (Q18.out.up hb)
                          clear hb
                          simp only [Act.put, List.setIfInBounds_toArray, List.set_cons_zero, List.set_cons_succ]
                          clear Q17
                          clear Q18
                          refine WE.pure (d := some 143) rfl rfl (by rfl) (v := (.bool false)) (fun w' hk => ?_) ?_
                          · go_simp
                          simp only [Act.put, List.setIfInBounds_toArray, List.set_cons_zero, List.set_cons_succ]
                          refine WE.pure (d := some 144) rfl rfl (by rfl) (v := (.bool false)) (fun w' hk => ?_) ?_
                          · go_simp
                          simp only [Act.put, List.setIfInBounds_toArray, List.set_cons_zero, List.set_cons_succ]
                          refine WE.pure (d := some 145) rfl rfl (by rfl) (v := (.bool false)) (fun w' hk => ?_) ?_
                          · go_simp
                          simp only [Act.put, List.setIfInBounds_toArray, List.set_cons_zero, List.set_cons_succ]
                          refine WE.pure (d := some 146) rfl rfl (by rfl) (v := (.agg #[.bool ga, .slice Aa na ca])) (fun w' hk => ?_) ?_
                          · have c0 := hk.cell (Ba.out.cell (o := 0) (v := .bool ga) rfl); have c1 := hk.cell (Ba.out.cell (o := 1) (v := .slice Aa na ca) rfl); go_simp
                          simp only [Act.put, List.setIfInBounds_toArray, List.set_cons_zero, List.set_cons_succ]
                          refine WE.pure (d := some 147) rfl rfl (by rfl) (v := (.agg #[.bool gb, .slice Ab nb cb])) (fun w' hk => ?_) ?_
                          · have c0 := hk.cell (Bb.out.cell (o := 0) (v := .bool gb) rfl); have c1 := hk.cell (Bb.out.cell (o := 1) (v := .slice Ab nb cb) rfl); go_simp
                          simp only [Act.put, List.setIfInBounds_toArray, List.set_cons_zero, List.set_cons_succ]
                          refine WE.pure (d := some 149) rfl rfl (by rfl) (v := (.agg #[.bool ga, .slice Aa na ca])) (fun w' hk => ?_) ?_
                          · have c0 := hk.cell (Ba.out.cell (o := 0) (v := .bool ga) rfl); have c1 := hk.cell (Ba.out.cell (o := 1) (v := .slice Aa na ca) rfl); go_simp
                          simp only [Act.put, List.setIfInBounds_toArray, List.set_cons_zero, List.set_cons_succ]
                          refine WE.pure (d := some 150) rfl rfl (by rfl) (v := (.agg #[.bool gb, .slice Ab nb cb])) (fun w' hk => ?_) ?_
                          · have c0 := hk.cell (Bb.out.cell (o := 0) (v := .bool gb) rfl); have c1 := hk.cell (Bb.out.cell (o := 1) (v := .slice Ab nb cb) rfl); go_simp
                          simp only [Act.put, List.setIfInBounds_toArray, List.set_cons_zero, List.set_cons_succ]
                          refine WE.call (d := some 148) rfl rfl (by rfl) (f := 31) (args := #[(.agg #[.bool ga, .slice Aa na ca]), (.agg #[.bool gb, .slice Ab nb cb])]) (by go_simp) ?_
                          refine (mul_w Ra.out Rb.out (by omega) (by omega) (by omega)).mono ?_
                          rintro e wn ⟨v1, rfl, x1, hb⟩
                          obtain ⟨g19, A19, n19, c19, rfl⟩ := x1.shape
                          refine ⟨_, rfl, hb, ?_⟩
                          replace E := hid (E.out.trans hb)
                          replace Ba := hid (Ba.out.up hb)
                          replace Bb := hid (Bb.out.up hb)
                          replace V7 := hid (V7.out.up hb)
                          replace V8 := hid (V8.out.up hb)
                          replace V9 := hid (V9.out.up hb)
                          replace V10 := hid (V10.out.up hb)
                          replace V11 := hid (V11.out.up hb)
                          replace V12 := hid (V12.out.up hb)
                          replace V13 := hid (V13.out.up hb)
                          replace V14 := hid (V14.out.up hb)
                          replace Na := hid (Na.out.up hb)
                          replace Nb := hid (Nb.out.up hb)
                          replace Ra := hid (Ra.out.up hb)
                          replace Rb := hid (Rb.out.up hb)
                          replace Q1 := hid (Q1.out.up hb)
                          replace Q2 := hid (Q2.out.up hb)
                          replace Q3 := hid (Q3.out.up hb)
                          replace Q4 := hid (Q4.out.up hb)
                          replace Q5 := hid (Q5.out.up hb)
                          replace Q6 := hid (Q6.out.up hb)
                          replace Q7 := hid (Q7.out.up hb)
                          replace Q8 := hid (Q8.out.up hb)
                          have Q19 := hid x1
                          clear hb x1
                          simp only [Act.put, List.setIfInBounds_toArray, List.set_cons_zero, List.set_cons_succ]
                          refine WE.call (d := some 151) rfl rfl (by rfl) (f := 32) (args := #[(.agg #[.bool ga, .slice Aa na ca]), (.agg #[.bool gb, .slice Ab nb cb])]) (by go_simp) ?_
                          refine (rMul_w Ra.out Rb.out (by omega) (by omega)).mono ?_
                          rintro e wn ⟨v1, rfl, x1, hb⟩
                          obtain ⟨g20, A20, n20, c20, rfl⟩ := x1.shape
                          refine ⟨_, rfl, hb, ?_⟩
                          replace E := hid (E.out.trans hb)
                          replace Ba := hid (Ba.out.up hb)
                          replace Bb := hid (Bb.out.up hb)
                          replace V7 := hid (V7.out.up hb)
                          replace V8 := hid (V8.out.up hb)
                          replace V9 := hid (V9.out.up hb)
                          replace V10 := hid (V10.out.up hb)
                          replace V11 := hid (V11.out.up hb)
                          replace V12 := hid (V12.out.up hb)
                          replace V13 := hid (V13.out.up hb)
                          replace V14 := hid (V14.out.up hb)
                          replace Na := hid (Na.out.up hb)
                          replace Nb := hid (Nb.out.up hb)
                          replace Ra := hid (Ra.out.up hb)
                          replace Rb := hid (Rb.out.up hb)
                          replace Q1 := hid (Q1.out.up hb)
                          replace Q2 := hid (Q2.out.up hb)
                          replace Q3 := hid (Q3.out.up hb)
                          replace Q4 := hid (Q4.out.up hb)
                          replace Q5 := hid (Q5.out.up hb)
                          replace Q6 := hid (Q6.out.up hb)
                          replace Q7 := hid (Q7.out.up hb)
                          replace Q8 := hid (Q8.out.up hb)
                          replace Q19 := hid (Q19.out.up hb)
                          have Q20 := hid x1
                          clear hb x1
                          simp only [Act.put, List.setIfInBounds_toArray, List.set_cons_zero, List.set_cons_succ]
                          refine WE.call (d := some 152) rfl rfl (by rfl) (f := 14) (args := #[(.agg #[.bool g19, .slice A19 n19 c19]), (.agg #[.bool g20, .slice A20 n20 c20])]) (by go_simp) ?_
                          refine (equal_z (IsZ.to Q19.out (rfl)) (IsZ.to Q20.out (rfl))).mono ?_
                          rintro e wn ⟨rfl, hb⟩
                          refine ⟨_, rfl, hb, ?_⟩
                          replace E := hid (E.out.trans hb)
                          replace Ba := hid (Ba.out.up hb)
                          replace Bb := hid (Bb.out.up hb)
                          replace V7 := hid (V7.out.up hb)
                          replace V8 := hid (V8.out.up hb)
                          replace V9 := hid (V9.out.up hb)
                          replace V10 := hid (V10.out.up hb)
                          replace V11 := hid (V11.out.up hb)
                          replace V12 := hid (V12.out.up hb)
                          replace V13 := hid (V13.out.up hb)
                          replace V14 := hid (V14.out.up hb)
                          replace Na := hid (Na.out.up hb)
                          replace Nb := hid (Nb.out.up hb)
                          replace Ra := hid (Ra.out.up hb)
                          replace Rb := hid (Rb.out.up hb)
                          replace Q1 := hid (Q1.out.up hb)
                          replace Q2 := hid (Q2.out.up hb)
                          replace Q3 := hid (Q3.out.up hb)
                          replace Q4 := hid (Q4.out.up hb)
                          replace Q5 := hid (Q5.out.up hb)
                          replace Q6 := hid (Q6.out.up hb)
                          replace Q7 := hid (Q7.out.up hb)
                          replace Q8 := hid (Q8.out.up hb)
                          replace Q19 := hid (Q19.out.up hb)
                          replace Q20 := hid (Q20.out.up hb)
                          clear hb
                          simp only [Act.put, List.setIfInBounds_toArray, List.set_cons_zero, List.set_cons_succ]
                          clear Q19
                          clear Q20
                          refine WE.pure (d := some 153) rfl rfl (by rfl) (v := (.bool false)) (fun w' hk => ?_) ?_
                          · go_simp
                          simp only [Act.put, List.setIfInBounds_toArray, List.set_cons_zero, List.set_cons_succ]
                          as_aux_lemma =>
                            refine WE.pure (d := some 154) rfl rfl (by rfl) (v := (.bool false)) (fun w' hk => ?_) ?_
                            · go_simp
                            simp only [Act.put, List.setIfInBounds_toArray, List.set_cons_zero, List.set_cons_succ]
                            refine WE.done ?_
                            go_upto_region 15 with (fail)
                            refine wp_region_T [(0, 0), (1, 0), (2, 1), (3, 0), (4, 0), (5, 0), (6, 1), (7, 0), (8, 0), (9, 0), (10, 0), (11, 1), (12, 0), (13, 0), (14, 0), (15, 0), (16, 1), (17, 0), (18, 0)] (by kernel_rfl) fun wd hb => ?_
                            replace E := hid (E.out.trans hb)
                            replace Ba := hid (Ba.out.up hb)
                            replace Bb := hid (Bb.out.up hb)
                            replace V7 := hid (V7.out.up hb)
                            replace V8 := hid (V8.out.up hb)
                            replace V9 := hid (V9.out.up hb)
                            replace V10 := hid (V10.out.up hb)
                            replace V11 := hid (V11.out.up hb)
                            replace V12 := hid (V12.out.up hb)
                            replace V13 := hid (V13.out.up hb)
                            replace V14 := hid (V14.out.up hb)
                            replace Na := hid (Na.out.up hb)
                            replace Nb := hid (Nb.out.up hb)
                            replace Ra := hid (Ra.out.up hb)
                            replace Rb := hid (Rb.out.up hb)
                            replace Q1 := hid (Q1.out.up hb)
                            replace Q2 := hid (Q2.out.up hb)
                            replace Q3 := hid (Q3.out.up hb)
                            replace Q4 := hid (Q4.out.up hb)
                            replace Q5 := hid (Q5.out.up hb)
                            replace Q6 := hid (Q6.out.up hb)
                            replace Q7 := hid (Q7.out.up hb)
                            replace Q8 := hid (Q8.out.up hb)
                            clear hb
                            refine WE.pure (d := some 155) rfl rfl (by rfl) (v := (.agg #[.bool g1, .slice A1 n1 c1])) (fun w' hk => ?_) ?_
                            · have c0 := hk.cell (V7.out.cell (o := 0) (v := .bool g1) rfl); have c1 := hk.cell (V7.out.cell (o := 1) (v := .slice A1 n1 c1) rfl); go_simp
                            simp only [Act.put, List.setIfInBounds_toArray, List.set_cons_zero, List.set_cons_succ]
                            refine WE.pure (d := some 156) rfl rfl (by rfl) (v := (.agg #[.bool g3, .slice A3 n3 c3])) (fun w' hk => ?_) ?_
                            · have c0 := hk.cell (V9.out.cell (o := 0) (v := .bool g3) rfl); have c1 := hk.cell (V9.out.cell (o := 1) (v := .slice A3 n3 c3) rfl); go_simp
                            simp only [Act.put, List.setIfInBounds_toArray, List.set_cons_zero, List.set_cons_succ]
                            refine WE.call (d := some 157) rfl rfl (by rfl) (f := 14) (args := #[(.agg #[.bool g1, .slice A1 n1 c1]), (.agg #[.bool g3, .slice A3 n3 c3])]) (by go_simp) ?_
                            refine (equal_z (IsZ.to Q1.out (rfl)) (IsZ.to Q3.out (rfl))).mono ?_
                            rintro e wn ⟨rfl, hb⟩
                            refine ⟨_, rfl, hb, ?_⟩
                            replace E := hid (E.out.trans hb)
                            replace Ba := hid (Ba.out.up hb)
                            replace Bb := hid (Bb.out.up hb)
                            replace V7 := hid (V7.out.up hb)
                            replace V8 := hid (V8.out.up hb)
                            replace V9 := hid (V9.out.up hb)
                            replace V10 := hid (V10.out.up hb)
                            replace V11 := hid (V11.out.up hb)
                            replace V12 := hid (V12.out.up hb)
                            replace V13 := hid (V13.out.up hb)
                            replace V14 := hid (V14.out.up hb)
                            replace Na := hid (Na.out.up hb)
                            replace Nb := hid (Nb.out.up hb)
                            replace Ra := hid (Ra.out.up hb)
                            replace Rb := hid (Rb.out.up hb)
                            replace Q1 := hid (Q1.out.up hb)
                            replace Q2 := hid (Q2.out.up hb)
                            replace Q3 := hid (Q3.out.up hb)
                            replace Q4 := hid (Q4.out.up hb)
                            replace Q5 := hid (Q5.out.up hb)
                            replace Q6 := hid (Q6.out.up hb)
                            replace Q7 := hid (Q7.out.up hb)
                            replace Q8 := hid (Q8.out.up hb)
                            clear hb
                            simp only [Act.put, List.setIfInBounds_toArray, List.set_cons_zero, List.set_cons_succ]
                            refine WE.pure (d := some 158) rfl rfl (by rfl) (v := (.bool true)) (fun w' hk => ?_) ?_
                            · go_simp
                            simp only [Act.put, List.setIfInBounds_toArray, List.set_cons_zero, List.set_cons_succ]
                            refine WE.pure (d := some 159) rfl rfl (by rfl) (v := (.agg #[.bool g2, .slice A2 n2 c2])) (fun w' hk => ?_) ?_
                            · have c0 := hk.cell (V8.out.cell (o := 0) (v := .bool g2) rfl); have c1 := hk.cell (V8.out.cell (o := 1) (v := .slice A2 n2 c2) rfl); go_simp
                            simp only [Act.put, List.setIfInBounds_toArray, List.set_cons_zero, List.set_cons_succ]
                            refine WE.pure (d := some 160) rfl rfl (by rfl) (v := (.agg #[.bool g4, .slice A4 n4 c4])) (fun w' hk => ?_) ?_
                            · have c0 := hk.cell (V10.out.cell (o := 0) (v := .bool g4) rfl); have c1 := hk.cell (V10.out.cell (o := 1) (v := .slice A4 n4 c4) rfl); go_simp
                            simp only [Act.put, List.setIfInBounds_toArray, List.set_cons_zero, List.set_cons_succ]
                            refine WE.call (d := some 161) rfl rfl (by rfl) (f := 14) (args := #[(.agg #[.bool g2, .slice A2 n2 c2]), (.agg #[.bool g4, .slice A4 n4 c4])]) (by go_simp) ?_
                            refine (equal_z (IsZ.to Q2.out (rfl)) (IsZ.to Q4.out (rfl))).mono ?_
                            rintro e wn ⟨rfl, hb⟩
                            refine ⟨_, rfl, hb, ?_⟩
                            replace E := hid (E.out.trans hb)
                            replace Ba := hid (Ba.out.up hb)
                            replace Bb := hid (Bb.out.up hb)
                            replace V7 := hid (V7.out.up hb)
                            replace V8 := hid (V8.out.up hb)
                            replace V9 := hid (V9.out.up hb)
                            replace V10 := hid (V10.out.up hb)
                            replace V11 := hid (V11.out.up hb)
                            replace V12 := hid (V12.out.up hb)
                            replace V13 := hid (V13.out.up hb)
                            replace V14 := hid (V14.out.up hb)
                            replace Na := hid (Na.out.up hb)
                            replace Nb := hid (Nb.out.up hb)
                            replace Ra := hid (Ra.out.up hb)
                            replace Rb := hid (Rb.out.up hb)
                            replace Q1 := hid (Q1.out.up hb)
                            replace Q2 := hid (Q2.out.up hb)
                            replace Q3 := hid (Q3.out.up hb)
                            replace Q4 := hid (Q4.out.up hb)
                            replace Q5 := hid (Q5.out.up hb)
                            replace Q6 := hid (Q6.out.up hb)
                            replace Q7 := hid (Q7.out.up hb)
                            replace Q8 := hid (Q8.out.up hb)
                            clear hb
                            simp only [Act.put, List.setIfInBounds_toArray, List.set_cons_zero, List.set_cons_succ]
                            refine WE.pure (d := some 162) rfl rfl (by rfl) (v := (.bool true)) (fun w' hk => ?_) ?_
                            · go_simp
                            simp only [Act.put, List.setIfInBounds_toArray, List.set_cons_zero, List.set_cons_succ]
                            refine WE.pure (d := some 163) rfl rfl (by rfl) (v := (.bool true)) (fun w' hk => ?_) ?_
                            · go_simp
                            simp only [Act.put, List.setIfInBounds_toArray, List.set_cons_zero, List.set_cons_succ]
                            refine WE.pure (d := some 164) rfl rfl (by rfl) (v := (.agg #[.bool g5, .slice A5 n5 c5])) (fun w' hk => ?_) ?_
                            · have c0 := hk.cell (V11.out.cell (o := 0) (v := .bool g5) rfl); have c1 := hk.cell (V11.out.cell (o := 1) (v := .slice A5 n5 c5) rfl); go_simp
                            simp only [Act.put, List.setIfInBounds_toArray, List.set_cons_zero, List.set_cons_succ]
                            refine WE.pure (d := some 165) rfl rfl (by rfl) (v := (.agg #[.bool g7, .slice A7 n7 c7])) (fun w' hk => ?_) ?_
                            · have c0 := hk.cell (V13.out.cell (o := 0) (v := .bool g7) rfl); have c1 := hk.cell (V13.out.cell (o := 1) (v := .slice A7 n7 c7) rfl); go_simp
                            simp only [Act.put, List.setIfInBounds_toArray, List.set_cons_zero, List.set_cons_succ]
                            as_aux_lemma =>
                              refine WE.call (d := some 166) rfl rfl (by rfl) (f := 14) (args := #[(.agg #[.bool g5, .slice A5 n5 c5]), (.agg #[.bool g7, .slice A7 n7 c7])]) (by go_simp) ?_
                              refine (equal_z (IsZ.to Q5.out (rfl)) (IsZ.to Q7.out (rfl))).mono ?_
                              rintro e wn ⟨rfl, hb⟩
                              refine ⟨_, rfl, hb, ?_⟩
                              replace E := hid (E.out.trans hb)
                              replace Ba := hid (Ba.out.up hb)
                              replace Bb := hid (Bb.out.up hb)
                              replace V7 := hid (V7.out.up hb)
                              replace V8 := hid (V8.out.up hb)
                              replace V9 := hid (V9.out.up hb)
                              replace V10 := hid (V10.out.up hb)
                              replace V11 := hid (V11.out.up hb)
                              replace V12 := hid (V12.out.up hb)
                              replace V13 := hid (V13.out.up hb)
                              replace V14 := hid (V14.out.up hb)
                              replace Na := hid (Na.out.up hb)
                              replace Nb := hid (Nb.out.up hb)
                              replace Ra := hid (Ra.out.up hb)
                              replace Rb := hid (Rb.out.up hb)
                              replace Q1 := hid (Q1.out.up hb)
                              replace Q2 := hid (Q2.out.up hb)
                              replace Q3 := hid (Q3.out.up hb)
                              replace Q4 := hid (Q4.out.up hb)
                              replace Q5 := hid (Q5.out.up hb)
                              replace Q6 := hid (Q6.out.up hb)
                              replace Q7 := hid (Q7.out.up hb)
                              replace Q8 := hid (Q8.out.up hb)
                              clear hb
                              simp only [Act.put, List.setIfInBounds_toArray, List.set_cons_zero, List.set_cons_succ]
                              refine WE.pure (d := some 167) rfl rfl (by rfl) (v := (.bool true)) (fun w' hk => ?_) ?_
                              · go_simp
                              simp only [Act.put, List.setIfInBounds_toArray, List.set_cons_zero, List.set_cons_succ]
                              refine WE.pure (d := some 168) rfl rfl (by rfl) (v := (.bool true)) (fun w' hk => ?_) ?_
                              · go_simp
                              simp only [Act.put, List.setIfInBounds_toArray, List.set_cons_zero, List.set_cons_succ]
                              refine WE.pure (d := some 169) rfl rfl (by rfl) (v := (.agg #[.bool g6, .slice A6 n6 c6])) (fun w' hk => ?_) ?_
                              · have c0 := hk.cell (V12.out.cell (o := 0) (v := .bool g6) rfl); have c1 := hk.cell (V12.out.cell (o := 1) (v := .slice A6 n6 c6) rfl); go_simp
                              simp only [Act.put, List.setIfInBounds_toArray, List.set_cons_zero, List.set_cons_succ]
                              refine WE.pure (d := some 170) rfl rfl (by rfl) (v := (.agg #[.bool g8, .slice A8 n8 c8])) (fun w' hk => ?_) ?_
                              · have c0 := hk.cell (V14.out.cell (o := 0) (v := .bool g8) rfl); have c1 := hk.cell (V14.out.cell (o := 1) (v := .slice A8 n8 c8) rfl); go_simp
                              simp only [Act.put, List.setIfInBounds_toArray, List.set_cons_zero, List.set_cons_succ]
                              refine WE.call (d := some 171) rfl rfl (by rfl) (f := 14) (args := #[(.agg #[.bool g6, .slice A6 n6 c6]), (.agg #[.bool g8, .slice A8 n8 c8])]) (by go_simp) ?_
                              refine (equal_z (IsZ.to Q6.out (rfl)) (IsZ.to Q8.out (rfl))).mono ?_
                              rintro e wn ⟨rfl, hb⟩
                              refine ⟨_, rfl, hb, ?_⟩
                              replace E := hid (E.out.trans hb)
                              replace Ba := hid (Ba.out.up hb)
                              replace Bb := hid (Bb.out.up hb)
                              replace V7 := hid (V7.out.up hb)
                              replace V8 := hid (V8.out.up hb)
                              replace V9 := hid (V9.out.up hb)
                              replace V10 := hid (V10.out.up hb)
                              replace V11 := hid (V11.out.up hb)
                              replace V12 := hid (V12.out.up hb)
                              replace V13 := hid (V13.out.up hb)
                              replace V14 := hid (V14.out.up hb)
                              replace Na := hid (Na.out.up hb)
                              replace Nb := hid (Nb.out.up hb)
                              replace Ra := hid (Ra.out.up hb)
                              replace Rb := hid (Rb.out.up hb)
                              replace Q1 := hid (Q1.out.up hb)
                              replace Q2 := hid (Q2.out.up hb)
                              replace Q3 := hid (Q3.out.up hb)
                              replace Q4 := hid (Q4.out.up hb)
                              replace Q5 := hid (Q5.out.up hb)
                              replace Q6 := hid (Q6.out.up hb)
                              replace Q7 := hid (Q7.out.up hb)
                              replace Q8 := hid (Q8.out.up hb)
                              clear hb
                              simp only [Act.put, List.setIfInBounds_toArray, List.set_cons_zero, List.set_cons_succ]
                              refine WE.pure (d := some 172) rfl rfl (by rfl) (v := (.bool true)) (fun w' hk => ?_) ?_
                              · go_simp
                              simp only [Act.put, List.setIfInBounds_toArray, List.set_cons_zero, List.set_cons_succ]
                              refine WE.pure (d := some 6) rfl rfl (by rfl) (v := (.bool true)) (fun w' hk => ?_) ?_
                              · go_simp
                              simp only [Act.put, List.setIfInBounds_toArray, List.set_cons_zero, List.set_cons_succ]
                              refine WE.done ?_
                              go_wp2
                              go_ret
                              exact ⟨rfl, E.out⟩

theorem i64_of_wf {n : Int} (h : (Lit.int .i64 n).wf = true) : -9223372036854775808 ≤ n ∧ n ≤ 9223372036854775807 := by
  simpa [Lit.wf, IntKind.min, IntKind.max, IntKind.signed, IntKind.bits] using h

theorem wholeTells_walk (W : World) (ga : Bool) (Aa : Option Addr) (na ca : Nat) (la : List Nat) (ha : Num W W.heap.size (.slice Aa na ca) la) (gb : Bool) (Ab : Option Addr) (nb cb : Nat) (lb : List Nat) (hb : Num W W.heap.size (.slice Ab nb cb) lb) (n : Int) (hn : -9223372036854775808 ≤ n ∧ n ≤ 9223372036854775807) :
    Calls Try.prog 3 #[.agg #[.bool ga, .slice Aa na ca], .agg #[.bool gb, .slice Ab nb cb], .int .i64 n] W (fun e w' => e = .returned (.bool true) ∧ Ext W w') := by
  rcases fa : (decide (la.length ≤ 8)) with _ | _
  · exact wholeTells_skip0 W ga Aa na ca la ha gb Ab nb cb lb hb n hn.1 hn.2 fa
  rcases fb : (decide (lb.length ≤ 8)) with _ | _
  · exact wholeTells_skip1 W ga Aa na ca la ha gb Ab nb cb lb hb n hn.1 hn.2 fa fb
  by_cases hf : M.fits (M.zv ga la)
  · exact wholeTells_yes W ga Aa na ca la ha gb Ab nb cb lb hb n hn.1 hn.2 fa fb _ rfl _ rfl hf
  · exact wholeTells_no W ga Aa na ca la ha gb Ab nb cb lb hb n hn.1 hn.2 fa fb _ rfl _ rfl hf

set_option maxRecDepth 100000 in
theorem wholeTells_lifted (os : Os) (started : os.Started) (H : Type) (enc : TypeId × Value → H) :
    ReturnsInHanded {} Try.checked os 3 .any (Rows.wholeTellsSpec.pre6 enc Try.prog Try.f3 Rows.wholeTellsRow.domain false) (Rows.wholeTellsSpec.post enc Try.prog Try.f3 false true false false) := by
  refine returnsInHanded_of_change (C := Try.checked) own started (by kernel_rfl) Try.func3
    (ChangeSpec.witness6 (enc := enc) (C := Try.checked) false ⟨#[], #[.agg #[.bool false, .slice none 0 0], .agg #[.bool false, .slice none 0 0], .int .i64 0], []⟩ 8 (by kernel_rfl) (by kernel_rfl) (by kernel_rfl) (by kernel_rfl)) ?_
  intro W base args ds gs before hval0 hW _ _
  have hval : ∀ (j : Nat) t v, Try.f3.params[j]? = some t → args[j]? = some v → Value.okWide Try.prog W .any base t v := hval0
  have hW' := hW
  obtain ⟨p, q, hA0, hV, rfl, hfz, hnd⟩ := hW
  have hA : DataW.TrodAll enc Try.prog W 0 (fun _ => true) true Try.f3.params.toList args.toList ds p := hA0
  rw [Try.params3] at hA hval
  obtain ⟨v0, vs0, d0, ds0, p0, q0, hargs, rfl, rfl, h0, r0⟩ := trodAll_cons hA
  obtain ⟨v1, vs1, d1, ds1, p1, q1, rfl, rfl, rfl, h1, r1⟩ := trodAll_cons r0
  obtain ⟨v2, vs2, d2, ds2, p2, q2, rfl, rfl, rfl, h2, r2⟩ := trodAll_cons r1
  obtain ⟨rfl, rfl, rfl⟩ := trodAll_nil r2
  obtain rfl : args = #[v0, v1, v2] := by cases args; simp_all
  obtain ⟨rfl, rfl⟩ := trodVars_none hV
  obtain ⟨g0, A0, n0, c0, l0, rfl, e0⟩ := open_Z (hval 0 24 _ rfl rfl) h0
  obtain ⟨g1, A1, n1, c1, l1, rfl, e1⟩ := open_Z (hval 1 24 _ rfl rfl) h1
  obtain ⟨a2, rfl, -, -, w2⟩ := open_int Try.underlying2 (hval 2 2 v2 rfl rfl) h2
  clear hA0 hval0
  refine (wholeTells_walk W g0 A0 n0 c0 l0 e0 g1 A1 n1 c1 l1 e1 a2 (i64_of_wf w2)).mono fun e W' ⟨he, hg⟩ => ?_
  subst he
  exact ⟨_, rfl, law_post hW' rfl rfl (by kernel_rfl) (by kernel_rfl) hg⟩

theorem wholeTells_over : Rows.wholeTellsRow.holds Try.pinned (OpenSpec.ofChange Rows.wholeTellsSpec) :=
  OpenClaim.holds_of_wide 3 Try.f3 rfl rfl rfl rfl rfl rfl rfl ⟨rfl, rfl, rfl, rfl, rfl⟩ rfl rfl rfl rfl rfl (by kernel_rfl) Try.func3 (by kernel_rfl)
    (of_decide_eq_true (by kernel_rfl)) (by unfold Func.isWrapper; first | (rw [if_pos (by decide +kernel)]; kernel_rfl) | (rw [if_neg (by decide +kernel)]; exact ⟨rfl, rfl⟩))
    (fun os started H enc _ => wholeTells_lifted os started H enc)

theorem wholeTells_proved : Rows.WholeTellsSaid := wholeTells_over

end Go.Proofs.Ythlafkbldlmmaaa
