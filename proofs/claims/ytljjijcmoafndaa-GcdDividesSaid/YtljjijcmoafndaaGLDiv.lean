/-
  GcdDivides: whatever three integers, or what is none: true, and the input reads as it did. No conditions.
-/
import Derived.Test.YtljjijcmoafndaaGKnown
namespace Go.Proofs.Ytljjijcmoafndaa
open Go.ChangeShapes Go.WideShapes Go.ChangeAt Go.RowKit
set_option linter.unusedSimpArgs false
set_option linter.unusedVariables false

namespace M
theorem gcd_mul (x y z : Int) : ((Int.gcd (x * z) (y * z) : Nat) : Int) = ((Int.gcd x y : Nat) : Int) * ((z.natAbs : Nat) : Int) := by
  show ((Nat.gcd (x * z).natAbs (y * z).natAbs : Nat) : Int) = ((Nat.gcd x.natAbs y.natAbs : Nat) : Int) * _
  rw [Int.natAbs_mul, Int.natAbs_mul, Nat.gcd_mul_right, Int.natCast_mul]
theorem gcd_rest (x y z : Int) : (((Int.gcd (x * z) (y * z) : Nat) : Int)).fmod z = 0 := by
  rw [gcd_mul]
  have h : z ∣ ((z.natAbs : Nat) : Int) := Int.dvd_natAbs_self
  exact Int.fmod_eq_zero_of_dvd (Int.dvd_mul_of_dvd_right h)
theorem gcd_left (x y : Int) : x.fmod ((Int.gcd x y : Nat) : Int) = 0 := Int.fmod_eq_zero_of_dvd (Int.gcd_dvd_left _ _)
theorem gcd_right (x y : Int) : y.fmod ((Int.gcd x y : Nat) : Int) = 0 := Int.fmod_eq_zero_of_dvd (Int.gcd_dvd_right _ _)
theorem gcd_lcm_abs (x y : Int) : ((Int.gcd x y : Nat) : Int) * ((Int.lcm x y : Nat) : Int) = (((x * y).natAbs : Nat) : Int) := by
  rw [← Int.natCast_mul, Int.natAbs_mul]
  congr 1
  exact Nat.gcd_mul_lcm _ _
theorem gcd_mul_zero {x y z : Int} (hz : z ≠ 0) : ((Int.gcd (x * z) (y * z) : Nat) : Int) = 0 ↔ x = 0 ∧ y = 0 := by
  constructor
  · intro h
    have h1 : Int.gcd (x * z) (y * z) = 0 := by omega
    have h2 := Int.gcd_eq_zero_iff.1 h1
    exact ⟨(Int.mul_eq_zero.1 h2.1).resolve_right hz, (Int.mul_eq_zero.1 h2.2).resolve_right hz⟩
  · rintro ⟨rfl, rfl⟩; simp
end M

set_option maxRecDepth 100000 in
set_option maxHeartbeats 1000000 in
theorem gcdDivides_skip0 (W : World) (ga : Bool) (Aa : Option Addr) (na ca : Nat) (la : List Nat) (ha : Num W W.heap.size (.slice Aa na ca) la) (gb : Bool) (Ab : Option Addr) (nb cb : Nat) (lb : List Nat) (hb : Num W W.heap.size (.slice Ab nb cb) lb) (gc : Bool) (Ac : Option Addr) (nc cc : Nat) (lc : List Nat) (hc : Num W W.heap.size (.slice Ac nc cc) lc) (fa : Hid (decide (la.length ≤ 6) = false)) :
    Calls Try.prog 5 #[.agg #[.bool ga, .slice Aa na ca], .agg #[.bool gb, .slice Ab nb cb], .agg #[.bool gc, .slice Ac nc cc]] W (fun e w' => e = .returned (.bool true) ∧ Ext W w') := by
  have Na := hid ha
  have Nb := hid hb
  have Nc := hid hc
  clear ha hb hc
  go_enter Try.func5, Try.ntmps5
  go_upto_region 1 with (fail)
  have E := hid ((((Ext.refl W).alloc' (.cells #[.bool ga, .slice Aa na ca] 24)).alloc' (.cells #[.bool gb, .slice Ab nb cb] 24)).alloc' (.cells #[.bool gc, .slice Ac nc cc] 24))
  have Ba : Hid (Box (((W.alloc (.cells #[.bool ga, .slice Aa na ca] 24)).alloc (.cells #[.bool gb, .slice Ab nb cb] 24)).alloc (.cells #[.bool gc, .slice Ac nc cc] 24)) (W.heap.size) #[.bool ga, .slice Aa na ca] 24) := hid (((Box.at_ (w := W) #[.bool ga, .slice Aa na ca] 24 (by simp)).alloc (.cells #[.bool gb, .slice Ab nb cb] 24)).alloc (.cells #[.bool gc, .slice Ac nc cc] 24))
  have Bb : Hid (Box (((W.alloc (.cells #[.bool ga, .slice Aa na ca] 24)).alloc (.cells #[.bool gb, .slice Ab nb cb] 24)).alloc (.cells #[.bool gc, .slice Ac nc cc] 24)) (W.heap.size + 1) #[.bool gb, .slice Ab nb cb] 24) := hid ((Box.at_ (w := (W.alloc (.cells #[.bool ga, .slice Aa na ca] 24))) #[.bool gb, .slice Ab nb cb] 24 (by simp)).alloc (.cells #[.bool gc, .slice Ac nc cc] 24))
  have Bc : Hid (Box (((W.alloc (.cells #[.bool ga, .slice Aa na ca] 24)).alloc (.cells #[.bool gb, .slice Ab nb cb] 24)).alloc (.cells #[.bool gc, .slice Ac nc cc] 24)) (W.heap.size + 2) #[.bool gc, .slice Ac nc cc] 24) := hid (Box.at_ (w := ((W.alloc (.cells #[.bool ga, .slice Aa na ca] 24)).alloc (.cells #[.bool gb, .slice Ab nb cb] 24))) #[.bool gc, .slice Ac nc cc] 24 (by simp))
  replace Na := hid (Na.out.up E.out)
  replace Nb := hid (Nb.out.up E.out)
  replace Nc := hid (Nc.out.up E.out)
  go_upto_region 1 with (fail)
  refine wp_region_T [(0, 1), (1, 0)] (by kernel_rfl) fun wd hb => ?_
  replace E := hid (E.out.trans hb)
  replace Ba := hid (Ba.out.up hb)
  replace Bb := hid (Bb.out.up hb)
  replace Bc := hid (Bc.out.up hb)
  replace Na := hid (Na.out.up hb)
  replace Nb := hid (Nb.out.up hb)
  replace Nc := hid (Nc.out.up hb)
  clear hb
  refine WE.call (d := some 16) rfl rfl (by rfl) (f := 8) (args := #[]) (by go_simp) ?_
  refine (known4 _).mono ?_
  rintro e wn ⟨rfl, hb⟩
  refine ⟨_, rfl, hb, ?_⟩
  replace E := hid (E.out.trans hb)
  replace Ba := hid (Ba.out.up hb)
  replace Bb := hid (Bb.out.up hb)
  replace Bc := hid (Bc.out.up hb)
  replace Na := hid (Na.out.up hb)
  replace Nb := hid (Nb.out.up hb)
  replace Nc := hid (Nc.out.up hb)
  clear hb
  simp only [Act.put, List.setIfInBounds_toArray, List.set_cons_zero, List.set_cons_succ]
  refine WE.pure (d := some 17) rfl rfl (by rfl) (v := (.bool false)) (fun w' hk => ?_) ?_
  · go_simp
  simp only [Act.put, List.setIfInBounds_toArray, List.set_cons_zero, List.set_cons_succ]
  refine WE.done ?_
  go_upto_region 3 with (fail)
  refine wp_region_T [(0, 0), (1, 1), (2, 0), (3, 0), (4, 0), (5, 1), (6, 0), (7, 0), (8, 0), (9, 0), (10, 1), (11, 0), (12, 0), (13, 0), (14, 0), (15, 1), (16, 0), (17, 0), (18, 0), (19, 0), (20, 1), (21, 0), (22, 0), (23, 0), (24, 0), (25, 1), (26, 0), (27, 0)] (by kernel_rfl) fun wd hb => ?_
  replace E := hid (E.out.trans hb)
  replace Ba := hid (Ba.out.up hb)
  replace Bb := hid (Bb.out.up hb)
  replace Bc := hid (Bc.out.up hb)
  replace Na := hid (Na.out.up hb)
  replace Nb := hid (Nb.out.up hb)
  replace Nc := hid (Nc.out.up hb)
  clear hb
  refine WE.pure (d := some 18) rfl rfl (by rfl) (v := (.agg #[.bool ga, .slice Aa na ca])) (fun w' hk => ?_) ?_
  · have c0 := hk.cell (Ba.out.cell (o := 0) (v := .bool ga) rfl); have c1 := hk.cell (Ba.out.cell (o := 1) (v := .slice Aa na ca) rfl); go_simp
  simp only [Act.put, List.setIfInBounds_toArray, List.set_cons_zero, List.set_cons_succ]
  refine WE.call (d := some 19) rfl rfl (by rfl) (f := 9) (args := #[(.agg #[.bool ga, .slice Aa na ca])]) (by go_simp) ?_
  refine (few4_z Na.out fa.out).mono ?_
  rintro e wn ⟨rfl, hb⟩
  refine ⟨_, rfl, hb, ?_⟩
  replace E := hid (E.out.trans hb)
  replace Ba := hid (Ba.out.up hb)
  replace Bb := hid (Bb.out.up hb)
  replace Bc := hid (Bc.out.up hb)
  replace Na := hid (Na.out.up hb)
  replace Nb := hid (Nb.out.up hb)
  replace Nc := hid (Nc.out.up hb)
  clear hb
  simp only [Act.put, List.setIfInBounds_toArray, List.set_cons_zero, List.set_cons_succ]
  refine WE.pure (d := some 20) rfl rfl (by rfl) (v := (.bool true)) (fun w' hk => ?_) ?_
  · go_simp
  simp only [Act.put, List.setIfInBounds_toArray, List.set_cons_zero, List.set_cons_succ]
  refine WE.pure (d := some 21) rfl rfl (by rfl) (v := (.bool true)) (fun w' hk => ?_) ?_
  · go_simp
  simp only [Act.put, List.setIfInBounds_toArray, List.set_cons_zero, List.set_cons_succ]
  refine WE.skip (d := some 22) rfl rfl (by rfl) ?_
  simp only [Act.put, List.setIfInBounds_toArray, List.set_cons_zero, List.set_cons_succ]
  refine WE.pass (d := some 23) rfl rfl (by rfl) ?_
  simp only [Act.put, List.setIfInBounds_toArray, List.set_cons_zero, List.set_cons_succ]
  refine WE.skip (d := some 24) rfl rfl (by rfl) ?_
  simp only [Act.put, List.setIfInBounds_toArray, List.set_cons_zero, List.set_cons_succ]
  refine WE.pure (d := some 25) rfl rfl (by rfl) (v := (.bool true)) (fun w' hk => ?_) ?_
  · go_simp
  simp only [Act.put, List.setIfInBounds_toArray, List.set_cons_zero, List.set_cons_succ]
  refine WE.pure (d := some 26) rfl rfl (by rfl) (v := (.bool true)) (fun w' hk => ?_) ?_
  · go_simp
  simp only [Act.put, List.setIfInBounds_toArray, List.set_cons_zero, List.set_cons_succ]
  refine WE.skip (d := some 27) rfl rfl (by rfl) ?_
  simp only [Act.put, List.setIfInBounds_toArray, List.set_cons_zero, List.set_cons_succ]
  refine WE.pass (d := some 28) rfl rfl (by rfl) ?_
  simp only [Act.put, List.setIfInBounds_toArray, List.set_cons_zero, List.set_cons_succ]
  refine WE.skip (d := some 29) rfl rfl (by rfl) ?_
  simp only [Act.put, List.setIfInBounds_toArray, List.set_cons_zero, List.set_cons_succ]
  refine WE.pure (d := some 30) rfl rfl (by rfl) (v := (.bool true)) (fun w' hk => ?_) ?_
  · go_simp
  simp only [Act.put, List.setIfInBounds_toArray, List.set_cons_zero, List.set_cons_succ]
  refine WE.pure (d := some 31) rfl rfl (by rfl) (v := (.bool true)) (fun w' hk => ?_) ?_
  · go_simp
  simp only [Act.put, List.setIfInBounds_toArray, List.set_cons_zero, List.set_cons_succ]
  refine WE.skip (d := some 32) rfl rfl (by rfl) ?_
  simp only [Act.put, List.setIfInBounds_toArray, List.set_cons_zero, List.set_cons_succ]
  refine WE.pass (d := some 33) rfl rfl (by rfl) ?_
  simp only [Act.put, List.setIfInBounds_toArray, List.set_cons_zero, List.set_cons_succ]
  refine WE.skip (d := some 34) rfl rfl (by rfl) ?_
  simp only [Act.put, List.setIfInBounds_toArray, List.set_cons_zero, List.set_cons_succ]
  refine WE.pure (d := some 35) rfl rfl (by rfl) (v := (.bool true)) (fun w' hk => ?_) ?_
  · go_simp
  simp only [Act.put, List.setIfInBounds_toArray, List.set_cons_zero, List.set_cons_succ]
  refine WE.pure (d := some 36) rfl rfl (by rfl) (v := (.bool true)) (fun w' hk => ?_) ?_
  · go_simp
  simp only [Act.put, List.setIfInBounds_toArray, List.set_cons_zero, List.set_cons_succ]
  refine WE.skip (d := some 37) rfl rfl (by rfl) ?_
  simp only [Act.put, List.setIfInBounds_toArray, List.set_cons_zero, List.set_cons_succ]
  refine WE.pass (d := some 38) rfl rfl (by rfl) ?_
  simp only [Act.put, List.setIfInBounds_toArray, List.set_cons_zero, List.set_cons_succ]
  refine WE.skip (d := some 39) rfl rfl (by rfl) ?_
  simp only [Act.put, List.setIfInBounds_toArray, List.set_cons_zero, List.set_cons_succ]
  refine WE.pure (d := some 40) rfl rfl (by rfl) (v := (.bool true)) (fun w' hk => ?_) ?_
  · go_simp
  simp only [Act.put, List.setIfInBounds_toArray, List.set_cons_zero, List.set_cons_succ]
  refine WE.pure (d := some 41) rfl rfl (by rfl) (v := (.bool true)) (fun w' hk => ?_) ?_
  · go_simp
  simp only [Act.put, List.setIfInBounds_toArray, List.set_cons_zero, List.set_cons_succ]
  refine WE.skip (d := some 42) rfl rfl (by rfl) ?_
  simp only [Act.put, List.setIfInBounds_toArray, List.set_cons_zero, List.set_cons_succ]
  refine WE.pass (d := some 43) rfl rfl (by rfl) ?_
  simp only [Act.put, List.setIfInBounds_toArray, List.set_cons_zero, List.set_cons_succ]
  refine WE.skip (d := some 44) rfl rfl (by rfl) ?_
  simp only [Act.put, List.setIfInBounds_toArray, List.set_cons_zero, List.set_cons_succ]
  refine WE.pure (d := some 45) rfl rfl (by rfl) (v := (.bool true)) (fun w' hk => ?_) ?_
  · go_simp
  simp only [Act.put, List.setIfInBounds_toArray, List.set_cons_zero, List.set_cons_succ]
  refine WE.done ?_
  repeat go_step
  go_ret
  exact ⟨rfl, E.out⟩

set_option maxRecDepth 100000 in
set_option maxHeartbeats 1000000 in
theorem gcdDivides_skip1 (W : World) (ga : Bool) (Aa : Option Addr) (na ca : Nat) (la : List Nat) (ha : Num W W.heap.size (.slice Aa na ca) la) (gb : Bool) (Ab : Option Addr) (nb cb : Nat) (lb : List Nat) (hb : Num W W.heap.size (.slice Ab nb cb) lb) (gc : Bool) (Ac : Option Addr) (nc cc : Nat) (lc : List Nat) (hc : Num W W.heap.size (.slice Ac nc cc) lc) (fa : Hid (decide (la.length ≤ 6) = true)) (fb : Hid (decide (lb.length ≤ 6) = false)) :
    Calls Try.prog 5 #[.agg #[.bool ga, .slice Aa na ca], .agg #[.bool gb, .slice Ab nb cb], .agg #[.bool gc, .slice Ac nc cc]] W (fun e w' => e = .returned (.bool true) ∧ Ext W w') := by
  have Na := hid ha
  have Nb := hid hb
  have Nc := hid hc
  clear ha hb hc
  go_enter Try.func5, Try.ntmps5
  go_upto_region 1 with (fail)
  have E := hid ((((Ext.refl W).alloc' (.cells #[.bool ga, .slice Aa na ca] 24)).alloc' (.cells #[.bool gb, .slice Ab nb cb] 24)).alloc' (.cells #[.bool gc, .slice Ac nc cc] 24))
  have Ba : Hid (Box (((W.alloc (.cells #[.bool ga, .slice Aa na ca] 24)).alloc (.cells #[.bool gb, .slice Ab nb cb] 24)).alloc (.cells #[.bool gc, .slice Ac nc cc] 24)) (W.heap.size) #[.bool ga, .slice Aa na ca] 24) := hid (((Box.at_ (w := W) #[.bool ga, .slice Aa na ca] 24 (by simp)).alloc (.cells #[.bool gb, .slice Ab nb cb] 24)).alloc (.cells #[.bool gc, .slice Ac nc cc] 24))
  have Bb : Hid (Box (((W.alloc (.cells #[.bool ga, .slice Aa na ca] 24)).alloc (.cells #[.bool gb, .slice Ab nb cb] 24)).alloc (.cells #[.bool gc, .slice Ac nc cc] 24)) (W.heap.size + 1) #[.bool gb, .slice Ab nb cb] 24) := hid ((Box.at_ (w := (W.alloc (.cells #[.bool ga, .slice Aa na ca] 24))) #[.bool gb, .slice Ab nb cb] 24 (by simp)).alloc (.cells #[.bool gc, .slice Ac nc cc] 24))
  have Bc : Hid (Box (((W.alloc (.cells #[.bool ga, .slice Aa na ca] 24)).alloc (.cells #[.bool gb, .slice Ab nb cb] 24)).alloc (.cells #[.bool gc, .slice Ac nc cc] 24)) (W.heap.size + 2) #[.bool gc, .slice Ac nc cc] 24) := hid (Box.at_ (w := ((W.alloc (.cells #[.bool ga, .slice Aa na ca] 24)).alloc (.cells #[.bool gb, .slice Ab nb cb] 24))) #[.bool gc, .slice Ac nc cc] 24 (by simp))
  replace Na := hid (Na.out.up E.out)
  replace Nb := hid (Nb.out.up E.out)
  replace Nc := hid (Nc.out.up E.out)
  go_upto_region 1 with (fail)
  refine wp_region_T [(0, 1), (1, 0)] (by kernel_rfl) fun wd hb => ?_
  replace E := hid (E.out.trans hb)
  replace Ba := hid (Ba.out.up hb)
  replace Bb := hid (Bb.out.up hb)
  replace Bc := hid (Bc.out.up hb)
  replace Na := hid (Na.out.up hb)
  replace Nb := hid (Nb.out.up hb)
  replace Nc := hid (Nc.out.up hb)
  clear hb
  refine WE.call (d := some 16) rfl rfl (by rfl) (f := 8) (args := #[]) (by go_simp) ?_
  refine (known4 _).mono ?_
  rintro e wn ⟨rfl, hb⟩
  refine ⟨_, rfl, hb, ?_⟩
  replace E := hid (E.out.trans hb)
  replace Ba := hid (Ba.out.up hb)
  replace Bb := hid (Bb.out.up hb)
  replace Bc := hid (Bc.out.up hb)
  replace Na := hid (Na.out.up hb)
  replace Nb := hid (Nb.out.up hb)
  replace Nc := hid (Nc.out.up hb)
  clear hb
  simp only [Act.put, List.setIfInBounds_toArray, List.set_cons_zero, List.set_cons_succ]
  refine WE.pure (d := some 17) rfl rfl (by rfl) (v := (.bool false)) (fun w' hk => ?_) ?_
  · go_simp
  simp only [Act.put, List.setIfInBounds_toArray, List.set_cons_zero, List.set_cons_succ]
  refine WE.done ?_
  go_upto_region 3 with (fail)
  refine wp_region_T [(0, 0), (1, 1), (2, 0), (3, 0), (4, 0), (5, 1), (6, 0), (7, 0), (8, 0), (9, 0), (10, 1), (11, 0), (12, 0), (13, 0), (14, 0), (15, 1), (16, 0), (17, 0), (18, 0), (19, 0), (20, 1), (21, 0), (22, 0), (23, 0), (24, 0), (25, 1), (26, 0), (27, 0)] (by kernel_rfl) fun wd hb => ?_
  replace E := hid (E.out.trans hb)
  replace Ba := hid (Ba.out.up hb)
  replace Bb := hid (Bb.out.up hb)
  replace Bc := hid (Bc.out.up hb)
  replace Na := hid (Na.out.up hb)
  replace Nb := hid (Nb.out.up hb)
  replace Nc := hid (Nc.out.up hb)
  clear hb
  refine WE.pure (d := some 18) rfl rfl (by rfl) (v := (.agg #[.bool ga, .slice Aa na ca])) (fun w' hk => ?_) ?_
  · have c0 := hk.cell (Ba.out.cell (o := 0) (v := .bool ga) rfl); have c1 := hk.cell (Ba.out.cell (o := 1) (v := .slice Aa na ca) rfl); go_simp
  simp only [Act.put, List.setIfInBounds_toArray, List.set_cons_zero, List.set_cons_succ]
  refine WE.call (d := some 19) rfl rfl (by rfl) (f := 9) (args := #[(.agg #[.bool ga, .slice Aa na ca])]) (by go_simp) ?_
  refine (few4_z Na.out fa.out).mono ?_
  rintro e wn ⟨rfl, hb⟩
  refine ⟨_, rfl, hb, ?_⟩
  replace E := hid (E.out.trans hb)
  replace Ba := hid (Ba.out.up hb)
  replace Bb := hid (Bb.out.up hb)
  replace Bc := hid (Bc.out.up hb)
  replace Na := hid (Na.out.up hb)
  replace Nb := hid (Nb.out.up hb)
  replace Nc := hid (Nc.out.up hb)
  clear hb
  simp only [Act.put, List.setIfInBounds_toArray, List.set_cons_zero, List.set_cons_succ]
  refine WE.pure (d := some 20) rfl rfl (by rfl) (v := (.bool false)) (fun w' hk => ?_) ?_
  · go_simp
  simp only [Act.put, List.setIfInBounds_toArray, List.set_cons_zero, List.set_cons_succ]
  refine WE.pure (d := some 21) rfl rfl (by rfl) (v := (.bool false)) (fun w' hk => ?_) ?_
  · go_simp
  simp only [Act.put, List.setIfInBounds_toArray, List.set_cons_zero, List.set_cons_succ]
  refine WE.pure (d := some 22) rfl rfl (by rfl) (v := (.agg #[.bool gb, .slice Ab nb cb])) (fun w' hk => ?_) ?_
  · have c0 := hk.cell (Bb.out.cell (o := 0) (v := .bool gb) rfl); have c1 := hk.cell (Bb.out.cell (o := 1) (v := .slice Ab nb cb) rfl); go_simp
  simp only [Act.put, List.setIfInBounds_toArray, List.set_cons_zero, List.set_cons_succ]
  refine WE.call (d := some 23) rfl rfl (by rfl) (f := 9) (args := #[(.agg #[.bool gb, .slice Ab nb cb])]) (by go_simp) ?_
  refine (few4_z Nb.out fb.out).mono ?_
  rintro e wn ⟨rfl, hb⟩
  refine ⟨_, rfl, hb, ?_⟩
  replace E := hid (E.out.trans hb)
  replace Ba := hid (Ba.out.up hb)
  replace Bb := hid (Bb.out.up hb)
  replace Bc := hid (Bc.out.up hb)
  replace Na := hid (Na.out.up hb)
  replace Nb := hid (Nb.out.up hb)
  replace Nc := hid (Nc.out.up hb)
  clear hb
  simp only [Act.put, List.setIfInBounds_toArray, List.set_cons_zero, List.set_cons_succ]
  refine WE.pure (d := some 24) rfl rfl (by rfl) (v := (.bool true)) (fun w' hk => ?_) ?_
  · go_simp
  simp only [Act.put, List.setIfInBounds_toArray, List.set_cons_zero, List.set_cons_succ]
  refine WE.pure (d := some 25) rfl rfl (by rfl) (v := (.bool true)) (fun w' hk => ?_) ?_
  · go_simp
  simp only [Act.put, List.setIfInBounds_toArray, List.set_cons_zero, List.set_cons_succ]
  refine WE.pure (d := some 26) rfl rfl (by rfl) (v := (.bool true)) (fun w' hk => ?_) ?_
  · go_simp
  simp only [Act.put, List.setIfInBounds_toArray, List.set_cons_zero, List.set_cons_succ]
  refine WE.skip (d := some 27) rfl rfl (by rfl) ?_
  simp only [Act.put, List.setIfInBounds_toArray, List.set_cons_zero, List.set_cons_succ]
  refine WE.pass (d := some 28) rfl rfl (by rfl) ?_
  simp only [Act.put, List.setIfInBounds_toArray, List.set_cons_zero, List.set_cons_succ]
  refine WE.skip (d := some 29) rfl rfl (by rfl) ?_
  simp only [Act.put, List.setIfInBounds_toArray, List.set_cons_zero, List.set_cons_succ]
  refine WE.pure (d := some 30) rfl rfl (by rfl) (v := (.bool true)) (fun w' hk => ?_) ?_
  · go_simp
  simp only [Act.put, List.setIfInBounds_toArray, List.set_cons_zero, List.set_cons_succ]
  refine WE.pure (d := some 31) rfl rfl (by rfl) (v := (.bool true)) (fun w' hk => ?_) ?_
  · go_simp
  simp only [Act.put, List.setIfInBounds_toArray, List.set_cons_zero, List.set_cons_succ]
  refine WE.skip (d := some 32) rfl rfl (by rfl) ?_
  simp only [Act.put, List.setIfInBounds_toArray, List.set_cons_zero, List.set_cons_succ]
  refine WE.pass (d := some 33) rfl rfl (by rfl) ?_
  simp only [Act.put, List.setIfInBounds_toArray, List.set_cons_zero, List.set_cons_succ]
  refine WE.skip (d := some 34) rfl rfl (by rfl) ?_
  simp only [Act.put, List.setIfInBounds_toArray, List.set_cons_zero, List.set_cons_succ]
  refine WE.pure (d := some 35) rfl rfl (by rfl) (v := (.bool true)) (fun w' hk => ?_) ?_
  · go_simp
  simp only [Act.put, List.setIfInBounds_toArray, List.set_cons_zero, List.set_cons_succ]
  refine WE.pure (d := some 36) rfl rfl (by rfl) (v := (.bool true)) (fun w' hk => ?_) ?_
  · go_simp
  simp only [Act.put, List.setIfInBounds_toArray, List.set_cons_zero, List.set_cons_succ]
  refine WE.skip (d := some 37) rfl rfl (by rfl) ?_
  simp only [Act.put, List.setIfInBounds_toArray, List.set_cons_zero, List.set_cons_succ]
  refine WE.pass (d := some 38) rfl rfl (by rfl) ?_
  simp only [Act.put, List.setIfInBounds_toArray, List.set_cons_zero, List.set_cons_succ]
  refine WE.skip (d := some 39) rfl rfl (by rfl) ?_
  simp only [Act.put, List.setIfInBounds_toArray, List.set_cons_zero, List.set_cons_succ]
  refine WE.pure (d := some 40) rfl rfl (by rfl) (v := (.bool true)) (fun w' hk => ?_) ?_
  · go_simp
  simp only [Act.put, List.setIfInBounds_toArray, List.set_cons_zero, List.set_cons_succ]
  refine WE.pure (d := some 41) rfl rfl (by rfl) (v := (.bool true)) (fun w' hk => ?_) ?_
  · go_simp
  simp only [Act.put, List.setIfInBounds_toArray, List.set_cons_zero, List.set_cons_succ]
  refine WE.skip (d := some 42) rfl rfl (by rfl) ?_
  simp only [Act.put, List.setIfInBounds_toArray, List.set_cons_zero, List.set_cons_succ]
  refine WE.pass (d := some 43) rfl rfl (by rfl) ?_
  simp only [Act.put, List.setIfInBounds_toArray, List.set_cons_zero, List.set_cons_succ]
  refine WE.skip (d := some 44) rfl rfl (by rfl) ?_
  simp only [Act.put, List.setIfInBounds_toArray, List.set_cons_zero, List.set_cons_succ]
  refine WE.pure (d := some 45) rfl rfl (by rfl) (v := (.bool true)) (fun w' hk => ?_) ?_
  · go_simp
  simp only [Act.put, List.setIfInBounds_toArray, List.set_cons_zero, List.set_cons_succ]
  refine WE.done ?_
  repeat go_step
  go_ret
  exact ⟨rfl, E.out⟩

set_option maxRecDepth 100000 in
set_option maxHeartbeats 1000000 in
theorem gcdDivides_skip2 (W : World) (ga : Bool) (Aa : Option Addr) (na ca : Nat) (la : List Nat) (ha : Num W W.heap.size (.slice Aa na ca) la) (gb : Bool) (Ab : Option Addr) (nb cb : Nat) (lb : List Nat) (hb : Num W W.heap.size (.slice Ab nb cb) lb) (gc : Bool) (Ac : Option Addr) (nc cc : Nat) (lc : List Nat) (hc : Num W W.heap.size (.slice Ac nc cc) lc) (fa : Hid (decide (la.length ≤ 6) = true)) (fb : Hid (decide (lb.length ≤ 6) = true)) (fc : Hid (decide (lc.length ≤ 6) = false)) :
    Calls Try.prog 5 #[.agg #[.bool ga, .slice Aa na ca], .agg #[.bool gb, .slice Ab nb cb], .agg #[.bool gc, .slice Ac nc cc]] W (fun e w' => e = .returned (.bool true) ∧ Ext W w') := by
  have Na := hid ha
  have Nb := hid hb
  have Nc := hid hc
  clear ha hb hc
  go_enter Try.func5, Try.ntmps5
  go_upto_region 1 with (fail)
  have E := hid ((((Ext.refl W).alloc' (.cells #[.bool ga, .slice Aa na ca] 24)).alloc' (.cells #[.bool gb, .slice Ab nb cb] 24)).alloc' (.cells #[.bool gc, .slice Ac nc cc] 24))
  have Ba : Hid (Box (((W.alloc (.cells #[.bool ga, .slice Aa na ca] 24)).alloc (.cells #[.bool gb, .slice Ab nb cb] 24)).alloc (.cells #[.bool gc, .slice Ac nc cc] 24)) (W.heap.size) #[.bool ga, .slice Aa na ca] 24) := hid (((Box.at_ (w := W) #[.bool ga, .slice Aa na ca] 24 (by simp)).alloc (.cells #[.bool gb, .slice Ab nb cb] 24)).alloc (.cells #[.bool gc, .slice Ac nc cc] 24))
  have Bb : Hid (Box (((W.alloc (.cells #[.bool ga, .slice Aa na ca] 24)).alloc (.cells #[.bool gb, .slice Ab nb cb] 24)).alloc (.cells #[.bool gc, .slice Ac nc cc] 24)) (W.heap.size + 1) #[.bool gb, .slice Ab nb cb] 24) := hid ((Box.at_ (w := (W.alloc (.cells #[.bool ga, .slice Aa na ca] 24))) #[.bool gb, .slice Ab nb cb] 24 (by simp)).alloc (.cells #[.bool gc, .slice Ac nc cc] 24))
  have Bc : Hid (Box (((W.alloc (.cells #[.bool ga, .slice Aa na ca] 24)).alloc (.cells #[.bool gb, .slice Ab nb cb] 24)).alloc (.cells #[.bool gc, .slice Ac nc cc] 24)) (W.heap.size + 2) #[.bool gc, .slice Ac nc cc] 24) := hid (Box.at_ (w := ((W.alloc (.cells #[.bool ga, .slice Aa na ca] 24)).alloc (.cells #[.bool gb, .slice Ab nb cb] 24))) #[.bool gc, .slice Ac nc cc] 24 (by simp))
  replace Na := hid (Na.out.up E.out)
  replace Nb := hid (Nb.out.up E.out)
  replace Nc := hid (Nc.out.up E.out)
  go_upto_region 1 with (fail)
  refine wp_region_T [(0, 1), (1, 0)] (by kernel_rfl) fun wd hb => ?_
  replace E := hid (E.out.trans hb)
  replace Ba := hid (Ba.out.up hb)
  replace Bb := hid (Bb.out.up hb)
  replace Bc := hid (Bc.out.up hb)
  replace Na := hid (Na.out.up hb)
  replace Nb := hid (Nb.out.up hb)
  replace Nc := hid (Nc.out.up hb)
  clear hb
  refine WE.call (d := some 16) rfl rfl (by rfl) (f := 8) (args := #[]) (by go_simp) ?_
  refine (known4 _).mono ?_
  rintro e wn ⟨rfl, hb⟩
  refine ⟨_, rfl, hb, ?_⟩
  replace E := hid (E.out.trans hb)
  replace Ba := hid (Ba.out.up hb)
  replace Bb := hid (Bb.out.up hb)
  replace Bc := hid (Bc.out.up hb)
  replace Na := hid (Na.out.up hb)
  replace Nb := hid (Nb.out.up hb)
  replace Nc := hid (Nc.out.up hb)
  clear hb
  simp only [Act.put, List.setIfInBounds_toArray, List.set_cons_zero, List.set_cons_succ]
  refine WE.pure (d := some 17) rfl rfl (by rfl) (v := (.bool false)) (fun w' hk => ?_) ?_
  · go_simp
  simp only [Act.put, List.setIfInBounds_toArray, List.set_cons_zero, List.set_cons_succ]
  refine WE.done ?_
  go_upto_region 3 with (fail)
  refine wp_region_T [(0, 0), (1, 1), (2, 0), (3, 0), (4, 0), (5, 1), (6, 0), (7, 0), (8, 0), (9, 0), (10, 1), (11, 0), (12, 0), (13, 0), (14, 0), (15, 1), (16, 0), (17, 0), (18, 0), (19, 0), (20, 1), (21, 0), (22, 0), (23, 0), (24, 0), (25, 1), (26, 0), (27, 0)] (by kernel_rfl) fun wd hb => ?_
  replace E := hid (E.out.trans hb)
  replace Ba := hid (Ba.out.up hb)
  replace Bb := hid (Bb.out.up hb)
  replace Bc := hid (Bc.out.up hb)
  replace Na := hid (Na.out.up hb)
  replace Nb := hid (Nb.out.up hb)
  replace Nc := hid (Nc.out.up hb)
  clear hb
  refine WE.pure (d := some 18) rfl rfl (by rfl) (v := (.agg #[.bool ga, .slice Aa na ca])) (fun w' hk => ?_) ?_
  · have c0 := hk.cell (Ba.out.cell (o := 0) (v := .bool ga) rfl); have c1 := hk.cell (Ba.out.cell (o := 1) (v := .slice Aa na ca) rfl); go_simp
  simp only [Act.put, List.setIfInBounds_toArray, List.set_cons_zero, List.set_cons_succ]
  refine WE.call (d := some 19) rfl rfl (by rfl) (f := 9) (args := #[(.agg #[.bool ga, .slice Aa na ca])]) (by go_simp) ?_
  refine (few4_z Na.out fa.out).mono ?_
  rintro e wn ⟨rfl, hb⟩
  refine ⟨_, rfl, hb, ?_⟩
  replace E := hid (E.out.trans hb)
  replace Ba := hid (Ba.out.up hb)
  replace Bb := hid (Bb.out.up hb)
  replace Bc := hid (Bc.out.up hb)
  replace Na := hid (Na.out.up hb)
  replace Nb := hid (Nb.out.up hb)
  replace Nc := hid (Nc.out.up hb)
  clear hb
  simp only [Act.put, List.setIfInBounds_toArray, List.set_cons_zero, List.set_cons_succ]
  refine WE.pure (d := some 20) rfl rfl (by rfl) (v := (.bool false)) (fun w' hk => ?_) ?_
  · go_simp
  simp only [Act.put, List.setIfInBounds_toArray, List.set_cons_zero, List.set_cons_succ]
  refine WE.pure (d := some 21) rfl rfl (by rfl) (v := (.bool false)) (fun w' hk => ?_) ?_
  · go_simp
  simp only [Act.put, List.setIfInBounds_toArray, List.set_cons_zero, List.set_cons_succ]
  refine WE.pure (d := some 22) rfl rfl (by rfl) (v := (.agg #[.bool gb, .slice Ab nb cb])) (fun w' hk => ?_) ?_
  · have c0 := hk.cell (Bb.out.cell (o := 0) (v := .bool gb) rfl); have c1 := hk.cell (Bb.out.cell (o := 1) (v := .slice Ab nb cb) rfl); go_simp
  simp only [Act.put, List.setIfInBounds_toArray, List.set_cons_zero, List.set_cons_succ]
  refine WE.call (d := some 23) rfl rfl (by rfl) (f := 9) (args := #[(.agg #[.bool gb, .slice Ab nb cb])]) (by go_simp) ?_
  refine (few4_z Nb.out fb.out).mono ?_
  rintro e wn ⟨rfl, hb⟩
  refine ⟨_, rfl, hb, ?_⟩
  replace E := hid (E.out.trans hb)
  replace Ba := hid (Ba.out.up hb)
  replace Bb := hid (Bb.out.up hb)
  replace Bc := hid (Bc.out.up hb)
  replace Na := hid (Na.out.up hb)
  replace Nb := hid (Nb.out.up hb)
  replace Nc := hid (Nc.out.up hb)
  clear hb
  simp only [Act.put, List.setIfInBounds_toArray, List.set_cons_zero, List.set_cons_succ]
  refine WE.pure (d := some 24) rfl rfl (by rfl) (v := (.bool false)) (fun w' hk => ?_) ?_
  · go_simp
  simp only [Act.put, List.setIfInBounds_toArray, List.set_cons_zero, List.set_cons_succ]
  refine WE.pure (d := some 25) rfl rfl (by rfl) (v := (.bool false)) (fun w' hk => ?_) ?_
  · go_simp
  simp only [Act.put, List.setIfInBounds_toArray, List.set_cons_zero, List.set_cons_succ]
  refine WE.pure (d := some 26) rfl rfl (by rfl) (v := (.bool false)) (fun w' hk => ?_) ?_
  · go_simp
  simp only [Act.put, List.setIfInBounds_toArray, List.set_cons_zero, List.set_cons_succ]
  refine WE.pure (d := some 27) rfl rfl (by rfl) (v := (.agg #[.bool gc, .slice Ac nc cc])) (fun w' hk => ?_) ?_
  · have c0 := hk.cell (Bc.out.cell (o := 0) (v := .bool gc) rfl); have c1 := hk.cell (Bc.out.cell (o := 1) (v := .slice Ac nc cc) rfl); go_simp
  simp only [Act.put, List.setIfInBounds_toArray, List.set_cons_zero, List.set_cons_succ]
  refine WE.call (d := some 28) rfl rfl (by rfl) (f := 9) (args := #[(.agg #[.bool gc, .slice Ac nc cc])]) (by go_simp) ?_
  refine (few4_z Nc.out fc.out).mono ?_
  rintro e wn ⟨rfl, hb⟩
  refine ⟨_, rfl, hb, ?_⟩
  replace E := hid (E.out.trans hb)
  replace Ba := hid (Ba.out.up hb)
  replace Bb := hid (Bb.out.up hb)
  replace Bc := hid (Bc.out.up hb)
  replace Na := hid (Na.out.up hb)
  replace Nb := hid (Nb.out.up hb)
  replace Nc := hid (Nc.out.up hb)
  clear hb
  simp only [Act.put, List.setIfInBounds_toArray, List.set_cons_zero, List.set_cons_succ]
  refine WE.pure (d := some 29) rfl rfl (by rfl) (v := (.bool true)) (fun w' hk => ?_) ?_
  · go_simp
  simp only [Act.put, List.setIfInBounds_toArray, List.set_cons_zero, List.set_cons_succ]
  refine WE.pure (d := some 30) rfl rfl (by rfl) (v := (.bool true)) (fun w' hk => ?_) ?_
  · go_simp
  simp only [Act.put, List.setIfInBounds_toArray, List.set_cons_zero, List.set_cons_succ]
  refine WE.pure (d := some 31) rfl rfl (by rfl) (v := (.bool true)) (fun w' hk => ?_) ?_
  · go_simp
  simp only [Act.put, List.setIfInBounds_toArray, List.set_cons_zero, List.set_cons_succ]
  refine WE.skip (d := some 32) rfl rfl (by rfl) ?_
  simp only [Act.put, List.setIfInBounds_toArray, List.set_cons_zero, List.set_cons_succ]
  refine WE.pass (d := some 33) rfl rfl (by rfl) ?_
  simp only [Act.put, List.setIfInBounds_toArray, List.set_cons_zero, List.set_cons_succ]
  refine WE.skip (d := some 34) rfl rfl (by rfl) ?_
  simp only [Act.put, List.setIfInBounds_toArray, List.set_cons_zero, List.set_cons_succ]
  refine WE.pure (d := some 35) rfl rfl (by rfl) (v := (.bool true)) (fun w' hk => ?_) ?_
  · go_simp
  simp only [Act.put, List.setIfInBounds_toArray, List.set_cons_zero, List.set_cons_succ]
  refine WE.pure (d := some 36) rfl rfl (by rfl) (v := (.bool true)) (fun w' hk => ?_) ?_
  · go_simp
  simp only [Act.put, List.setIfInBounds_toArray, List.set_cons_zero, List.set_cons_succ]
  refine WE.skip (d := some 37) rfl rfl (by rfl) ?_
  simp only [Act.put, List.setIfInBounds_toArray, List.set_cons_zero, List.set_cons_succ]
  refine WE.pass (d := some 38) rfl rfl (by rfl) ?_
  simp only [Act.put, List.setIfInBounds_toArray, List.set_cons_zero, List.set_cons_succ]
  refine WE.skip (d := some 39) rfl rfl (by rfl) ?_
  simp only [Act.put, List.setIfInBounds_toArray, List.set_cons_zero, List.set_cons_succ]
  refine WE.pure (d := some 40) rfl rfl (by rfl) (v := (.bool true)) (fun w' hk => ?_) ?_
  · go_simp
  simp only [Act.put, List.setIfInBounds_toArray, List.set_cons_zero, List.set_cons_succ]
  refine WE.pure (d := some 41) rfl rfl (by rfl) (v := (.bool true)) (fun w' hk => ?_) ?_
  · go_simp
  simp only [Act.put, List.setIfInBounds_toArray, List.set_cons_zero, List.set_cons_succ]
  refine WE.skip (d := some 42) rfl rfl (by rfl) ?_
  simp only [Act.put, List.setIfInBounds_toArray, List.set_cons_zero, List.set_cons_succ]
  refine WE.pass (d := some 43) rfl rfl (by rfl) ?_
  simp only [Act.put, List.setIfInBounds_toArray, List.set_cons_zero, List.set_cons_succ]
  refine WE.skip (d := some 44) rfl rfl (by rfl) ?_
  simp only [Act.put, List.setIfInBounds_toArray, List.set_cons_zero, List.set_cons_succ]
  refine WE.pure (d := some 45) rfl rfl (by rfl) (v := (.bool true)) (fun w' hk => ?_) ?_
  · go_simp
  simp only [Act.put, List.setIfInBounds_toArray, List.set_cons_zero, List.set_cons_succ]
  refine WE.done ?_
  repeat go_step
  go_ret
  exact ⟨rfl, E.out⟩

set_option maxRecDepth 100000 in
set_option maxHeartbeats 1000000 in
theorem gcdDivides_skip3 (W : World) (ga : Bool) (Aa : Option Addr) (na ca : Nat) (la : List Nat) (ha : Num W W.heap.size (.slice Aa na ca) la) (gb : Bool) (Ab : Option Addr) (nb cb : Nat) (lb : List Nat) (hb : Num W W.heap.size (.slice Ab nb cb) lb) (gc : Bool) (Ac : Option Addr) (nc cc : Nat) (lc : List Nat) (hc : Num W W.heap.size (.slice Ac nc cc) lc) (fa : Hid (decide (la.length ≤ 6) = true)) (fb : Hid (decide (lb.length ≤ 6) = true)) (fc : Hid (decide (lc.length ≤ 6) = true)) (ia : Hid (M.isZ ga la = false)) :
    Calls Try.prog 5 #[.agg #[.bool ga, .slice Aa na ca], .agg #[.bool gb, .slice Ab nb cb], .agg #[.bool gc, .slice Ac nc cc]] W (fun e w' => e = .returned (.bool true) ∧ Ext W w') := by
  have Na := hid ha
  have Nb := hid hb
  have Nc := hid hc
  clear ha hb hc
  go_enter Try.func5, Try.ntmps5
  go_upto_region 1 with (fail)
  have E := hid ((((Ext.refl W).alloc' (.cells #[.bool ga, .slice Aa na ca] 24)).alloc' (.cells #[.bool gb, .slice Ab nb cb] 24)).alloc' (.cells #[.bool gc, .slice Ac nc cc] 24))
  have Ba : Hid (Box (((W.alloc (.cells #[.bool ga, .slice Aa na ca] 24)).alloc (.cells #[.bool gb, .slice Ab nb cb] 24)).alloc (.cells #[.bool gc, .slice Ac nc cc] 24)) (W.heap.size) #[.bool ga, .slice Aa na ca] 24) := hid (((Box.at_ (w := W) #[.bool ga, .slice Aa na ca] 24 (by simp)).alloc (.cells #[.bool gb, .slice Ab nb cb] 24)).alloc (.cells #[.bool gc, .slice Ac nc cc] 24))
  have Bb : Hid (Box (((W.alloc (.cells #[.bool ga, .slice Aa na ca] 24)).alloc (.cells #[.bool gb, .slice Ab nb cb] 24)).alloc (.cells #[.bool gc, .slice Ac nc cc] 24)) (W.heap.size + 1) #[.bool gb, .slice Ab nb cb] 24) := hid ((Box.at_ (w := (W.alloc (.cells #[.bool ga, .slice Aa na ca] 24))) #[.bool gb, .slice Ab nb cb] 24 (by simp)).alloc (.cells #[.bool gc, .slice Ac nc cc] 24))
  have Bc : Hid (Box (((W.alloc (.cells #[.bool ga, .slice Aa na ca] 24)).alloc (.cells #[.bool gb, .slice Ab nb cb] 24)).alloc (.cells #[.bool gc, .slice Ac nc cc] 24)) (W.heap.size + 2) #[.bool gc, .slice Ac nc cc] 24) := hid (Box.at_ (w := ((W.alloc (.cells #[.bool ga, .slice Aa na ca] 24)).alloc (.cells #[.bool gb, .slice Ab nb cb] 24))) #[.bool gc, .slice Ac nc cc] 24 (by simp))
  replace Na := hid (Na.out.up E.out)
  replace Nb := hid (Nb.out.up E.out)
  replace Nc := hid (Nc.out.up E.out)
  go_upto_region 1 with (fail)
  refine wp_region_T [(0, 1), (1, 0)] (by kernel_rfl) fun wd hb => ?_
  replace E := hid (E.out.trans hb)
  replace Ba := hid (Ba.out.up hb)
  replace Bb := hid (Bb.out.up hb)
  replace Bc := hid (Bc.out.up hb)
  replace Na := hid (Na.out.up hb)
  replace Nb := hid (Nb.out.up hb)
  replace Nc := hid (Nc.out.up hb)
  clear hb
  refine WE.call (d := some 16) rfl rfl (by rfl) (f := 8) (args := #[]) (by go_simp) ?_
  refine (known4 _).mono ?_
  rintro e wn ⟨rfl, hb⟩
  refine ⟨_, rfl, hb, ?_⟩
  replace E := hid (E.out.trans hb)
  replace Ba := hid (Ba.out.up hb)
  replace Bb := hid (Bb.out.up hb)
  replace Bc := hid (Bc.out.up hb)
  replace Na := hid (Na.out.up hb)
  replace Nb := hid (Nb.out.up hb)
  replace Nc := hid (Nc.out.up hb)
  clear hb
  simp only [Act.put, List.setIfInBounds_toArray, List.set_cons_zero, List.set_cons_succ]
  refine WE.pure (d := some 17) rfl rfl (by rfl) (v := (.bool false)) (fun w' hk => ?_) ?_
  · go_simp
  simp only [Act.put, List.setIfInBounds_toArray, List.set_cons_zero, List.set_cons_succ]
  refine WE.done ?_
  go_upto_region 3 with (fail)
  refine wp_region_T [(0, 0), (1, 1), (2, 0), (3, 0), (4, 0), (5, 1), (6, 0), (7, 0), (8, 0), (9, 0), (10, 1), (11, 0), (12, 0), (13, 0), (14, 0), (15, 1), (16, 0), (17, 0), (18, 0), (19, 0), (20, 1), (21, 0), (22, 0), (23, 0), (24, 0), (25, 1), (26, 0), (27, 0)] (by kernel_rfl) fun wd hb => ?_
  replace E := hid (E.out.trans hb)
  replace Ba := hid (Ba.out.up hb)
  replace Bb := hid (Bb.out.up hb)
  replace Bc := hid (Bc.out.up hb)
  replace Na := hid (Na.out.up hb)
  replace Nb := hid (Nb.out.up hb)
  replace Nc := hid (Nc.out.up hb)
  clear hb
  refine WE.pure (d := some 18) rfl rfl (by rfl) (v := (.agg #[.bool ga, .slice Aa na ca])) (fun w' hk => ?_) ?_
  · have c0 := hk.cell (Ba.out.cell (o := 0) (v := .bool ga) rfl); have c1 := hk.cell (Ba.out.cell (o := 1) (v := .slice Aa na ca) rfl); go_simp
  simp only [Act.put, List.setIfInBounds_toArray, List.set_cons_zero, List.set_cons_succ]
  refine WE.call (d := some 19) rfl rfl (by rfl) (f := 9) (args := #[(.agg #[.bool ga, .slice Aa na ca])]) (by go_simp) ?_
  refine (few4_z Na.out fa.out).mono ?_
  rintro e wn ⟨rfl, hb⟩
  refine ⟨_, rfl, hb, ?_⟩
  replace E := hid (E.out.trans hb)
  replace Ba := hid (Ba.out.up hb)
  replace Bb := hid (Bb.out.up hb)
  replace Bc := hid (Bc.out.up hb)
  replace Na := hid (Na.out.up hb)
  replace Nb := hid (Nb.out.up hb)
  replace Nc := hid (Nc.out.up hb)
  clear hb
  simp only [Act.put, List.setIfInBounds_toArray, List.set_cons_zero, List.set_cons_succ]
  refine WE.pure (d := some 20) rfl rfl (by rfl) (v := (.bool false)) (fun w' hk => ?_) ?_
  · go_simp
  simp only [Act.put, List.setIfInBounds_toArray, List.set_cons_zero, List.set_cons_succ]
  refine WE.pure (d := some 21) rfl rfl (by rfl) (v := (.bool false)) (fun w' hk => ?_) ?_
  · go_simp
  simp only [Act.put, List.setIfInBounds_toArray, List.set_cons_zero, List.set_cons_succ]
  refine WE.pure (d := some 22) rfl rfl (by rfl) (v := (.agg #[.bool gb, .slice Ab nb cb])) (fun w' hk => ?_) ?_
  · have c0 := hk.cell (Bb.out.cell (o := 0) (v := .bool gb) rfl); have c1 := hk.cell (Bb.out.cell (o := 1) (v := .slice Ab nb cb) rfl); go_simp
  simp only [Act.put, List.setIfInBounds_toArray, List.set_cons_zero, List.set_cons_succ]
  refine WE.call (d := some 23) rfl rfl (by rfl) (f := 9) (args := #[(.agg #[.bool gb, .slice Ab nb cb])]) (by go_simp) ?_
  refine (few4_z Nb.out fb.out).mono ?_
  rintro e wn ⟨rfl, hb⟩
  refine ⟨_, rfl, hb, ?_⟩
  replace E := hid (E.out.trans hb)
  replace Ba := hid (Ba.out.up hb)
  replace Bb := hid (Bb.out.up hb)
  replace Bc := hid (Bc.out.up hb)
  replace Na := hid (Na.out.up hb)
  replace Nb := hid (Nb.out.up hb)
  replace Nc := hid (Nc.out.up hb)
  clear hb
  simp only [Act.put, List.setIfInBounds_toArray, List.set_cons_zero, List.set_cons_succ]
  refine WE.pure (d := some 24) rfl rfl (by rfl) (v := (.bool false)) (fun w' hk => ?_) ?_
  · go_simp
  simp only [Act.put, List.setIfInBounds_toArray, List.set_cons_zero, List.set_cons_succ]
  refine WE.pure (d := some 25) rfl rfl (by rfl) (v := (.bool false)) (fun w' hk => ?_) ?_
  · go_simp
  simp only [Act.put, List.setIfInBounds_toArray, List.set_cons_zero, List.set_cons_succ]
  refine WE.pure (d := some 26) rfl rfl (by rfl) (v := (.bool false)) (fun w' hk => ?_) ?_
  · go_simp
  simp only [Act.put, List.setIfInBounds_toArray, List.set_cons_zero, List.set_cons_succ]
  refine WE.pure (d := some 27) rfl rfl (by rfl) (v := (.agg #[.bool gc, .slice Ac nc cc])) (fun w' hk => ?_) ?_
  · have c0 := hk.cell (Bc.out.cell (o := 0) (v := .bool gc) rfl); have c1 := hk.cell (Bc.out.cell (o := 1) (v := .slice Ac nc cc) rfl); go_simp
  simp only [Act.put, List.setIfInBounds_toArray, List.set_cons_zero, List.set_cons_succ]
  refine WE.call (d := some 28) rfl rfl (by rfl) (f := 9) (args := #[(.agg #[.bool gc, .slice Ac nc cc])]) (by go_simp) ?_
  refine (few4_z Nc.out fc.out).mono ?_
  rintro e wn ⟨rfl, hb⟩
  refine ⟨_, rfl, hb, ?_⟩
  replace E := hid (E.out.trans hb)
  replace Ba := hid (Ba.out.up hb)
  replace Bb := hid (Bb.out.up hb)
  replace Bc := hid (Bc.out.up hb)
  replace Na := hid (Na.out.up hb)
  replace Nb := hid (Nb.out.up hb)
  replace Nc := hid (Nc.out.up hb)
  clear hb
  simp only [Act.put, List.setIfInBounds_toArray, List.set_cons_zero, List.set_cons_succ]
  refine WE.pure (d := some 29) rfl rfl (by rfl) (v := (.bool false)) (fun w' hk => ?_) ?_
  · go_simp
  simp only [Act.put, List.setIfInBounds_toArray, List.set_cons_zero, List.set_cons_succ]
  refine WE.pure (d := some 30) rfl rfl (by rfl) (v := (.bool false)) (fun w' hk => ?_) ?_
  · go_simp
  simp only [Act.put, List.setIfInBounds_toArray, List.set_cons_zero, List.set_cons_succ]
  refine WE.pure (d := some 31) rfl rfl (by rfl) (v := (.bool false)) (fun w' hk => ?_) ?_
  · go_simp
  simp only [Act.put, List.setIfInBounds_toArray, List.set_cons_zero, List.set_cons_succ]
  refine WE.pure (d := some 32) rfl rfl (by rfl) (v := (.agg #[.bool ga, .slice Aa na ca])) (fun w' hk => ?_) ?_
  · have c0 := hk.cell (Ba.out.cell (o := 0) (v := .bool ga) rfl); have c1 := hk.cell (Ba.out.cell (o := 1) (v := .slice Aa na ca) rfl); go_simp
  simp only [Act.put, List.setIfInBounds_toArray, List.set_cons_zero, List.set_cons_succ]
  refine WE.call (d := some 33) rfl rfl (by rfl) (f := 16) (args := #[(.agg #[.bool ga, .slice Aa na ca])]) (by go_simp) ?_
  refine (rzIs_any Na.out ia.out).mono ?_
  rintro e wn ⟨rfl, hb⟩
  refine ⟨_, rfl, hb, ?_⟩
  replace E := hid (E.out.trans hb)
  replace Ba := hid (Ba.out.up hb)
  replace Bb := hid (Bb.out.up hb)
  replace Bc := hid (Bc.out.up hb)
  replace Na := hid (Na.out.up hb)
  replace Nb := hid (Nb.out.up hb)
  replace Nc := hid (Nc.out.up hb)
  clear hb
  simp only [Act.put, List.setIfInBounds_toArray, List.set_cons_zero, List.set_cons_succ]
  refine WE.pure (d := some 34) rfl rfl (by rfl) (v := (.bool true)) (fun w' hk => ?_) ?_
  · go_simp
  simp only [Act.put, List.setIfInBounds_toArray, List.set_cons_zero, List.set_cons_succ]
  refine WE.pure (d := some 35) rfl rfl (by rfl) (v := (.bool true)) (fun w' hk => ?_) ?_
  · go_simp
  simp only [Act.put, List.setIfInBounds_toArray, List.set_cons_zero, List.set_cons_succ]
  refine WE.pure (d := some 36) rfl rfl (by rfl) (v := (.bool true)) (fun w' hk => ?_) ?_
  · go_simp
  simp only [Act.put, List.setIfInBounds_toArray, List.set_cons_zero, List.set_cons_succ]
  refine WE.skip (d := some 37) rfl rfl (by rfl) ?_
  simp only [Act.put, List.setIfInBounds_toArray, List.set_cons_zero, List.set_cons_succ]
  refine WE.pass (d := some 38) rfl rfl (by rfl) ?_
  simp only [Act.put, List.setIfInBounds_toArray, List.set_cons_zero, List.set_cons_succ]
  refine WE.skip (d := some 39) rfl rfl (by rfl) ?_
  simp only [Act.put, List.setIfInBounds_toArray, List.set_cons_zero, List.set_cons_succ]
  refine WE.pure (d := some 40) rfl rfl (by rfl) (v := (.bool true)) (fun w' hk => ?_) ?_
  · go_simp
  simp only [Act.put, List.setIfInBounds_toArray, List.set_cons_zero, List.set_cons_succ]
  refine WE.pure (d := some 41) rfl rfl (by rfl) (v := (.bool true)) (fun w' hk => ?_) ?_
  · go_simp
  simp only [Act.put, List.setIfInBounds_toArray, List.set_cons_zero, List.set_cons_succ]
  refine WE.skip (d := some 42) rfl rfl (by rfl) ?_
  simp only [Act.put, List.setIfInBounds_toArray, List.set_cons_zero, List.set_cons_succ]
  refine WE.pass (d := some 43) rfl rfl (by rfl) ?_
  simp only [Act.put, List.setIfInBounds_toArray, List.set_cons_zero, List.set_cons_succ]
  refine WE.skip (d := some 44) rfl rfl (by rfl) ?_
  simp only [Act.put, List.setIfInBounds_toArray, List.set_cons_zero, List.set_cons_succ]
  refine WE.pure (d := some 45) rfl rfl (by rfl) (v := (.bool true)) (fun w' hk => ?_) ?_
  · go_simp
  simp only [Act.put, List.setIfInBounds_toArray, List.set_cons_zero, List.set_cons_succ]
  refine WE.done ?_
  repeat go_step
  go_ret
  exact ⟨rfl, E.out⟩

set_option maxRecDepth 100000 in
set_option maxHeartbeats 1000000 in
theorem gcdDivides_skip4 (W : World) (ga : Bool) (Aa : Option Addr) (na ca : Nat) (la : List Nat) (ha : Num W W.heap.size (.slice Aa na ca) la) (gb : Bool) (Ab : Option Addr) (nb cb : Nat) (lb : List Nat) (hb : Num W W.heap.size (.slice Ab nb cb) lb) (gc : Bool) (Ac : Option Addr) (nc cc : Nat) (lc : List Nat) (hc : Num W W.heap.size (.slice Ac nc cc) lc) (fa : Hid (decide (la.length ≤ 6) = true)) (fb : Hid (decide (lb.length ≤ 6) = true)) (fc : Hid (decide (lc.length ≤ 6) = true)) (ia : Hid (M.isZ ga la = true)) (ib : Hid (M.isZ gb lb = false)) :
    Calls Try.prog 5 #[.agg #[.bool ga, .slice Aa na ca], .agg #[.bool gb, .slice Ab nb cb], .agg #[.bool gc, .slice Ac nc cc]] W (fun e w' => e = .returned (.bool true) ∧ Ext W w') := by
  have Na := hid ha
  have Nb := hid hb
  have Nc := hid hc
  clear ha hb hc
  go_enter Try.func5, Try.ntmps5
  go_upto_region 1 with (fail)
  have E := hid ((((Ext.refl W).alloc' (.cells #[.bool ga, .slice Aa na ca] 24)).alloc' (.cells #[.bool gb, .slice Ab nb cb] 24)).alloc' (.cells #[.bool gc, .slice Ac nc cc] 24))
  have Ba : Hid (Box (((W.alloc (.cells #[.bool ga, .slice Aa na ca] 24)).alloc (.cells #[.bool gb, .slice Ab nb cb] 24)).alloc (.cells #[.bool gc, .slice Ac nc cc] 24)) (W.heap.size) #[.bool ga, .slice Aa na ca] 24) := hid (((Box.at_ (w := W) #[.bool ga, .slice Aa na ca] 24 (by simp)).alloc (.cells #[.bool gb, .slice Ab nb cb] 24)).alloc (.cells #[.bool gc, .slice Ac nc cc] 24))
  have Bb : Hid (Box (((W.alloc (.cells #[.bool ga, .slice Aa na ca] 24)).alloc (.cells #[.bool gb, .slice Ab nb cb] 24)).alloc (.cells #[.bool gc, .slice Ac nc cc] 24)) (W.heap.size + 1) #[.bool gb, .slice Ab nb cb] 24) := hid ((Box.at_ (w := (W.alloc (.cells #[.bool ga, .slice Aa na ca] 24))) #[.bool gb, .slice Ab nb cb] 24 (by simp)).alloc (.cells #[.bool gc, .slice Ac nc cc] 24))
  have Bc : Hid (Box (((W.alloc (.cells #[.bool ga, .slice Aa na ca] 24)).alloc (.cells #[.bool gb, .slice Ab nb cb] 24)).alloc (.cells #[.bool gc, .slice Ac nc cc] 24)) (W.heap.size + 2) #[.bool gc, .slice Ac nc cc] 24) := hid (Box.at_ (w := ((W.alloc (.cells #[.bool ga, .slice Aa na ca] 24)).alloc (.cells #[.bool gb, .slice Ab nb cb] 24))) #[.bool gc, .slice Ac nc cc] 24 (by simp))
  replace Na := hid (Na.out.up E.out)
  replace Nb := hid (Nb.out.up E.out)
  replace Nc := hid (Nc.out.up E.out)
  go_upto_region 1 with (fail)
  refine wp_region_T [(0, 1), (1, 0)] (by kernel_rfl) fun wd hb => ?_
  replace E := hid (E.out.trans hb)
  replace Ba := hid (Ba.out.up hb)
  replace Bb := hid (Bb.out.up hb)
  replace Bc := hid (Bc.out.up hb)
  replace Na := hid (Na.out.up hb)
  replace Nb := hid (Nb.out.up hb)
  replace Nc := hid (Nc.out.up hb)
  clear hb
  refine WE.call (d := some 16) rfl rfl (by rfl) (f := 8) (args := #[]) (by go_simp) ?_
  refine (known4 _).mono ?_
  rintro e wn ⟨rfl, hb⟩
  refine ⟨_, rfl, hb, ?_⟩
  replace E := hid (E.out.trans hb)
  replace Ba := hid (Ba.out.up hb)
  replace Bb := hid (Bb.out.up hb)
  replace Bc := hid (Bc.out.up hb)
  replace Na := hid (Na.out.up hb)
  replace Nb := hid (Nb.out.up hb)
  replace Nc := hid (Nc.out.up hb)
  clear hb
  simp only [Act.put, List.setIfInBounds_toArray, List.set_cons_zero, List.set_cons_succ]
  refine WE.pure (d := some 17) rfl rfl (by rfl) (v := (.bool false)) (fun w' hk => ?_) ?_
  · go_simp
  simp only [Act.put, List.setIfInBounds_toArray, List.set_cons_zero, List.set_cons_succ]
  refine WE.done ?_
  go_upto_region 3 with (fail)
  refine wp_region_T [(0, 0), (1, 1), (2, 0), (3, 0), (4, 0), (5, 1), (6, 0), (7, 0), (8, 0), (9, 0), (10, 1), (11, 0), (12, 0), (13, 0), (14, 0), (15, 1), (16, 0), (17, 0), (18, 0), (19, 0), (20, 1), (21, 0), (22, 0), (23, 0), (24, 0), (25, 1), (26, 0), (27, 0)] (by kernel_rfl) fun wd hb => ?_
  replace E := hid (E.out.trans hb)
  replace Ba := hid (Ba.out.up hb)
  replace Bb := hid (Bb.out.up hb)
  replace Bc := hid (Bc.out.up hb)
  replace Na := hid (Na.out.up hb)
  replace Nb := hid (Nb.out.up hb)
  replace Nc := hid (Nc.out.up hb)
  clear hb
  refine WE.pure (d := some 18) rfl rfl (by rfl) (v := (.agg #[.bool ga, .slice Aa na ca])) (fun w' hk => ?_) ?_
  · have c0 := hk.cell (Ba.out.cell (o := 0) (v := .bool ga) rfl); have c1 := hk.cell (Ba.out.cell (o := 1) (v := .slice Aa na ca) rfl); go_simp
  simp only [Act.put, List.setIfInBounds_toArray, List.set_cons_zero, List.set_cons_succ]
  refine WE.call (d := some 19) rfl rfl (by rfl) (f := 9) (args := #[(.agg #[.bool ga, .slice Aa na ca])]) (by go_simp) ?_
  refine (few4_z Na.out fa.out).mono ?_
  rintro e wn ⟨rfl, hb⟩
  refine ⟨_, rfl, hb, ?_⟩
  replace E := hid (E.out.trans hb)
  replace Ba := hid (Ba.out.up hb)
  replace Bb := hid (Bb.out.up hb)
  replace Bc := hid (Bc.out.up hb)
  replace Na := hid (Na.out.up hb)
  replace Nb := hid (Nb.out.up hb)
  replace Nc := hid (Nc.out.up hb)
  clear hb
  simp only [Act.put, List.setIfInBounds_toArray, List.set_cons_zero, List.set_cons_succ]
  refine WE.pure (d := some 20) rfl rfl (by rfl) (v := (.bool false)) (fun w' hk => ?_) ?_
  · go_simp
  simp only [Act.put, List.setIfInBounds_toArray, List.set_cons_zero, List.set_cons_succ]
  refine WE.pure (d := some 21) rfl rfl (by rfl) (v := (.bool false)) (fun w' hk => ?_) ?_
  · go_simp
  simp only [Act.put, List.setIfInBounds_toArray, List.set_cons_zero, List.set_cons_succ]
  refine WE.pure (d := some 22) rfl rfl (by rfl) (v := (.agg #[.bool gb, .slice Ab nb cb])) (fun w' hk => ?_) ?_
  · have c0 := hk.cell (Bb.out.cell (o := 0) (v := .bool gb) rfl); have c1 := hk.cell (Bb.out.cell (o := 1) (v := .slice Ab nb cb) rfl); go_simp
  simp only [Act.put, List.setIfInBounds_toArray, List.set_cons_zero, List.set_cons_succ]
  refine WE.call (d := some 23) rfl rfl (by rfl) (f := 9) (args := #[(.agg #[.bool gb, .slice Ab nb cb])]) (by go_simp) ?_
  refine (few4_z Nb.out fb.out).mono ?_
  rintro e wn ⟨rfl, hb⟩
  refine ⟨_, rfl, hb, ?_⟩
  replace E := hid (E.out.trans hb)
  replace Ba := hid (Ba.out.up hb)
  replace Bb := hid (Bb.out.up hb)
  replace Bc := hid (Bc.out.up hb)
  replace Na := hid (Na.out.up hb)
  replace Nb := hid (Nb.out.up hb)
  replace Nc := hid (Nc.out.up hb)
  clear hb
  simp only [Act.put, List.setIfInBounds_toArray, List.set_cons_zero, List.set_cons_succ]
  refine WE.pure (d := some 24) rfl rfl (by rfl) (v := (.bool false)) (fun w' hk => ?_) ?_
  · go_simp
  simp only [Act.put, List.setIfInBounds_toArray, List.set_cons_zero, List.set_cons_succ]
  refine WE.pure (d := some 25) rfl rfl (by rfl) (v := (.bool false)) (fun w' hk => ?_) ?_
  · go_simp
  simp only [Act.put, List.setIfInBounds_toArray, List.set_cons_zero, List.set_cons_succ]
  refine WE.pure (d := some 26) rfl rfl (by rfl) (v := (.bool false)) (fun w' hk => ?_) ?_
  · go_simp
  simp only [Act.put, List.setIfInBounds_toArray, List.set_cons_zero, List.set_cons_succ]
  refine WE.pure (d := some 27) rfl rfl (by rfl) (v := (.agg #[.bool gc, .slice Ac nc cc])) (fun w' hk => ?_) ?_
  · have c0 := hk.cell (Bc.out.cell (o := 0) (v := .bool gc) rfl); have c1 := hk.cell (Bc.out.cell (o := 1) (v := .slice Ac nc cc) rfl); go_simp
  simp only [Act.put, List.setIfInBounds_toArray, List.set_cons_zero, List.set_cons_succ]
  refine WE.call (d := some 28) rfl rfl (by rfl) (f := 9) (args := #[(.agg #[.bool gc, .slice Ac nc cc])]) (by go_simp) ?_
  refine (few4_z Nc.out fc.out).mono ?_
  rintro e wn ⟨rfl, hb⟩
  refine ⟨_, rfl, hb, ?_⟩
  replace E := hid (E.out.trans hb)
  replace Ba := hid (Ba.out.up hb)
  replace Bb := hid (Bb.out.up hb)
  replace Bc := hid (Bc.out.up hb)
  replace Na := hid (Na.out.up hb)
  replace Nb := hid (Nb.out.up hb)
  replace Nc := hid (Nc.out.up hb)
  clear hb
  simp only [Act.put, List.setIfInBounds_toArray, List.set_cons_zero, List.set_cons_succ]
  refine WE.pure (d := some 29) rfl rfl (by rfl) (v := (.bool false)) (fun w' hk => ?_) ?_
  · go_simp
  simp only [Act.put, List.setIfInBounds_toArray, List.set_cons_zero, List.set_cons_succ]
  refine WE.pure (d := some 30) rfl rfl (by rfl) (v := (.bool false)) (fun w' hk => ?_) ?_
  · go_simp
  simp only [Act.put, List.setIfInBounds_toArray, List.set_cons_zero, List.set_cons_succ]
  refine WE.pure (d := some 31) rfl rfl (by rfl) (v := (.bool false)) (fun w' hk => ?_) ?_
  · go_simp
  simp only [Act.put, List.setIfInBounds_toArray, List.set_cons_zero, List.set_cons_succ]
  refine WE.pure (d := some 32) rfl rfl (by rfl) (v := (.agg #[.bool ga, .slice Aa na ca])) (fun w' hk => ?_) ?_
  · have c0 := hk.cell (Ba.out.cell (o := 0) (v := .bool ga) rfl); have c1 := hk.cell (Ba.out.cell (o := 1) (v := .slice Aa na ca) rfl); go_simp
  simp only [Act.put, List.setIfInBounds_toArray, List.set_cons_zero, List.set_cons_succ]
  refine WE.call (d := some 33) rfl rfl (by rfl) (f := 16) (args := #[(.agg #[.bool ga, .slice Aa na ca])]) (by go_simp) ?_
  refine (rzIs_any Na.out ia.out).mono ?_
  rintro e wn ⟨rfl, hb⟩
  refine ⟨_, rfl, hb, ?_⟩
  replace E := hid (E.out.trans hb)
  replace Ba := hid (Ba.out.up hb)
  replace Bb := hid (Bb.out.up hb)
  replace Bc := hid (Bc.out.up hb)
  replace Na := hid (Na.out.up hb)
  replace Nb := hid (Nb.out.up hb)
  replace Nc := hid (Nc.out.up hb)
  clear hb
  simp only [Act.put, List.setIfInBounds_toArray, List.set_cons_zero, List.set_cons_succ]
  refine WE.pure (d := some 34) rfl rfl (by rfl) (v := (.bool false)) (fun w' hk => ?_) ?_
  · go_simp
  simp only [Act.put, List.setIfInBounds_toArray, List.set_cons_zero, List.set_cons_succ]
  refine WE.pure (d := some 35) rfl rfl (by rfl) (v := (.bool false)) (fun w' hk => ?_) ?_
  · go_simp
  simp only [Act.put, List.setIfInBounds_toArray, List.set_cons_zero, List.set_cons_succ]
  refine WE.pure (d := some 36) rfl rfl (by rfl) (v := (.bool false)) (fun w' hk => ?_) ?_
  · go_simp
  simp only [Act.put, List.setIfInBounds_toArray, List.set_cons_zero, List.set_cons_succ]
  refine WE.pure (d := some 37) rfl rfl (by rfl) (v := (.agg #[.bool gb, .slice Ab nb cb])) (fun w' hk => ?_) ?_
  · have c0 := hk.cell (Bb.out.cell (o := 0) (v := .bool gb) rfl); have c1 := hk.cell (Bb.out.cell (o := 1) (v := .slice Ab nb cb) rfl); go_simp
  simp only [Act.put, List.setIfInBounds_toArray, List.set_cons_zero, List.set_cons_succ]
  refine WE.call (d := some 38) rfl rfl (by rfl) (f := 16) (args := #[(.agg #[.bool gb, .slice Ab nb cb])]) (by go_simp) ?_
  refine (rzIs_any Nb.out ib.out).mono ?_
  rintro e wn ⟨rfl, hb⟩
  refine ⟨_, rfl, hb, ?_⟩
  replace E := hid (E.out.trans hb)
  replace Ba := hid (Ba.out.up hb)
  replace Bb := hid (Bb.out.up hb)
  replace Bc := hid (Bc.out.up hb)
  replace Na := hid (Na.out.up hb)
  replace Nb := hid (Nb.out.up hb)
  replace Nc := hid (Nc.out.up hb)
  clear hb
  simp only [Act.put, List.setIfInBounds_toArray, List.set_cons_zero, List.set_cons_succ]
  refine WE.pure (d := some 39) rfl rfl (by rfl) (v := (.bool true)) (fun w' hk => ?_) ?_
  · go_simp
  simp only [Act.put, List.setIfInBounds_toArray, List.set_cons_zero, List.set_cons_succ]
  refine WE.pure (d := some 40) rfl rfl (by rfl) (v := (.bool true)) (fun w' hk => ?_) ?_
  · go_simp
  simp only [Act.put, List.setIfInBounds_toArray, List.set_cons_zero, List.set_cons_succ]
  refine WE.pure (d := some 41) rfl rfl (by rfl) (v := (.bool true)) (fun w' hk => ?_) ?_
  · go_simp
  simp only [Act.put, List.setIfInBounds_toArray, List.set_cons_zero, List.set_cons_succ]
  refine WE.skip (d := some 42) rfl rfl (by rfl) ?_
  simp only [Act.put, List.setIfInBounds_toArray, List.set_cons_zero, List.set_cons_succ]
  refine WE.pass (d := some 43) rfl rfl (by rfl) ?_
  simp only [Act.put, List.setIfInBounds_toArray, List.set_cons_zero, List.set_cons_succ]
  refine WE.skip (d := some 44) rfl rfl (by rfl) ?_
  simp only [Act.put, List.setIfInBounds_toArray, List.set_cons_zero, List.set_cons_succ]
  refine WE.pure (d := some 45) rfl rfl (by rfl) (v := (.bool true)) (fun w' hk => ?_) ?_
  · go_simp
  simp only [Act.put, List.setIfInBounds_toArray, List.set_cons_zero, List.set_cons_succ]
  refine WE.done ?_
  repeat go_step
  go_ret
  exact ⟨rfl, E.out⟩

set_option maxRecDepth 100000 in
set_option maxHeartbeats 8000000 in
theorem gcdDivides_none (W : World) (ga : Bool) (Aa : Option Addr) (na ca : Nat) (la : List Nat) (ha : Num W W.heap.size (.slice Aa na ca) la) (gb : Bool) (Ab : Option Addr) (nb cb : Nat) (lb : List Nat) (hb : Num W W.heap.size (.slice Ab nb cb) lb) (gc : Bool) (Ac : Option Addr) (nc cc : Nat) (lc : List Nat) (hc : Num W W.heap.size (.slice Ac nc cc) lc) (fa : Hid (decide (la.length ≤ 6) = true)) (fb : Hid (decide (lb.length ≤ 6) = true)) (fc : Hid (decide (lc.length ≤ 6) = true)) (ia : Hid (M.isZ ga la = true)) (ib : Hid (M.isZ gb lb = true)) (x : Int) (HX : Hid (x = M.zv ga la)) (y : Int) (HY : Hid (y = M.zv gb lb)) (z : Int) (HZ : Hid (z = M.zv gc lc)) (hcond : Hid (z ≠ 0 ∧ x = 0 ∧ y = 0)) :
    Calls Try.prog 5 #[.agg #[.bool ga, .slice Aa na ca], .agg #[.bool gb, .slice Ab nb cb], .agg #[.bool gc, .slice Ac nc cc]] W (fun e w' => e = .returned (.bool true) ∧ Ext W w') := by
  have HNZ := hid hcond.out.1
  obtain ⟨sz, hsz⟩ : ∃ s : Int, z.sign = s := ⟨_, rfl⟩
  have HSZ := hid hsz
  have hsz0 : (sz == 0) = false := by rw [← hsz, beq_eq_false_iff_ne]; intro e; exact HNZ.out (Int.sign_eq_zero_iff_zero.1 e)
  obtain ⟨sg, hsg⟩ : ∃ s : Int, (((Int.gcd (x * z) (y * z) : Nat) : Int)).sign = s := ⟨_, rfl⟩
  have HSG := hid hsg
  have hsg0 : decide (sg < 0) = false := by rw [← hsg, decide_eq_false_iff_not]; have := Int.sign_nonneg_iff.2 (Int.natCast_nonneg (Int.gcd (x * z) (y * z))); omega
  have hsg1 : (sg == 0) = true := by rw [← hsg, (M.gcd_mul_zero HNZ.out).2 hcond.out.2]; rfl
  clear hsz hsg
  have Na := hid ha
  have Nb := hid hb
  have Nc := hid hc
  have Ra := hid (worth_of ha (of_decide_eq_true fa.out) HX.out)
  have Rb := hid (worth_of hb (of_decide_eq_true fb.out) HY.out)
  have Rc := hid (worth_of hc (of_decide_eq_true fc.out) HZ.out)
  clear ha hb hc
  go_enter Try.func5, Try.ntmps5
  go_upto_region 1 with (fail)
  have E := hid ((((Ext.refl W).alloc' (.cells #[.bool ga, .slice Aa na ca] 24)).alloc' (.cells #[.bool gb, .slice Ab nb cb] 24)).alloc' (.cells #[.bool gc, .slice Ac nc cc] 24))
  have Ba : Hid (Box (((W.alloc (.cells #[.bool ga, .slice Aa na ca] 24)).alloc (.cells #[.bool gb, .slice Ab nb cb] 24)).alloc (.cells #[.bool gc, .slice Ac nc cc] 24)) (W.heap.size) #[.bool ga, .slice Aa na ca] 24) := hid (((Box.at_ (w := W) #[.bool ga, .slice Aa na ca] 24 (by simp)).alloc (.cells #[.bool gb, .slice Ab nb cb] 24)).alloc (.cells #[.bool gc, .slice Ac nc cc] 24))
  have Bb : Hid (Box (((W.alloc (.cells #[.bool ga, .slice Aa na ca] 24)).alloc (.cells #[.bool gb, .slice Ab nb cb] 24)).alloc (.cells #[.bool gc, .slice Ac nc cc] 24)) (W.heap.size + 1) #[.bool gb, .slice Ab nb cb] 24) := hid ((Box.at_ (w := (W.alloc (.cells #[.bool ga, .slice Aa na ca] 24))) #[.bool gb, .slice Ab nb cb] 24 (by simp)).alloc (.cells #[.bool gc, .slice Ac nc cc] 24))
  have Bc : Hid (Box (((W.alloc (.cells #[.bool ga, .slice Aa na ca] 24)).alloc (.cells #[.bool gb, .slice Ab nb cb] 24)).alloc (.cells #[.bool gc, .slice Ac nc cc] 24)) (W.heap.size + 2) #[.bool gc, .slice Ac nc cc] 24) := hid (Box.at_ (w := ((W.alloc (.cells #[.bool ga, .slice Aa na ca] 24)).alloc (.cells #[.bool gb, .slice Ab nb cb] 24))) #[.bool gc, .slice Ac nc cc] 24 (by simp))
  replace Na := hid (Na.out.up E.out)
  replace Nb := hid (Nb.out.up E.out)
  replace Nc := hid (Nc.out.up E.out)
  replace Ra := hid (Ra.out.up E.out)
  replace Rb := hid (Rb.out.up E.out)
  replace Rc := hid (Rc.out.up E.out)
  go_upto_region 1 with (fail)
  refine wp_region_T [(0, 1), (1, 0)] (by kernel_rfl) fun wd hb => ?_
  replace E := hid (E.out.trans hb)
  replace Ba := hid (Ba.out.up hb)
  replace Bb := hid (Bb.out.up hb)
  replace Bc := hid (Bc.out.up hb)
  replace Na := hid (Na.out.up hb)
  replace Nb := hid (Nb.out.up hb)
  replace Nc := hid (Nc.out.up hb)
  replace Ra := hid (Ra.out.up hb)
  replace Rb := hid (Rb.out.up hb)
  replace Rc := hid (Rc.out.up hb)
  clear hb
  refine WE.call (d := some 16) rfl rfl (by rfl) (f := 8) (args := #[]) (by go_simp) ?_
  refine (known4 _).mono ?_
  rintro e wn ⟨rfl, hb⟩
  refine ⟨_, rfl, hb, ?_⟩
  replace E := hid (E.out.trans hb)
  replace Ba := hid (Ba.out.up hb)
  replace Bb := hid (Bb.out.up hb)
  replace Bc := hid (Bc.out.up hb)
  replace Na := hid (Na.out.up hb)
  replace Nb := hid (Nb.out.up hb)
  replace Nc := hid (Nc.out.up hb)
  replace Ra := hid (Ra.out.up hb)
  replace Rb := hid (Rb.out.up hb)
  replace Rc := hid (Rc.out.up hb)
  clear hb
  simp only [Act.put, List.setIfInBounds_toArray, List.set_cons_zero, List.set_cons_succ]
  refine WE.pure (d := some 17) rfl rfl (by rfl) (v := (.bool false)) (fun w' hk => ?_) ?_
  · go_simp
  simp only [Act.put, List.setIfInBounds_toArray, List.set_cons_zero, List.set_cons_succ]
  refine WE.done ?_
  go_upto_region 3 with (fail)
  refine wp_region_T [(0, 0), (1, 1), (2, 0), (3, 0), (4, 0), (5, 1), (6, 0), (7, 0), (8, 0), (9, 0), (10, 1), (11, 0), (12, 0), (13, 0), (14, 0), (15, 1), (16, 0), (17, 0), (18, 0), (19, 0), (20, 1), (21, 0), (22, 0), (23, 0), (24, 0), (25, 1), (26, 0), (27, 0)] (by kernel_rfl) fun wd hb => ?_
  replace E := hid (E.out.trans hb)
  replace Ba := hid (Ba.out.up hb)
  replace Bb := hid (Bb.out.up hb)
  replace Bc := hid (Bc.out.up hb)
  replace Na := hid (Na.out.up hb)
  replace Nb := hid (Nb.out.up hb)
  replace Nc := hid (Nc.out.up hb)
  replace Ra := hid (Ra.out.up hb)
  replace Rb := hid (Rb.out.up hb)
  replace Rc := hid (Rc.out.up hb)
  clear hb
  refine WE.pure (d := some 18) rfl rfl (by rfl) (v := (.agg #[.bool ga, .slice Aa na ca])) (fun w' hk => ?_) ?_
  · have c0 := hk.cell (Ba.out.cell (o := 0) (v := .bool ga) rfl); have c1 := hk.cell (Ba.out.cell (o := 1) (v := .slice Aa na ca) rfl); go_simp
  simp only [Act.put, List.setIfInBounds_toArray, List.set_cons_zero, List.set_cons_succ]
  refine WE.call (d := some 19) rfl rfl (by rfl) (f := 9) (args := #[(.agg #[.bool ga, .slice Aa na ca])]) (by go_simp) ?_
  refine (few4_z Na.out fa.out).mono ?_
  rintro e wn ⟨rfl, hb⟩
  refine ⟨_, rfl, hb, ?_⟩
  replace E := hid (E.out.trans hb)
  replace Ba := hid (Ba.out.up hb)
  replace Bb := hid (Bb.out.up hb)
  replace Bc := hid (Bc.out.up hb)
  replace Na := hid (Na.out.up hb)
  replace Nb := hid (Nb.out.up hb)
  replace Nc := hid (Nc.out.up hb)
  replace Ra := hid (Ra.out.up hb)
  replace Rb := hid (Rb.out.up hb)
  replace Rc := hid (Rc.out.up hb)
  clear hb
  simp only [Act.put, List.setIfInBounds_toArray, List.set_cons_zero, List.set_cons_succ]
  refine WE.pure (d := some 20) rfl rfl (by rfl) (v := (.bool false)) (fun w' hk => ?_) ?_
  · go_simp
  simp only [Act.put, List.setIfInBounds_toArray, List.set_cons_zero, List.set_cons_succ]
  refine WE.pure (d := some 21) rfl rfl (by rfl) (v := (.bool false)) (fun w' hk => ?_) ?_
  · go_simp
  simp only [Act.put, List.setIfInBounds_toArray, List.set_cons_zero, List.set_cons_succ]
  refine WE.pure (d := some 22) rfl rfl (by rfl) (v := (.agg #[.bool gb, .slice Ab nb cb])) (fun w' hk => ?_) ?_
  · have c0 := hk.cell (Bb.out.cell (o := 0) (v := .bool gb) rfl); have c1 := hk.cell (Bb.out.cell (o := 1) (v := .slice Ab nb cb) rfl); go_simp
  simp only [Act.put, List.setIfInBounds_toArray, List.set_cons_zero, List.set_cons_succ]
  refine WE.call (d := some 23) rfl rfl (by rfl) (f := 9) (args := #[(.agg #[.bool gb, .slice Ab nb cb])]) (by go_simp) ?_
  refine (few4_z Nb.out fb.out).mono ?_
  rintro e wn ⟨rfl, hb⟩
  refine ⟨_, rfl, hb, ?_⟩
  replace E := hid (E.out.trans hb)
  replace Ba := hid (Ba.out.up hb)
  replace Bb := hid (Bb.out.up hb)
  replace Bc := hid (Bc.out.up hb)
  replace Na := hid (Na.out.up hb)
  replace Nb := hid (Nb.out.up hb)
  replace Nc := hid (Nc.out.up hb)
  replace Ra := hid (Ra.out.up hb)
  replace Rb := hid (Rb.out.up hb)
  replace Rc := hid (Rc.out.up hb)
  clear hb
  simp only [Act.put, List.setIfInBounds_toArray, List.set_cons_zero, List.set_cons_succ]
  refine WE.pure (d := some 24) rfl rfl (by rfl) (v := (.bool false)) (fun w' hk => ?_) ?_
  · go_simp
  simp only [Act.put, List.setIfInBounds_toArray, List.set_cons_zero, List.set_cons_succ]
  refine WE.pure (d := some 25) rfl rfl (by rfl) (v := (.bool false)) (fun w' hk => ?_) ?_
  · go_simp
  simp only [Act.put, List.setIfInBounds_toArray, List.set_cons_zero, List.set_cons_succ]
  refine WE.pure (d := some 26) rfl rfl (by rfl) (v := (.bool false)) (fun w' hk => ?_) ?_
  · go_simp
  simp only [Act.put, List.setIfInBounds_toArray, List.set_cons_zero, List.set_cons_succ]
  as_aux_lemma =>
    refine WE.pure (d := some 27) rfl rfl (by rfl) (v := (.agg #[.bool gc, .slice Ac nc cc])) (fun w' hk => ?_) ?_
    · have c0 := hk.cell (Bc.out.cell (o := 0) (v := .bool gc) rfl); have c1 := hk.cell (Bc.out.cell (o := 1) (v := .slice Ac nc cc) rfl); go_simp
    simp only [Act.put, List.setIfInBounds_toArray, List.set_cons_zero, List.set_cons_succ]
    refine WE.call (d := some 28) rfl rfl (by rfl) (f := 9) (args := #[(.agg #[.bool gc, .slice Ac nc cc])]) (by go_simp) ?_
    refine (few4_z Nc.out fc.out).mono ?_
    rintro e wn ⟨rfl, hb⟩
    refine ⟨_, rfl, hb, ?_⟩
    replace E := hid (E.out.trans hb)
    replace Ba := hid (Ba.out.up hb)
    replace Bb := hid (Bb.out.up hb)
    replace Bc := hid (Bc.out.up hb)
    replace Na := hid (Na.out.up hb)
    replace Nb := hid (Nb.out.up hb)
    replace Nc := hid (Nc.out.up hb)
    replace Ra := hid (Ra.out.up hb)
    replace Rb := hid (Rb.out.up hb)
    replace Rc := hid (Rc.out.up hb)
    clear hb
    simp only [Act.put, List.setIfInBounds_toArray, List.set_cons_zero, List.set_cons_succ]
    refine WE.pure (d := some 29) rfl rfl (by rfl) (v := (.bool false)) (fun w' hk => ?_) ?_
    · go_simp
    simp only [Act.put, List.setIfInBounds_toArray, List.set_cons_zero, List.set_cons_succ]
    refine WE.pure (d := some 30) rfl rfl (by rfl) (v := (.bool false)) (fun w' hk => ?_) ?_
    · go_simp
    simp only [Act.put, List.setIfInBounds_toArray, List.set_cons_zero, List.set_cons_succ]
    refine WE.pure (d := some 31) rfl rfl (by rfl) (v := (.bool false)) (fun w' hk => ?_) ?_
    · go_simp
    simp only [Act.put, List.setIfInBounds_toArray, List.set_cons_zero, List.set_cons_succ]
    refine WE.pure (d := some 32) rfl rfl (by rfl) (v := (.agg #[.bool ga, .slice Aa na ca])) (fun w' hk => ?_) ?_
    · have c0 := hk.cell (Ba.out.cell (o := 0) (v := .bool ga) rfl); have c1 := hk.cell (Ba.out.cell (o := 1) (v := .slice Aa na ca) rfl); go_simp
    simp only [Act.put, List.setIfInBounds_toArray, List.set_cons_zero, List.set_cons_succ]
    refine WE.call (d := some 33) rfl rfl (by rfl) (f := 16) (args := #[(.agg #[.bool ga, .slice Aa na ca])]) (by go_simp) ?_
    refine (rzIs_any Na.out ia.out).mono ?_
    rintro e wn ⟨rfl, hb⟩
    refine ⟨_, rfl, hb, ?_⟩
    replace E := hid (E.out.trans hb)
    replace Ba := hid (Ba.out.up hb)
    replace Bb := hid (Bb.out.up hb)
    replace Bc := hid (Bc.out.up hb)
    replace Na := hid (Na.out.up hb)
    replace Nb := hid (Nb.out.up hb)
    replace Nc := hid (Nc.out.up hb)
    replace Ra := hid (Ra.out.up hb)
    replace Rb := hid (Rb.out.up hb)
    replace Rc := hid (Rc.out.up hb)
    clear hb
    simp only [Act.put, List.setIfInBounds_toArray, List.set_cons_zero, List.set_cons_succ]
    refine WE.pure (d := some 34) rfl rfl (by rfl) (v := (.bool false)) (fun w' hk => ?_) ?_
    · go_simp
    simp only [Act.put, List.setIfInBounds_toArray, List.set_cons_zero, List.set_cons_succ]
    refine WE.pure (d := some 35) rfl rfl (by rfl) (v := (.bool false)) (fun w' hk => ?_) ?_
    · go_simp
    simp only [Act.put, List.setIfInBounds_toArray, List.set_cons_zero, List.set_cons_succ]
    refine WE.pure (d := some 36) rfl rfl (by rfl) (v := (.bool false)) (fun w' hk => ?_) ?_
    · go_simp
    simp only [Act.put, List.setIfInBounds_toArray, List.set_cons_zero, List.set_cons_succ]
    refine WE.pure (d := some 37) rfl rfl (by rfl) (v := (.agg #[.bool gb, .slice Ab nb cb])) (fun w' hk => ?_) ?_
    · have c0 := hk.cell (Bb.out.cell (o := 0) (v := .bool gb) rfl); have c1 := hk.cell (Bb.out.cell (o := 1) (v := .slice Ab nb cb) rfl); go_simp
    simp only [Act.put, List.setIfInBounds_toArray, List.set_cons_zero, List.set_cons_succ]
    refine WE.call (d := some 38) rfl rfl (by rfl) (f := 16) (args := #[(.agg #[.bool gb, .slice Ab nb cb])]) (by go_simp) ?_
    refine (rzIs_any Nb.out ib.out).mono ?_
    rintro e wn ⟨rfl, hb⟩
    refine ⟨_, rfl, hb, ?_⟩
    replace E := hid (E.out.trans hb)
    replace Ba := hid (Ba.out.up hb)
    replace Bb := hid (Bb.out.up hb)
    replace Bc := hid (Bc.out.up hb)
    replace Na := hid (Na.out.up hb)
    replace Nb := hid (Nb.out.up hb)
    replace Nc := hid (Nc.out.up hb)
    replace Ra := hid (Ra.out.up hb)
    replace Rb := hid (Rb.out.up hb)
    replace Rc := hid (Rc.out.up hb)
    clear hb
    simp only [Act.put, List.setIfInBounds_toArray, List.set_cons_zero, List.set_cons_succ]
    as_aux_lemma =>
      refine WE.pure (d := some 39) rfl rfl (by rfl) (v := (.bool false)) (fun w' hk => ?_) ?_
      · go_simp
      simp only [Act.put, List.setIfInBounds_toArray, List.set_cons_zero, List.set_cons_succ]
      refine WE.pure (d := some 40) rfl rfl (by rfl) (v := (.bool false)) (fun w' hk => ?_) ?_
      · go_simp
      simp only [Act.put, List.setIfInBounds_toArray, List.set_cons_zero, List.set_cons_succ]
      refine WE.pure (d := some 41) rfl rfl (by rfl) (v := (.bool false)) (fun w' hk => ?_) ?_
      · go_simp
      simp only [Act.put, List.setIfInBounds_toArray, List.set_cons_zero, List.set_cons_succ]
      refine WE.pure (d := some 42) rfl rfl (by rfl) (v := (.agg #[.bool gc, .slice Ac nc cc])) (fun w' hk => ?_) ?_
      · have c0 := hk.cell (Bc.out.cell (o := 0) (v := .bool gc) rfl); have c1 := hk.cell (Bc.out.cell (o := 1) (v := .slice Ac nc cc) rfl); go_simp
      simp only [Act.put, List.setIfInBounds_toArray, List.set_cons_zero, List.set_cons_succ]
      refine WE.call (d := some 43) rfl rfl (by rfl) (f := 20) (args := #[(.agg #[.bool gc, .slice Ac nc cc])]) (by go_simp) ?_
      refine (rSign_w Rc.out (s := sz) (HSZ.out)).mono ?_
      rintro e wn ⟨rfl, hb⟩
      refine ⟨_, rfl, hb, ?_⟩
      replace E := hid (E.out.trans hb)
      replace Ba := hid (Ba.out.up hb)
      replace Bb := hid (Bb.out.up hb)
      replace Bc := hid (Bc.out.up hb)
      replace Na := hid (Na.out.up hb)
      replace Nb := hid (Nb.out.up hb)
      replace Nc := hid (Nc.out.up hb)
      replace Ra := hid (Ra.out.up hb)
      replace Rb := hid (Rb.out.up hb)
      replace Rc := hid (Rc.out.up hb)
      clear hb
      simp only [Act.put, List.setIfInBounds_toArray, List.set_cons_zero, List.set_cons_succ]
      refine WE.pure (d := some 44) rfl rfl (by rfl) (v := (.bool false)) (fun w' hk => ?_) ?_
      · go_simp
      simp only [Act.put, List.setIfInBounds_toArray, List.set_cons_zero, List.set_cons_succ]
      refine WE.pure (d := some 45) rfl rfl (by rfl) (v := (.bool false)) (fun w' hk => ?_) ?_
      · go_simp
      simp only [Act.put, List.setIfInBounds_toArray, List.set_cons_zero, List.set_cons_succ]
      refine WE.done ?_
      go_upto_region 5 with (fail)
      refine wp_region_E [(0, 0), (1, 0), (3, 0), (4, 0), (2, 2), (5, 2), (6, 3), (7, 3), (8, 4), (9, 4)] (fun _ => (24, #[.bool false, .slice none 0 0])) rfl (by kernel_rfl) (by intro j hj; simp [pend] at hj; rcases hj with rfl | rfl <;> exact ⟨_, rfl, rfl, rfl, fun w => by go_simp⟩) (fun _ _ d _ _ => by cases d <;> exact Iff.rfl) fun wd hb => ?_
      replace E := hid (E.out.trans hb)
      replace Ba := hid (Ba.out.up hb)
      replace Bb := hid (Bb.out.up hb)
      replace Bc := hid (Bc.out.up hb)
      replace Na := hid (Na.out.up hb)
      replace Nb := hid (Nb.out.up hb)
      replace Nc := hid (Nc.out.up hb)
      replace Ra := hid (Ra.out.up hb)
      replace Rb := hid (Rb.out.up hb)
      replace Rc := hid (Rc.out.up hb)
      clear hb
      have HL1Ba := hid Ba.out.lt
      have HL1Bb := hid Bb.out.lt
      have HL1Bc := hid Bc.out.lt
      have HW1 := hid (show W.heap.size ≤ wd.heap.size from E.out.size)
      refine WE.pure (d := some 46) rfl rfl (by rfl) (v := (.agg #[.bool ga, .slice Aa na ca])) (fun w' hk => ?_) ?_
      · have c0 := hk.cell (Ba.out.cell (o := 0) (v := .bool ga) rfl); have c1 := hk.cell (Ba.out.cell (o := 1) (v := .slice Aa na ca) rfl); go_simp
      simp only [Act.put, List.setIfInBounds_toArray, List.set_cons_zero, List.set_cons_succ]
      refine WE.pure (d := some 47) rfl rfl (by rfl) (v := (.agg #[.bool gc, .slice Ac nc cc])) (fun w' hk => ?_) ?_
      · have c0 := hk.cell (Bc.out.cell (o := 0) (v := .bool gc) rfl); have c1 := hk.cell (Bc.out.cell (o := 1) (v := .slice Ac nc cc) rfl); go_simp
      simp only [Act.put, List.setIfInBounds_toArray, List.set_cons_zero, List.set_cons_succ]
      refine WE.pure (d := some 49) rfl rfl (by rfl) (v := (.agg #[.bool gb, .slice Ab nb cb])) (fun w' hk => ?_) ?_
      · have c0 := hk.cell (Bb.out.cell (o := 0) (v := .bool gb) rfl); have c1 := hk.cell (Bb.out.cell (o := 1) (v := .slice Ab nb cb) rfl); go_simp
      simp only [Act.put, List.setIfInBounds_toArray, List.set_cons_zero, List.set_cons_succ]
      refine WE.pure (d := some 50) rfl rfl (by rfl) (v := (.agg #[.bool gc, .slice Ac nc cc])) (fun w' hk => ?_) ?_
      · have c0 := hk.cell (Bc.out.cell (o := 0) (v := .bool gc) rfl); have c1 := hk.cell (Bc.out.cell (o := 1) (v := .slice Ac nc cc) rfl); go_simp
      simp only [Act.put, List.setIfInBounds_toArray, List.set_cons_zero, List.set_cons_succ]
      refine WE.callR (d := some 48) rfl rfl (by rfl) (f := 19) (args := #[(.agg #[.bool ga, .slice Aa na ca]), (.agg #[.bool gc, .slice Ac nc cc])]) (fun w => by go_simp) (fun wx hx0 => ?_)
      replace E := hid (E.out.trans hx0)
      replace Ba := hid (Ba.out.up hx0)
      replace Bb := hid (Bb.out.up hx0)
      replace Bc := hid (Bc.out.up hx0)
      replace Na := hid (Na.out.up hx0)
      replace Nb := hid (Nb.out.up hx0)
      replace Nc := hid (Nc.out.up hx0)
      replace Ra := hid (Ra.out.up hx0)
      replace Rb := hid (Rb.out.up hx0)
      replace Rc := hid (Rc.out.up hx0)
      clear hx0
      refine (rMul_w Ra.out Rc.out (by omega) (by omega)).mono ?_
      rintro e wn ⟨v1, rfl, x1, hb⟩
      obtain ⟨g1, A1, n1, c1, rfl⟩ := x1.shape
      refine ⟨_, rfl, hb, ?_⟩
      replace E := hid (E.out.trans hb)
      replace Ba := hid (Ba.out.up hb)
      replace Bb := hid (Bb.out.up hb)
      replace Bc := hid (Bc.out.up hb)
      replace Na := hid (Na.out.up hb)
      replace Nb := hid (Nb.out.up hb)
      replace Nc := hid (Nc.out.up hb)
      replace Ra := hid (Ra.out.up hb)
      replace Rb := hid (Rb.out.up hb)
      replace Rc := hid (Rc.out.up hb)
      have Q1 := hid x1
      clear hb x1
      simp only [Act.put, List.setIfInBounds_toArray, List.set_cons_zero, List.set_cons_succ]
      as_aux_lemma =>
        refine WE.callR (d := some 51) rfl rfl (by rfl) (f := 19) (args := #[(.agg #[.bool gb, .slice Ab nb cb]), (.agg #[.bool gc, .slice Ac nc cc])]) (fun w => by go_simp) (fun wx hx0 => ?_)
        replace E := hid (E.out.trans hx0)
        replace Ba := hid (Ba.out.up hx0)
        replace Bb := hid (Bb.out.up hx0)
        replace Bc := hid (Bc.out.up hx0)
        replace Na := hid (Na.out.up hx0)
        replace Nb := hid (Nb.out.up hx0)
        replace Nc := hid (Nc.out.up hx0)
        replace Ra := hid (Ra.out.up hx0)
        replace Rb := hid (Rb.out.up hx0)
        replace Rc := hid (Rc.out.up hx0)
        replace Q1 := hid (Q1.out.up hx0)
        clear hx0
        refine (rMul_w Rb.out Rc.out (by omega) (by omega)).mono ?_
        rintro e wn ⟨v1, rfl, x1, hb⟩
        obtain ⟨g2, A2, n2, c2, rfl⟩ := x1.shape
        refine ⟨_, rfl, hb, ?_⟩
        replace E := hid (E.out.trans hb)
        replace Ba := hid (Ba.out.up hb)
        replace Bb := hid (Bb.out.up hb)
        replace Bc := hid (Bc.out.up hb)
        replace Na := hid (Na.out.up hb)
        replace Nb := hid (Nb.out.up hb)
        replace Nc := hid (Nc.out.up hb)
        replace Ra := hid (Ra.out.up hb)
        replace Rb := hid (Rb.out.up hb)
        replace Rc := hid (Rc.out.up hb)
        replace Q1 := hid (Q1.out.up hb)
        have Q2 := hid x1
        clear hb x1
        simp only [Act.put, List.setIfInBounds_toArray, List.set_cons_zero, List.set_cons_succ]
        refine WE.var (d := some 7) rfl fun gV7 wv hx0 hbox hge hng => ?_
        have HNV7Ba := hid (show gV7 ≠ (W.heap.size) by have := HL1Ba.out; omega)
        have HNV7Bb := hid (show gV7 ≠ (W.heap.size + 1) by have := HL1Bb.out; omega)
        have HNV7Bc := hid (show gV7 ≠ (W.heap.size + 2) by have := HL1Bc.out; omega)
        have HGV7 := hid (show W.heap.size ≤ gV7 by have := HW1.out; omega)
        replace E := hid (E.out.trans hx0)
        replace Ba := hid (Ba.out.up hx0)
        replace Bb := hid (Bb.out.up hx0)
        replace Bc := hid (Bc.out.up hx0)
        replace Na := hid (Na.out.up hx0)
        replace Nb := hid (Nb.out.up hx0)
        replace Nc := hid (Nc.out.up hx0)
        replace Ra := hid (Ra.out.up hx0)
        replace Rb := hid (Rb.out.up hx0)
        replace Rc := hid (Rc.out.up hx0)
        replace Q1 := hid (Q1.out.up hx0)
        replace Q2 := hid (Q2.out.up hx0)
        have V7 : Hid (Box wv gV7 #[.bool false, .slice none 0 0] 24) := hid hbox
        clear hx0 hbox hge hng
        simp only [Act.put, List.setIfInBounds_toArray, List.set_cons_zero, List.set_cons_succ]
        refine WE.var (d := some 8) rfl fun gV8 wv hx0 hbox hge hng => ?_
        have HNV8Ba := hid (show gV8 ≠ (W.heap.size) by have := HL1Ba.out; omega)
        have HNV8Bb := hid (show gV8 ≠ (W.heap.size + 1) by have := HL1Bb.out; omega)
        have HNV8Bc := hid (show gV8 ≠ (W.heap.size + 2) by have := HL1Bc.out; omega)
        have HNV8V7 := hid (show gV8 ≠ gV7 by intro e; exact hng (by simp [e]))
        have HGV8 := hid (show W.heap.size ≤ gV8 by have := HW1.out; omega)
        replace E := hid (E.out.trans hx0)
        replace Ba := hid (Ba.out.up hx0)
        replace Bb := hid (Bb.out.up hx0)
        replace Bc := hid (Bc.out.up hx0)
        replace V7 := hid (V7.out.up hx0)
        replace Na := hid (Na.out.up hx0)
        replace Nb := hid (Nb.out.up hx0)
        replace Nc := hid (Nc.out.up hx0)
        replace Ra := hid (Ra.out.up hx0)
        replace Rb := hid (Rb.out.up hx0)
        replace Rc := hid (Rc.out.up hx0)
        replace Q1 := hid (Q1.out.up hx0)
        replace Q2 := hid (Q2.out.up hx0)
        have V8 : Hid (Box wv gV8 #[.bool false, .slice none 0 0] 24) := hid hbox
        clear hx0 hbox hge hng
        simp only [Act.put, List.setIfInBounds_toArray, List.set_cons_zero, List.set_cons_succ]
        refine WE.store2 (g := gV7) (x := .bool g1) (y := .slice A1 n1 c1) (t := 24) rfl rfl (by rfl) (fun w hb => ?_) V7.out (by rfl) fun ws hk hs => ?_
        · have c0 := hb.cell (o := 0) (v := .bool false) rfl; have f0 := hb.free 0; have c1 := hb.cell (o := 1) (v := .slice none 0 0) rfl; have f1 := hb.free 1; go_simp
        intro hbx
        replace E := hid (E.out.keptG hk HGV7.out)
        replace Ba := hid (Ba.out.kept hk (by simpa using HNV7Ba.out.symm))
        replace Bb := hid (Bb.out.kept hk (by simpa using HNV7Bb.out.symm))
        replace Bc := hid (Bc.out.kept hk (by simpa using HNV7Bc.out.symm))
        replace V7 := hid hbx
        replace V8 := hid (V8.out.kept hk (by simpa using HNV8V7.out))
        replace Na := hid (Na.out.kz hs)
        replace Nb := hid (Nb.out.kz hs)
        replace Nc := hid (Nc.out.kz hs)
        replace Ra := hid (Ra.out.kz hs)
        replace Rb := hid (Rb.out.kz hs)
        replace Rc := hid (Rc.out.kz hs)
        replace Q1 := hid (Q1.out.kz hs)
        replace Q2 := hid (Q2.out.kz hs)
        clear hk hs hbx
        refine WE.store2 (g := gV8) (x := .bool g2) (y := .slice A2 n2 c2) (t := 24) rfl rfl (by rfl) (fun w hb => ?_) V8.out (by rfl) fun ws hk hs => ?_
        · have c0 := hb.cell (o := 0) (v := .bool false) rfl; have f0 := hb.free 0; have c1 := hb.cell (o := 1) (v := .slice none 0 0) rfl; have f1 := hb.free 1; go_simp
        intro hbx
        replace E := hid (E.out.keptG hk HGV8.out)
        replace Ba := hid (Ba.out.kept hk (by simpa using HNV8Ba.out.symm))
        replace Bb := hid (Bb.out.kept hk (by simpa using HNV8Bb.out.symm))
        replace Bc := hid (Bc.out.kept hk (by simpa using HNV8Bc.out.symm))
        replace V7 := hid (V7.out.kept hk (by simpa using HNV8V7.out.symm))
        replace V8 := hid hbx
        replace Na := hid (Na.out.kz hs)
        replace Nb := hid (Nb.out.kz hs)
        replace Nc := hid (Nc.out.kz hs)
        replace Ra := hid (Ra.out.kz hs)
        replace Rb := hid (Rb.out.kz hs)
        replace Rc := hid (Rc.out.kz hs)
        replace Q1 := hid (Q1.out.kz hs)
        replace Q2 := hid (Q2.out.kz hs)
        clear hk hs hbx
        refine WE.done ?_
        go_upto_region 6 with (fail)
        refine wp_region_T [(0, 0), (1, 0), (2, 1), (3, 1), (4, 4)] (by kernel_rfl) fun wd hb => ?_
        replace E := hid (E.out.trans hb)
        replace Ba := hid (Ba.out.up hb)
        replace Bb := hid (Bb.out.up hb)
        replace Bc := hid (Bc.out.up hb)
        replace V7 := hid (V7.out.up hb)
        replace V8 := hid (V8.out.up hb)
        replace Na := hid (Na.out.up hb)
        replace Nb := hid (Nb.out.up hb)
        replace Nc := hid (Nc.out.up hb)
        replace Ra := hid (Ra.out.up hb)
        replace Rb := hid (Rb.out.up hb)
        replace Rc := hid (Rc.out.up hb)
        replace Q1 := hid (Q1.out.up hb)
        replace Q2 := hid (Q2.out.up hb)
        clear hb
        refine WE.pure (d := some 52) rfl rfl (by rfl) (v := (.agg #[.bool g1, .slice A1 n1 c1])) (fun w' hk => ?_) ?_
        · have c0 := hk.cell (V7.out.cell (o := 0) (v := .bool g1) rfl); have c1 := hk.cell (V7.out.cell (o := 1) (v := .slice A1 n1 c1) rfl); go_simp
        simp only [Act.put, List.setIfInBounds_toArray, List.set_cons_zero, List.set_cons_succ]
        refine WE.pure (d := some 53) rfl rfl (by rfl) (v := (.agg #[.bool g2, .slice A2 n2 c2])) (fun w' hk => ?_) ?_
        · have c0 := hk.cell (V8.out.cell (o := 0) (v := .bool g2) rfl); have c1 := hk.cell (V8.out.cell (o := 1) (v := .slice A2 n2 c2) rfl); go_simp
        simp only [Act.put, List.setIfInBounds_toArray, List.set_cons_zero, List.set_cons_succ]
        refine WE.call (d := some 54) rfl rfl (by rfl) (f := 12) (args := #[(.agg #[.bool g1, .slice A1 n1 c1]), (.agg #[.bool g2, .slice A2 n2 c2])]) (by go_simp) ?_
        refine (gOf_w (Worth.wide Q1.out.worth (k := 20) (by omega)) (Worth.wide Q2.out.worth (k := 20) (by omega)) (by omega)).mono ?_
        rintro e wn ⟨v1, rfl, x1, hb⟩
        obtain ⟨g3, A3, n3, c3, rfl⟩ := x1.shape
        refine ⟨_, rfl, hb, ?_⟩
        replace E := hid (E.out.trans hb)
        replace Ba := hid (Ba.out.up hb)
        replace Bb := hid (Bb.out.up hb)
        replace Bc := hid (Bc.out.up hb)
        replace V7 := hid (V7.out.up hb)
        replace V8 := hid (V8.out.up hb)
        replace Na := hid (Na.out.up hb)
        replace Nb := hid (Nb.out.up hb)
        replace Nc := hid (Nc.out.up hb)
        replace Ra := hid (Ra.out.up hb)
        replace Rb := hid (Rb.out.up hb)
        replace Rc := hid (Rc.out.up hb)
        replace Q1 := hid (Q1.out.up hb)
        replace Q2 := hid (Q2.out.up hb)
        have Q3 := hid x1
        clear hb x1
        simp only [Act.put, List.setIfInBounds_toArray, List.set_cons_zero, List.set_cons_succ]
        refine WE.new (d := some 9) (cs := #[.bool false, .slice none 0 0]) (t := 24) (v := fun g => (.pointer (some ⟨g, 0, none⟩))) rfl rfl (by rfl) (fun w => by go_simp) fun gV9 wv hx0 hbox hge => ?_
        have HNV9Ba := hid (show gV9 ≠ (W.heap.size) by have := Ba.out.lt; omega)
        have HNV9Bb := hid (show gV9 ≠ (W.heap.size + 1) by have := Bb.out.lt; omega)
        have HNV9Bc := hid (show gV9 ≠ (W.heap.size + 2) by have := Bc.out.lt; omega)
        have HNV9V7 := hid (show gV9 ≠ gV7 by have := V7.out.lt; omega)
        have HNV9V8 := hid (show gV9 ≠ gV8 by have := V8.out.lt; omega)
        have HGV9 := hid (show W.heap.size ≤ gV9 by have := E.out.size; omega)
        replace E := hid (E.out.trans hx0)
        replace Ba := hid (Ba.out.up hx0)
        replace Bb := hid (Bb.out.up hx0)
        replace Bc := hid (Bc.out.up hx0)
        replace V7 := hid (V7.out.up hx0)
        replace V8 := hid (V8.out.up hx0)
        replace Na := hid (Na.out.up hx0)
        replace Nb := hid (Nb.out.up hx0)
        replace Nc := hid (Nc.out.up hx0)
        replace Ra := hid (Ra.out.up hx0)
        replace Rb := hid (Rb.out.up hx0)
        replace Rc := hid (Rc.out.up hx0)
        replace Q1 := hid (Q1.out.up hx0)
        replace Q2 := hid (Q2.out.up hx0)
        replace Q3 := hid (Q3.out.up hx0)
        have V9 : Hid (Box wv gV9 #[.bool false, .slice none 0 0] 24) := hid hbox
        clear hx0 hbox hge
        simp only [Act.put, List.setIfInBounds_toArray, List.set_cons_zero, List.set_cons_succ]
        refine WE.store2 (g := gV9) (x := .bool g3) (y := .slice A3 n3 c3) (t := 24) rfl rfl (by rfl) (fun w hb => ?_) V9.out (by rfl) fun ws hk hs => ?_
        · have c0 := hb.cell (o := 0) (v := .bool false) rfl; have f0 := hb.free 0; have c1 := hb.cell (o := 1) (v := .slice none 0 0) rfl; have f1 := hb.free 1; go_simp
        intro hbx
        replace E := hid (E.out.keptG hk HGV9.out)
        replace Ba := hid (Ba.out.kept hk (by simpa using HNV9Ba.out.symm))
        replace Bb := hid (Bb.out.kept hk (by simpa using HNV9Bb.out.symm))
        replace Bc := hid (Bc.out.kept hk (by simpa using HNV9Bc.out.symm))
        replace V7 := hid (V7.out.kept hk (by simpa using HNV9V7.out.symm))
        replace V8 := hid (V8.out.kept hk (by simpa using HNV9V8.out.symm))
        replace V9 := hid hbx
        replace Na := hid (Na.out.kz hs)
        replace Nb := hid (Nb.out.kz hs)
        replace Nc := hid (Nc.out.kz hs)
        replace Ra := hid (Ra.out.kz hs)
        replace Rb := hid (Rb.out.kz hs)
        replace Rc := hid (Rc.out.kz hs)
        replace Q1 := hid (Q1.out.kz hs)
        replace Q2 := hid (Q2.out.kz hs)
        replace Q3 := hid (Q3.out.kz hs)
        clear hk hs hbx
        refine WE.done ?_
        go_upto_region 7 with (fail)
        refine wp_region_T [(0, 0), (1, 0), (2, 1), (3, 0), (4, 0), (5, 0), (6, 1), (7, 1), (8, 4), (9, 4)] (by kernel_rfl) fun wd hb => ?_
        replace E := hid (E.out.trans hb)
        replace Ba := hid (Ba.out.up hb)
        replace Bb := hid (Bb.out.up hb)
        replace Bc := hid (Bc.out.up hb)
        replace V7 := hid (V7.out.up hb)
        replace V8 := hid (V8.out.up hb)
        replace V9 := hid (V9.out.up hb)
        replace Na := hid (Na.out.up hb)
        replace Nb := hid (Nb.out.up hb)
        replace Nc := hid (Nc.out.up hb)
        replace Ra := hid (Ra.out.up hb)
        replace Rb := hid (Rb.out.up hb)
        replace Rc := hid (Rc.out.up hb)
        replace Q1 := hid (Q1.out.up hb)
        replace Q2 := hid (Q2.out.up hb)
        replace Q3 := hid (Q3.out.up hb)
        clear hb
        refine WE.pure (d := some 56) rfl rfl (by rfl) (v := (.agg #[.bool g3, .slice A3 n3 c3])) (fun w' hk => ?_) ?_
        · have c0 := hk.cell (V9.out.cell (o := 0) (v := .bool g3) rfl); have c1 := hk.cell (V9.out.cell (o := 1) (v := .slice A3 n3 c3) rfl); go_simp
        simp only [Act.put, List.setIfInBounds_toArray, List.set_cons_zero, List.set_cons_succ]
        refine WE.pure (d := some 57) rfl rfl (by rfl) (v := (.agg #[.bool gc, .slice Ac nc cc])) (fun w' hk => ?_) ?_
        · have c0 := hk.cell (Bc.out.cell (o := 0) (v := .bool gc) rfl); have c1 := hk.cell (Bc.out.cell (o := 1) (v := .slice Ac nc cc) rfl); go_simp
        simp only [Act.put, List.setIfInBounds_toArray, List.set_cons_zero, List.set_cons_succ]
        as_aux_lemma =>
          refine WE.call (d := some 58) rfl rfl (by rfl) (f := 24) (args := #[(.agg #[.bool g3, .slice A3 n3 c3]), (.agg #[.bool gc, .slice Ac nc cc])]) (by go_simp) ?_
          refine (rFloor_w Q3.out.worth Rc.out (by omega) (by omega)).mono ?_
          rintro e wn ⟨v1, v2, rfl, x1, x2, hb⟩
          obtain ⟨g4, A4, n4, c4, rfl⟩ := x1.shape
          obtain ⟨g5, A5, n5, c5, rfl⟩ := x2.shape
          refine ⟨_, rfl, hb, ?_⟩
          replace E := hid (E.out.trans hb)
          replace Ba := hid (Ba.out.up hb)
          replace Bb := hid (Bb.out.up hb)
          replace Bc := hid (Bc.out.up hb)
          replace V7 := hid (V7.out.up hb)
          replace V8 := hid (V8.out.up hb)
          replace V9 := hid (V9.out.up hb)
          replace Na := hid (Na.out.up hb)
          replace Nb := hid (Nb.out.up hb)
          replace Nc := hid (Nc.out.up hb)
          replace Ra := hid (Ra.out.up hb)
          replace Rb := hid (Rb.out.up hb)
          replace Rc := hid (Rc.out.up hb)
          replace Q1 := hid (Q1.out.up hb)
          replace Q2 := hid (Q2.out.up hb)
          replace Q3 := hid (Q3.out.up hb)
          have Q4 := hid x1
          have Q5 := hid x2
          clear hb x1 x2
          simp only [Act.put, List.setIfInBounds_toArray, List.set_cons_zero, List.set_cons_succ]
          refine WE.pure (d := some 55) rfl rfl (by rfl) (v := (.tuple #[(.agg #[.bool g4, .slice A4 n4 c4]), (.agg #[.bool g5, .slice A5 n5 c5])])) (fun w' hk => ?_) ?_
          · go_simp
          simp only [Act.put, List.setIfInBounds_toArray, List.set_cons_zero, List.set_cons_succ]
          refine WE.pure (d := some 59) rfl rfl (by rfl) (v := (.agg #[.bool g4, .slice A4 n4 c4])) (fun w' hk => ?_) ?_
          · go_simp
          simp only [Act.put, List.setIfInBounds_toArray, List.set_cons_zero, List.set_cons_succ]
          refine WE.pure (d := some 60) rfl rfl (by rfl) (v := (.agg #[.bool g5, .slice A5 n5 c5])) (fun w' hk => ?_) ?_
          · go_simp
          simp only [Act.put, List.setIfInBounds_toArray, List.set_cons_zero, List.set_cons_succ]
          refine WE.new (d := some 10) (cs := #[.bool false, .slice none 0 0]) (t := 24) (v := fun g => (.pointer (some ⟨g, 0, none⟩))) rfl rfl (by rfl) (fun w => by go_simp) fun gV10 wv hx0 hbox hge => ?_
          have HNV10Ba := hid (show gV10 ≠ (W.heap.size) by have := Ba.out.lt; omega)
          have HNV10Bb := hid (show gV10 ≠ (W.heap.size + 1) by have := Bb.out.lt; omega)
          have HNV10Bc := hid (show gV10 ≠ (W.heap.size + 2) by have := Bc.out.lt; omega)
          have HNV10V7 := hid (show gV10 ≠ gV7 by have := V7.out.lt; omega)
          have HNV10V8 := hid (show gV10 ≠ gV8 by have := V8.out.lt; omega)
          have HNV10V9 := hid (show gV10 ≠ gV9 by have := V9.out.lt; omega)
          have HGV10 := hid (show W.heap.size ≤ gV10 by have := E.out.size; omega)
          replace E := hid (E.out.trans hx0)
          replace Ba := hid (Ba.out.up hx0)
          replace Bb := hid (Bb.out.up hx0)
          replace Bc := hid (Bc.out.up hx0)
          replace V7 := hid (V7.out.up hx0)
          replace V8 := hid (V8.out.up hx0)
          replace V9 := hid (V9.out.up hx0)
          replace Na := hid (Na.out.up hx0)
          replace Nb := hid (Nb.out.up hx0)
          replace Nc := hid (Nc.out.up hx0)
          replace Ra := hid (Ra.out.up hx0)
          replace Rb := hid (Rb.out.up hx0)
          replace Rc := hid (Rc.out.up hx0)
          replace Q1 := hid (Q1.out.up hx0)
          replace Q2 := hid (Q2.out.up hx0)
          replace Q3 := hid (Q3.out.up hx0)
          replace Q4 := hid (Q4.out.up hx0)
          replace Q5 := hid (Q5.out.up hx0)
          have V10 : Hid (Box wv gV10 #[.bool false, .slice none 0 0] 24) := hid hbox
          clear hx0 hbox hge
          simp only [Act.put, List.setIfInBounds_toArray, List.set_cons_zero, List.set_cons_succ]
          refine WE.new (d := some 11) (cs := #[.bool false, .slice none 0 0]) (t := 24) (v := fun g => (.pointer (some ⟨g, 0, none⟩))) rfl rfl (by rfl) (fun w => by go_simp) fun gV11 wv hx0 hbox hge => ?_
          have HNV11Ba := hid (show gV11 ≠ (W.heap.size) by have := Ba.out.lt; omega)
          have HNV11Bb := hid (show gV11 ≠ (W.heap.size + 1) by have := Bb.out.lt; omega)
          have HNV11Bc := hid (show gV11 ≠ (W.heap.size + 2) by have := Bc.out.lt; omega)
          have HNV11V7 := hid (show gV11 ≠ gV7 by have := V7.out.lt; omega)
          have HNV11V8 := hid (show gV11 ≠ gV8 by have := V8.out.lt; omega)
          have HNV11V9 := hid (show gV11 ≠ gV9 by have := V9.out.lt; omega)
          have HNV11V10 := hid (show gV11 ≠ gV10 by have := V10.out.lt; omega)
          have HGV11 := hid (show W.heap.size ≤ gV11 by have := E.out.size; omega)
          replace E := hid (E.out.trans hx0)
          replace Ba := hid (Ba.out.up hx0)
          replace Bb := hid (Bb.out.up hx0)
          replace Bc := hid (Bc.out.up hx0)
          replace V7 := hid (V7.out.up hx0)
          replace V8 := hid (V8.out.up hx0)
          replace V9 := hid (V9.out.up hx0)
          replace V10 := hid (V10.out.up hx0)
          replace Na := hid (Na.out.up hx0)
          replace Nb := hid (Nb.out.up hx0)
          replace Nc := hid (Nc.out.up hx0)
          replace Ra := hid (Ra.out.up hx0)
          replace Rb := hid (Rb.out.up hx0)
          replace Rc := hid (Rc.out.up hx0)
          replace Q1 := hid (Q1.out.up hx0)
          replace Q2 := hid (Q2.out.up hx0)
          replace Q3 := hid (Q3.out.up hx0)
          replace Q4 := hid (Q4.out.up hx0)
          replace Q5 := hid (Q5.out.up hx0)
          have V11 : Hid (Box wv gV11 #[.bool false, .slice none 0 0] 24) := hid hbox
          clear hx0 hbox hge
          simp only [Act.put, List.setIfInBounds_toArray, List.set_cons_zero, List.set_cons_succ]
          refine WE.store2 (g := gV10) (x := .bool g4) (y := .slice A4 n4 c4) (t := 24) rfl rfl (by rfl) (fun w hb => ?_) V10.out (by rfl) fun ws hk hs => ?_
          · have c0 := hb.cell (o := 0) (v := .bool false) rfl; have f0 := hb.free 0; have c1 := hb.cell (o := 1) (v := .slice none 0 0) rfl; have f1 := hb.free 1; go_simp
          intro hbx
          replace E := hid (E.out.keptG hk HGV10.out)
          replace Ba := hid (Ba.out.kept hk (by simpa using HNV10Ba.out.symm))
          replace Bb := hid (Bb.out.kept hk (by simpa using HNV10Bb.out.symm))
          replace Bc := hid (Bc.out.kept hk (by simpa using HNV10Bc.out.symm))
          replace V7 := hid (V7.out.kept hk (by simpa using HNV10V7.out.symm))
          replace V8 := hid (V8.out.kept hk (by simpa using HNV10V8.out.symm))
          replace V9 := hid (V9.out.kept hk (by simpa using HNV10V9.out.symm))
          replace V10 := hid hbx
          replace V11 := hid (V11.out.kept hk (by simpa using HNV11V10.out))
          replace Na := hid (Na.out.kz hs)
          replace Nb := hid (Nb.out.kz hs)
          replace Nc := hid (Nc.out.kz hs)
          replace Ra := hid (Ra.out.kz hs)
          replace Rb := hid (Rb.out.kz hs)
          replace Rc := hid (Rc.out.kz hs)
          replace Q1 := hid (Q1.out.kz hs)
          replace Q2 := hid (Q2.out.kz hs)
          replace Q3 := hid (Q3.out.kz hs)
          replace Q4 := hid (Q4.out.kz hs)
          replace Q5 := hid (Q5.out.kz hs)
          clear hk hs hbx
          refine WE.store2 (g := gV11) (x := .bool g5) (y := .slice A5 n5 c5) (t := 24) rfl rfl (by rfl) (fun w hb => ?_) V11.out (by rfl) fun ws hk hs => ?_
          · have c0 := hb.cell (o := 0) (v := .bool false) rfl; have f0 := hb.free 0; have c1 := hb.cell (o := 1) (v := .slice none 0 0) rfl; have f1 := hb.free 1; go_simp
          intro hbx
          replace E := hid (E.out.keptG hk HGV11.out)
          replace Ba := hid (Ba.out.kept hk (by simpa using HNV11Ba.out.symm))
          replace Bb := hid (Bb.out.kept hk (by simpa using HNV11Bb.out.symm))
          replace Bc := hid (Bc.out.kept hk (by simpa using HNV11Bc.out.symm))
          replace V7 := hid (V7.out.kept hk (by simpa using HNV11V7.out.symm))
          replace V8 := hid (V8.out.kept hk (by simpa using HNV11V8.out.symm))
          replace V9 := hid (V9.out.kept hk (by simpa using HNV11V9.out.symm))
          replace V10 := hid (V10.out.kept hk (by simpa using HNV11V10.out.symm))
          replace V11 := hid hbx
          replace Na := hid (Na.out.kz hs)
          replace Nb := hid (Nb.out.kz hs)
          replace Nc := hid (Nc.out.kz hs)
          replace Ra := hid (Ra.out.kz hs)
          replace Rb := hid (Rb.out.kz hs)
          replace Rc := hid (Rc.out.kz hs)
          replace Q1 := hid (Q1.out.kz hs)
          replace Q2 := hid (Q2.out.kz hs)
          replace Q3 := hid (Q3.out.kz hs)
          replace Q4 := hid (Q4.out.kz hs)
          replace Q5 := hid (Q5.out.kz hs)
          clear hk hs hbx
          refine WE.done ?_
          go_upto_region 8 with (fail)
          refine wp_region_E [(0, 0), (1, 1), (2, 0), (3, 0), (4, 0), (5, 1), (6, 0), (7, 0), (8, 0), (9, 0), (10, 0), (11, 0), (13, 0), (12, 1), (14, 1), (15, 1), (16, 1), (17, 0), (18, 0)] (fun _ => (0, #[])) rfl (by kernel_rfl) (by intro j hj; cases hj) (fun _ _ d _ _ => by cases d <;> exact Iff.rfl) fun wd hb => ?_
          replace E := hid (E.out.trans hb)
          replace Ba := hid (Ba.out.up hb)
          replace Bb := hid (Bb.out.up hb)
          replace Bc := hid (Bc.out.up hb)
          replace V7 := hid (V7.out.up hb)
          replace V8 := hid (V8.out.up hb)
          replace V9 := hid (V9.out.up hb)
          replace V10 := hid (V10.out.up hb)
          replace V11 := hid (V11.out.up hb)
          replace Na := hid (Na.out.up hb)
          replace Nb := hid (Nb.out.up hb)
          replace Nc := hid (Nc.out.up hb)
          replace Ra := hid (Ra.out.up hb)
          replace Rb := hid (Rb.out.up hb)
          replace Rc := hid (Rc.out.up hb)
          replace Q1 := hid (Q1.out.up hb)
          replace Q2 := hid (Q2.out.up hb)
          replace Q3 := hid (Q3.out.up hb)
          replace Q4 := hid (Q4.out.up hb)
          replace Q5 := hid (Q5.out.up hb)
          clear hb
          refine WE.pure (d := some 61) rfl rfl (by rfl) (v := (.agg #[.bool g5, .slice A5 n5 c5])) (fun w' hk => ?_) ?_
          · have c0 := hk.cell (V11.out.cell (o := 0) (v := .bool g5) rfl); have c1 := hk.cell (V11.out.cell (o := 1) (v := .slice A5 n5 c5) rfl); go_simp
          simp only [Act.put, List.setIfInBounds_toArray, List.set_cons_zero, List.set_cons_succ]
          refine WE.call (d := some 62) rfl rfl (by rfl) (f := 20) (args := #[(.agg #[.bool g5, .slice A5 n5 c5])]) (by go_simp) ?_
          refine (rSign_w Q5.out.worth (s := 0) (by rw [M.gcd_rest]; rfl)).mono ?_
          rintro e wn ⟨rfl, hb⟩
          refine ⟨_, rfl, hb, ?_⟩
          replace E := hid (E.out.trans hb)
          replace Ba := hid (Ba.out.up hb)
          replace Bb := hid (Bb.out.up hb)
          replace Bc := hid (Bc.out.up hb)
          replace V7 := hid (V7.out.up hb)
          replace V8 := hid (V8.out.up hb)
          replace V9 := hid (V9.out.up hb)
          replace V10 := hid (V10.out.up hb)
          replace V11 := hid (V11.out.up hb)
          replace Na := hid (Na.out.up hb)
          replace Nb := hid (Nb.out.up hb)
          replace Nc := hid (Nc.out.up hb)
          replace Ra := hid (Ra.out.up hb)
          replace Rb := hid (Rb.out.up hb)
          replace Rc := hid (Rc.out.up hb)
          replace Q1 := hid (Q1.out.up hb)
          replace Q2 := hid (Q2.out.up hb)
          replace Q3 := hid (Q3.out.up hb)
          replace Q4 := hid (Q4.out.up hb)
          replace Q5 := hid (Q5.out.up hb)
          clear hb
          simp only [Act.put, List.setIfInBounds_toArray, List.set_cons_zero, List.set_cons_succ]
          refine WE.pure (d := some 63) rfl rfl (by rfl) (v := (.bool false)) (fun w' hk => ?_) ?_
          · go_simp
          simp only [Act.put, List.setIfInBounds_toArray, List.set_cons_zero, List.set_cons_succ]
          refine WE.pure (d := some 64) rfl rfl (by rfl) (v := (.bool false)) (fun w' hk => ?_) ?_
          · go_simp
          simp only [Act.put, List.setIfInBounds_toArray, List.set_cons_zero, List.set_cons_succ]
          as_aux_lemma =>
            refine WE.pure (d := some 65) rfl rfl (by rfl) (v := (.agg #[.bool g3, .slice A3 n3 c3])) (fun w' hk => ?_) ?_
            · have c0 := hk.cell (V9.out.cell (o := 0) (v := .bool g3) rfl); have c1 := hk.cell (V9.out.cell (o := 1) (v := .slice A3 n3 c3) rfl); go_simp
            simp only [Act.put, List.setIfInBounds_toArray, List.set_cons_zero, List.set_cons_succ]
            refine WE.call (d := some 66) rfl rfl (by rfl) (f := 20) (args := #[(.agg #[.bool g3, .slice A3 n3 c3])]) (by go_simp) ?_
            refine (rSign_w Q3.out.worth (s := sg) (HSG.out)).mono ?_
            rintro e wn ⟨rfl, hb⟩
            refine ⟨_, rfl, hb, ?_⟩
            replace E := hid (E.out.trans hb)
            replace Ba := hid (Ba.out.up hb)
            replace Bb := hid (Bb.out.up hb)
            replace Bc := hid (Bc.out.up hb)
            replace V7 := hid (V7.out.up hb)
            replace V8 := hid (V8.out.up hb)
            replace V9 := hid (V9.out.up hb)
            replace V10 := hid (V10.out.up hb)
            replace V11 := hid (V11.out.up hb)
            replace Na := hid (Na.out.up hb)
            replace Nb := hid (Nb.out.up hb)
            replace Nc := hid (Nc.out.up hb)
            replace Ra := hid (Ra.out.up hb)
            replace Rb := hid (Rb.out.up hb)
            replace Rc := hid (Rc.out.up hb)
            replace Q1 := hid (Q1.out.up hb)
            replace Q2 := hid (Q2.out.up hb)
            replace Q3 := hid (Q3.out.up hb)
            replace Q4 := hid (Q4.out.up hb)
            replace Q5 := hid (Q5.out.up hb)
            clear hb
            simp only [Act.put, List.setIfInBounds_toArray, List.set_cons_zero, List.set_cons_succ]
            refine WE.pure (d := some 67) rfl rfl (by rfl) (v := (.bool false)) (fun w' hk => ?_) ?_
            · go_simp
            simp only [Act.put, List.setIfInBounds_toArray, List.set_cons_zero, List.set_cons_succ]
            refine WE.pure (d := some 68) rfl rfl (by rfl) (v := (.bool false)) (fun w' hk => ?_) ?_
            · go_simp
            simp only [Act.put, List.setIfInBounds_toArray, List.set_cons_zero, List.set_cons_succ]
            refine WE.pure (d := some 69) rfl rfl (by rfl) (v := (.bool false)) (fun w' hk => ?_) ?_
            · go_simp
            simp only [Act.put, List.setIfInBounds_toArray, List.set_cons_zero, List.set_cons_succ]
            refine WE.pure (d := some 70) rfl rfl (by rfl) (v := (.agg #[.bool g3, .slice A3 n3 c3])) (fun w' hk => ?_) ?_
            · have c0 := hk.cell (V9.out.cell (o := 0) (v := .bool g3) rfl); have c1 := hk.cell (V9.out.cell (o := 1) (v := .slice A3 n3 c3) rfl); go_simp
            simp only [Act.put, List.setIfInBounds_toArray, List.set_cons_zero, List.set_cons_succ]
            refine WE.pure (d := some 71) rfl rfl (by rfl) (v := (.agg #[.bool ga, .slice Aa na ca])) (fun w' hk => ?_) ?_
            · have c0 := hk.cell (Ba.out.cell (o := 0) (v := .bool ga) rfl); have c1 := hk.cell (Ba.out.cell (o := 1) (v := .slice Aa na ca) rfl); go_simp
            simp only [Act.put, List.setIfInBounds_toArray, List.set_cons_zero, List.set_cons_succ]
            refine WE.pure (d := some 72) rfl rfl (by rfl) (v := (.agg #[.bool gb, .slice Ab nb cb])) (fun w' hk => ?_) ?_
            · have c0 := hk.cell (Bb.out.cell (o := 0) (v := .bool gb) rfl); have c1 := hk.cell (Bb.out.cell (o := 1) (v := .slice Ab nb cb) rfl); go_simp
            simp only [Act.put, List.setIfInBounds_toArray, List.set_cons_zero, List.set_cons_succ]
            refine WE.pure (d := some 74) rfl rfl (by rfl) (v := (.agg #[.bool gc, .slice Ac nc cc])) (fun w' hk => ?_) ?_
            · have c0 := hk.cell (Bc.out.cell (o := 0) (v := .bool gc) rfl); have c1 := hk.cell (Bc.out.cell (o := 1) (v := .slice Ac nc cc) rfl); go_simp
            simp only [Act.put, List.setIfInBounds_toArray, List.set_cons_zero, List.set_cons_succ]
            refine WE.call (d := some 73) rfl rfl (by rfl) (f := 12) (args := #[(.agg #[.bool ga, .slice Aa na ca]), (.agg #[.bool gb, .slice Ab nb cb])]) (by go_simp) ?_
            refine (gOf_w (Worth.wide Ra.out (k := 20) (by omega)) (Worth.wide Rb.out (k := 20) (by omega)) (by omega)).mono ?_
            rintro e wn ⟨v1, rfl, x1, hb⟩
            obtain ⟨g6, A6, n6, c6, rfl⟩ := x1.shape
            refine ⟨_, rfl, hb, ?_⟩
            replace E := hid (E.out.trans hb)
            replace Ba := hid (Ba.out.up hb)
            replace Bb := hid (Bb.out.up hb)
            replace Bc := hid (Bc.out.up hb)
            replace V7 := hid (V7.out.up hb)
            replace V8 := hid (V8.out.up hb)
            replace V9 := hid (V9.out.up hb)
            replace V10 := hid (V10.out.up hb)
            replace V11 := hid (V11.out.up hb)
            replace Na := hid (Na.out.up hb)
            replace Nb := hid (Nb.out.up hb)
            replace Nc := hid (Nc.out.up hb)
            replace Ra := hid (Ra.out.up hb)
            replace Rb := hid (Rb.out.up hb)
            replace Rc := hid (Rc.out.up hb)
            replace Q1 := hid (Q1.out.up hb)
            replace Q2 := hid (Q2.out.up hb)
            replace Q3 := hid (Q3.out.up hb)
            replace Q4 := hid (Q4.out.up hb)
            replace Q5 := hid (Q5.out.up hb)
            have Q6 := hid x1
            clear hb x1
            simp only [Act.put, List.setIfInBounds_toArray, List.set_cons_zero, List.set_cons_succ]
            refine WE.call (d := some 75) rfl rfl (by rfl) (f := 22) (args := #[(.agg #[.bool gc, .slice Ac nc cc])]) (by go_simp) ?_
            refine (rAbs_w Rc.out).mono ?_
            rintro e wn ⟨v1, rfl, x1, hb⟩
            obtain ⟨g7, A7, n7, c7, rfl⟩ := x1.shape
            refine ⟨_, rfl, hb, ?_⟩
            replace E := hid (E.out.trans hb)
            replace Ba := hid (Ba.out.up hb)
            replace Bb := hid (Bb.out.up hb)
            replace Bc := hid (Bc.out.up hb)
            replace V7 := hid (V7.out.up hb)
            replace V8 := hid (V8.out.up hb)
            replace V9 := hid (V9.out.up hb)
            replace V10 := hid (V10.out.up hb)
            replace V11 := hid (V11.out.up hb)
            replace Na := hid (Na.out.up hb)
            replace Nb := hid (Nb.out.up hb)
            replace Nc := hid (Nc.out.up hb)
            replace Ra := hid (Ra.out.up hb)
            replace Rb := hid (Rb.out.up hb)
            replace Rc := hid (Rc.out.up hb)
            replace Q1 := hid (Q1.out.up hb)
            replace Q2 := hid (Q2.out.up hb)
            replace Q3 := hid (Q3.out.up hb)
            replace Q4 := hid (Q4.out.up hb)
            replace Q5 := hid (Q5.out.up hb)
            replace Q6 := hid (Q6.out.up hb)
            have Q7 := hid x1
            clear hb x1
            simp only [Act.put, List.setIfInBounds_toArray, List.set_cons_zero, List.set_cons_succ]
            refine WE.call (d := some 76) rfl rfl (by rfl) (f := 19) (args := #[(.agg #[.bool g6, .slice A6 n6 c6]), (.agg #[.bool g7, .slice A7 n7 c7])]) (by go_simp) ?_
            refine (rMul_w Q6.out.worth Q7.out.worth (by omega) (by omega)).mono ?_
            rintro e wn ⟨v1, rfl, x1, hb⟩
            obtain ⟨g8, A8, n8, c8, rfl⟩ := x1.shape
            refine ⟨_, rfl, hb, ?_⟩
            replace E := hid (E.out.trans hb)
            replace Ba := hid (Ba.out.up hb)
            replace Bb := hid (Bb.out.up hb)
            replace Bc := hid (Bc.out.up hb)
            replace V7 := hid (V7.out.up hb)
            replace V8 := hid (V8.out.up hb)
            replace V9 := hid (V9.out.up hb)
            replace V10 := hid (V10.out.up hb)
            replace V11 := hid (V11.out.up hb)
            replace Na := hid (Na.out.up hb)
            replace Nb := hid (Nb.out.up hb)
            replace Nc := hid (Nc.out.up hb)
            replace Ra := hid (Ra.out.up hb)
            replace Rb := hid (Rb.out.up hb)
            replace Rc := hid (Rc.out.up hb)
            replace Q1 := hid (Q1.out.up hb)
            replace Q2 := hid (Q2.out.up hb)
            replace Q3 := hid (Q3.out.up hb)
            replace Q4 := hid (Q4.out.up hb)
            replace Q5 := hid (Q5.out.up hb)
            replace Q6 := hid (Q6.out.up hb)
            replace Q7 := hid (Q7.out.up hb)
            have Q8 := hid x1
            clear hb x1
            simp only [Act.put, List.setIfInBounds_toArray, List.set_cons_zero, List.set_cons_succ]
            clear Q6
            clear Q7
            as_aux_lemma =>
              refine WE.call (d := some 77) rfl rfl (by rfl) (f := 11) (args := #[(.agg #[.bool g3, .slice A3 n3 c3]), (.agg #[.bool g8, .slice A8 n8 c8])]) (by go_simp) ?_
              refine (equal_z (IsZ.to Q3.out (rfl)) (IsZ.to Q8.out ((M.gcd_mul _ _ _).symm))).mono ?_
              rintro e wn ⟨rfl, hb⟩
              refine ⟨_, rfl, hb, ?_⟩
              replace E := hid (E.out.trans hb)
              replace Ba := hid (Ba.out.up hb)
              replace Bb := hid (Bb.out.up hb)
              replace Bc := hid (Bc.out.up hb)
              replace V7 := hid (V7.out.up hb)
              replace V8 := hid (V8.out.up hb)
              replace V9 := hid (V9.out.up hb)
              replace V10 := hid (V10.out.up hb)
              replace V11 := hid (V11.out.up hb)
              replace Na := hid (Na.out.up hb)
              replace Nb := hid (Nb.out.up hb)
              replace Nc := hid (Nc.out.up hb)
              replace Ra := hid (Ra.out.up hb)
              replace Rb := hid (Rb.out.up hb)
              replace Rc := hid (Rc.out.up hb)
              replace Q1 := hid (Q1.out.up hb)
              replace Q2 := hid (Q2.out.up hb)
              replace Q3 := hid (Q3.out.up hb)
              replace Q4 := hid (Q4.out.up hb)
              replace Q5 := hid (Q5.out.up hb)
              replace Q8 := hid (Q8.out.up hb)
              clear hb
              simp only [Act.put, List.setIfInBounds_toArray, List.set_cons_zero, List.set_cons_succ]
              clear Q8
              refine WE.pure (d := some 78) rfl rfl (by rfl) (v := (.bool false)) (fun w' hk => ?_) ?_
              · go_simp
              simp only [Act.put, List.setIfInBounds_toArray, List.set_cons_zero, List.set_cons_succ]
              refine WE.pure (d := some 79) rfl rfl (by rfl) (v := (.bool false)) (fun w' hk => ?_) ?_
              · go_simp
              simp only [Act.put, List.setIfInBounds_toArray, List.set_cons_zero, List.set_cons_succ]
              refine WE.done ?_
              go_upto_region 10 with (fail)
              refine wp_region_T [(0, 0), (1, 1), (2, 0)] (by kernel_rfl) fun wd hb => ?_
              replace E := hid (E.out.trans hb)
              replace Ba := hid (Ba.out.up hb)
              replace Bb := hid (Bb.out.up hb)
              replace Bc := hid (Bc.out.up hb)
              replace V7 := hid (V7.out.up hb)
              replace V8 := hid (V8.out.up hb)
              replace V9 := hid (V9.out.up hb)
              replace V10 := hid (V10.out.up hb)
              replace V11 := hid (V11.out.up hb)
              replace Na := hid (Na.out.up hb)
              replace Nb := hid (Nb.out.up hb)
              replace Nc := hid (Nc.out.up hb)
              replace Ra := hid (Ra.out.up hb)
              replace Rb := hid (Rb.out.up hb)
              replace Rc := hid (Rc.out.up hb)
              replace Q1 := hid (Q1.out.up hb)
              replace Q2 := hid (Q2.out.up hb)
              replace Q3 := hid (Q3.out.up hb)
              replace Q4 := hid (Q4.out.up hb)
              replace Q5 := hid (Q5.out.up hb)
              clear hb
              refine WE.pure (d := some 80) rfl rfl (by rfl) (v := (.agg #[.bool g3, .slice A3 n3 c3])) (fun w' hk => ?_) ?_
              · have c0 := hk.cell (V9.out.cell (o := 0) (v := .bool g3) rfl); have c1 := hk.cell (V9.out.cell (o := 1) (v := .slice A3 n3 c3) rfl); go_simp
              simp only [Act.put, List.setIfInBounds_toArray, List.set_cons_zero, List.set_cons_succ]
              refine WE.call (d := some 81) rfl rfl (by rfl) (f := 20) (args := #[(.agg #[.bool g3, .slice A3 n3 c3])]) (by go_simp) ?_
              refine (rSign_w Q3.out.worth (s := sg) (HSG.out)).mono ?_
              rintro e wn ⟨rfl, hb⟩
              refine ⟨_, rfl, hb, ?_⟩
              replace E := hid (E.out.trans hb)
              replace Ba := hid (Ba.out.up hb)
              replace Bb := hid (Bb.out.up hb)
              replace Bc := hid (Bc.out.up hb)
              replace V7 := hid (V7.out.up hb)
              replace V8 := hid (V8.out.up hb)
              replace V9 := hid (V9.out.up hb)
              replace V10 := hid (V10.out.up hb)
              replace V11 := hid (V11.out.up hb)
              replace Na := hid (Na.out.up hb)
              replace Nb := hid (Nb.out.up hb)
              replace Nc := hid (Nc.out.up hb)
              replace Ra := hid (Ra.out.up hb)
              replace Rb := hid (Rb.out.up hb)
              replace Rc := hid (Rc.out.up hb)
              replace Q1 := hid (Q1.out.up hb)
              replace Q2 := hid (Q2.out.up hb)
              replace Q3 := hid (Q3.out.up hb)
              replace Q4 := hid (Q4.out.up hb)
              replace Q5 := hid (Q5.out.up hb)
              clear hb
              simp only [Act.put, List.setIfInBounds_toArray, List.set_cons_zero, List.set_cons_succ]
              refine WE.pure (d := some 82) rfl rfl (by rfl) (v := (.bool true)) (fun w' hk => ?_) ?_
              · go_simp
              simp only [Act.put, List.setIfInBounds_toArray, List.set_cons_zero, List.set_cons_succ]
              refine WE.done ?_
              go_upto_region 11 with (fail)
              refine wp_region_T [(0, 0), (1, 1), (2, 0), (3, 0), (4, 0), (5, 1), (6, 0), (7, 0), (8, 0)] (by kernel_rfl) fun wd hb => ?_
              replace E := hid (E.out.trans hb)
              replace Ba := hid (Ba.out.up hb)
              replace Bb := hid (Bb.out.up hb)
              replace Bc := hid (Bc.out.up hb)
              replace V7 := hid (V7.out.up hb)
              replace V8 := hid (V8.out.up hb)
              replace V9 := hid (V9.out.up hb)
              replace V10 := hid (V10.out.up hb)
              replace V11 := hid (V11.out.up hb)
              replace Na := hid (Na.out.up hb)
              replace Nb := hid (Nb.out.up hb)
              replace Nc := hid (Nc.out.up hb)
              replace Ra := hid (Ra.out.up hb)
              replace Rb := hid (Rb.out.up hb)
              replace Rc := hid (Rc.out.up hb)
              replace Q1 := hid (Q1.out.up hb)
              replace Q2 := hid (Q2.out.up hb)
              replace Q3 := hid (Q3.out.up hb)
              replace Q4 := hid (Q4.out.up hb)
              replace Q5 := hid (Q5.out.up hb)
              clear hb
              refine WE.pure (d := some 83) rfl rfl (by rfl) (v := (.agg #[.bool ga, .slice Aa na ca])) (fun w' hk => ?_) ?_
              · have c0 := hk.cell (Ba.out.cell (o := 0) (v := .bool ga) rfl); have c1 := hk.cell (Ba.out.cell (o := 1) (v := .slice Aa na ca) rfl); go_simp
              simp only [Act.put, List.setIfInBounds_toArray, List.set_cons_zero, List.set_cons_succ]
              refine WE.call (d := some 84) rfl rfl (by rfl) (f := 20) (args := #[(.agg #[.bool ga, .slice Aa na ca])]) (by go_simp) ?_
              refine (rSign_w Ra.out (s := 0) (by rw [hcond.out.2.1]; rfl)).mono ?_
              rintro e wn ⟨rfl, hb⟩
              refine ⟨_, rfl, hb, ?_⟩
              replace E := hid (E.out.trans hb)
              replace Ba := hid (Ba.out.up hb)
              replace Bb := hid (Bb.out.up hb)
              replace Bc := hid (Bc.out.up hb)
              replace V7 := hid (V7.out.up hb)
              replace V8 := hid (V8.out.up hb)
              replace V9 := hid (V9.out.up hb)
              replace V10 := hid (V10.out.up hb)
              replace V11 := hid (V11.out.up hb)
              replace Na := hid (Na.out.up hb)
              replace Nb := hid (Nb.out.up hb)
              replace Nc := hid (Nc.out.up hb)
              replace Ra := hid (Ra.out.up hb)
              replace Rb := hid (Rb.out.up hb)
              replace Rc := hid (Rc.out.up hb)
              replace Q1 := hid (Q1.out.up hb)
              replace Q2 := hid (Q2.out.up hb)
              replace Q3 := hid (Q3.out.up hb)
              replace Q4 := hid (Q4.out.up hb)
              replace Q5 := hid (Q5.out.up hb)
              clear hb
              simp only [Act.put, List.setIfInBounds_toArray, List.set_cons_zero, List.set_cons_succ]
              refine WE.pure (d := some 85) rfl rfl (by rfl) (v := (.bool true)) (fun w' hk => ?_) ?_
              · go_simp
              simp only [Act.put, List.setIfInBounds_toArray, List.set_cons_zero, List.set_cons_succ]
              refine WE.pure (d := some 86) rfl rfl (by rfl) (v := (.bool true)) (fun w' hk => ?_) ?_
              · go_simp
              simp only [Act.put, List.setIfInBounds_toArray, List.set_cons_zero, List.set_cons_succ]
              refine WE.pure (d := some 87) rfl rfl (by rfl) (v := (.agg #[.bool gb, .slice Ab nb cb])) (fun w' hk => ?_) ?_
              · have c0 := hk.cell (Bb.out.cell (o := 0) (v := .bool gb) rfl); have c1 := hk.cell (Bb.out.cell (o := 1) (v := .slice Ab nb cb) rfl); go_simp
              simp only [Act.put, List.setIfInBounds_toArray, List.set_cons_zero, List.set_cons_succ]
              refine WE.call (d := some 88) rfl rfl (by rfl) (f := 20) (args := #[(.agg #[.bool gb, .slice Ab nb cb])]) (by go_simp) ?_
              refine (rSign_w Rb.out (s := 0) (by rw [hcond.out.2.2]; rfl)).mono ?_
              rintro e wn ⟨rfl, hb⟩
              refine ⟨_, rfl, hb, ?_⟩
              replace E := hid (E.out.trans hb)
              replace Ba := hid (Ba.out.up hb)
              replace Bb := hid (Bb.out.up hb)
              replace Bc := hid (Bc.out.up hb)
              replace V7 := hid (V7.out.up hb)
              replace V8 := hid (V8.out.up hb)
              replace V9 := hid (V9.out.up hb)
              replace V10 := hid (V10.out.up hb)
              replace V11 := hid (V11.out.up hb)
              replace Na := hid (Na.out.up hb)
              replace Nb := hid (Nb.out.up hb)
              replace Nc := hid (Nc.out.up hb)
              replace Ra := hid (Ra.out.up hb)
              replace Rb := hid (Rb.out.up hb)
              replace Rc := hid (Rc.out.up hb)
              replace Q1 := hid (Q1.out.up hb)
              replace Q2 := hid (Q2.out.up hb)
              replace Q3 := hid (Q3.out.up hb)
              replace Q4 := hid (Q4.out.up hb)
              replace Q5 := hid (Q5.out.up hb)
              clear hb
              simp only [Act.put, List.setIfInBounds_toArray, List.set_cons_zero, List.set_cons_succ]
              as_aux_lemma =>
                refine WE.pure (d := some 89) rfl rfl (by rfl) (v := (.bool true)) (fun w' hk => ?_) ?_
                · go_simp
                simp only [Act.put, List.setIfInBounds_toArray, List.set_cons_zero, List.set_cons_succ]
                refine WE.pure (d := some 90) rfl rfl (by rfl) (v := (.bool true)) (fun w' hk => ?_) ?_
                · go_simp
                simp only [Act.put, List.setIfInBounds_toArray, List.set_cons_zero, List.set_cons_succ]
                refine WE.pure (d := some 6) rfl rfl (by rfl) (v := (.bool true)) (fun w' hk => ?_) ?_
                · go_simp
                simp only [Act.put, List.setIfInBounds_toArray, List.set_cons_zero, List.set_cons_succ]
                refine WE.done ?_
                repeat go_step
                go_ret
                exact ⟨rfl, E.out⟩

set_option maxRecDepth 100000 in
set_option maxHeartbeats 8000000 in
theorem gcdDivides_some (W : World) (ga : Bool) (Aa : Option Addr) (na ca : Nat) (la : List Nat) (ha : Num W W.heap.size (.slice Aa na ca) la) (gb : Bool) (Ab : Option Addr) (nb cb : Nat) (lb : List Nat) (hb : Num W W.heap.size (.slice Ab nb cb) lb) (gc : Bool) (Ac : Option Addr) (nc cc : Nat) (lc : List Nat) (hc : Num W W.heap.size (.slice Ac nc cc) lc) (fa : Hid (decide (la.length ≤ 6) = true)) (fb : Hid (decide (lb.length ≤ 6) = true)) (fc : Hid (decide (lc.length ≤ 6) = true)) (ia : Hid (M.isZ ga la = true)) (ib : Hid (M.isZ gb lb = true)) (x : Int) (HX : Hid (x = M.zv ga la)) (y : Int) (HY : Hid (y = M.zv gb lb)) (z : Int) (HZ : Hid (z = M.zv gc lc)) (hcond : Hid (z ≠ 0 ∧ ¬ (x = 0 ∧ y = 0))) :
    Calls Try.prog 5 #[.agg #[.bool ga, .slice Aa na ca], .agg #[.bool gb, .slice Ab nb cb], .agg #[.bool gc, .slice Ac nc cc]] W (fun e w' => e = .returned (.bool true) ∧ Ext W w') := by
  have HNZ := hid hcond.out.1
  obtain ⟨sz, hsz⟩ : ∃ s : Int, z.sign = s := ⟨_, rfl⟩
  have HSZ := hid hsz
  have hsz0 : (sz == 0) = false := by rw [← hsz, beq_eq_false_iff_ne]; intro e; exact HNZ.out (Int.sign_eq_zero_iff_zero.1 e)
  obtain ⟨sg, hsg⟩ : ∃ s : Int, (((Int.gcd (x * z) (y * z) : Nat) : Int)).sign = s := ⟨_, rfl⟩
  have HSG := hid hsg
  have hsg0 : decide (sg < 0) = false := by rw [← hsg, decide_eq_false_iff_not]; have := Int.sign_nonneg_iff.2 (Int.natCast_nonneg (Int.gcd (x * z) (y * z))); omega
  have hsg1 : (sg == 0) = false := by rw [← hsg, beq_eq_false_iff_ne]; intro e; exact hcond.out.2 ((M.gcd_mul_zero HNZ.out).1 (Int.sign_eq_zero_iff_zero.1 e))
  clear hsz hsg
  have Na := hid ha
  have Nb := hid hb
  have Nc := hid hc
  have Ra := hid (worth_of ha (of_decide_eq_true fa.out) HX.out)
  have Rb := hid (worth_of hb (of_decide_eq_true fb.out) HY.out)
  have Rc := hid (worth_of hc (of_decide_eq_true fc.out) HZ.out)
  clear ha hb hc
  go_enter Try.func5, Try.ntmps5
  go_upto_region 1 with (fail)
  have E := hid ((((Ext.refl W).alloc' (.cells #[.bool ga, .slice Aa na ca] 24)).alloc' (.cells #[.bool gb, .slice Ab nb cb] 24)).alloc' (.cells #[.bool gc, .slice Ac nc cc] 24))
  have Ba : Hid (Box (((W.alloc (.cells #[.bool ga, .slice Aa na ca] 24)).alloc (.cells #[.bool gb, .slice Ab nb cb] 24)).alloc (.cells #[.bool gc, .slice Ac nc cc] 24)) (W.heap.size) #[.bool ga, .slice Aa na ca] 24) := hid (((Box.at_ (w := W) #[.bool ga, .slice Aa na ca] 24 (by simp)).alloc (.cells #[.bool gb, .slice Ab nb cb] 24)).alloc (.cells #[.bool gc, .slice Ac nc cc] 24))
  have Bb : Hid (Box (((W.alloc (.cells #[.bool ga, .slice Aa na ca] 24)).alloc (.cells #[.bool gb, .slice Ab nb cb] 24)).alloc (.cells #[.bool gc, .slice Ac nc cc] 24)) (W.heap.size + 1) #[.bool gb, .slice Ab nb cb] 24) := hid ((Box.at_ (w := (W.alloc (.cells #[.bool ga, .slice Aa na ca] 24))) #[.bool gb, .slice Ab nb cb] 24 (by simp)).alloc (.cells #[.bool gc, .slice Ac nc cc] 24))
  have Bc : Hid (Box (((W.alloc (.cells #[.bool ga, .slice Aa na ca] 24)).alloc (.cells #[.bool gb, .slice Ab nb cb] 24)).alloc (.cells #[.bool gc, .slice Ac nc cc] 24)) (W.heap.size + 2) #[.bool gc, .slice Ac nc cc] 24) := hid (Box.at_ (w := ((W.alloc (.cells #[.bool ga, .slice Aa na ca] 24)).alloc (.cells #[.bool gb, .slice Ab nb cb] 24))) #[.bool gc, .slice Ac nc cc] 24 (by simp))
  replace Na := hid (Na.out.up E.out)
  replace Nb := hid (Nb.out.up E.out)
  replace Nc := hid (Nc.out.up E.out)
  replace Ra := hid (Ra.out.up E.out)
  replace Rb := hid (Rb.out.up E.out)
  replace Rc := hid (Rc.out.up E.out)
  go_upto_region 1 with (fail)
  refine wp_region_T [(0, 1), (1, 0)] (by kernel_rfl) fun wd hb => ?_
  replace E := hid (E.out.trans hb)
  replace Ba := hid (Ba.out.up hb)
  replace Bb := hid (Bb.out.up hb)
  replace Bc := hid (Bc.out.up hb)
  replace Na := hid (Na.out.up hb)
  replace Nb := hid (Nb.out.up hb)
  replace Nc := hid (Nc.out.up hb)
  replace Ra := hid (Ra.out.up hb)
  replace Rb := hid (Rb.out.up hb)
  replace Rc := hid (Rc.out.up hb)
  clear hb
  refine WE.call (d := some 16) rfl rfl (by rfl) (f := 8) (args := #[]) (by go_simp) ?_
  refine (known4 _).mono ?_
  rintro e wn ⟨rfl, hb⟩
  refine ⟨_, rfl, hb, ?_⟩
  replace E := hid (E.out.trans hb)
  replace Ba := hid (Ba.out.up hb)
  replace Bb := hid (Bb.out.up hb)
  replace Bc := hid (Bc.out.up hb)
  replace Na := hid (Na.out.up hb)
  replace Nb := hid (Nb.out.up hb)
  replace Nc := hid (Nc.out.up hb)
  replace Ra := hid (Ra.out.up hb)
  replace Rb := hid (Rb.out.up hb)
  replace Rc := hid (Rc.out.up hb)
  clear hb
  simp only [Act.put, List.setIfInBounds_toArray, List.set_cons_zero, List.set_cons_succ]
  refine WE.pure (d := some 17) rfl rfl (by rfl) (v := (.bool false)) (fun w' hk => ?_) ?_
  · go_simp
  simp only [Act.put, List.setIfInBounds_toArray, List.set_cons_zero, List.set_cons_succ]
  refine WE.done ?_
  go_upto_region 3 with (fail)
  refine wp_region_T [(0, 0), (1, 1), (2, 0), (3, 0), (4, 0), (5, 1), (6, 0), (7, 0), (8, 0), (9, 0), (10, 1), (11, 0), (12, 0), (13, 0), (14, 0), (15, 1), (16, 0), (17, 0), (18, 0), (19, 0), (20, 1), (21, 0), (22, 0), (23, 0), (24, 0), (25, 1), (26, 0), (27, 0)] (by kernel_rfl) fun wd hb => ?_
  replace E := hid (E.out.trans hb)
  replace Ba := hid (Ba.out.up hb)
  replace Bb := hid (Bb.out.up hb)
  replace Bc := hid (Bc.out.up hb)
  replace Na := hid (Na.out.up hb)
  replace Nb := hid (Nb.out.up hb)
  replace Nc := hid (Nc.out.up hb)
  replace Ra := hid (Ra.out.up hb)
  replace Rb := hid (Rb.out.up hb)
  replace Rc := hid (Rc.out.up hb)
  clear hb
  refine WE.pure (d := some 18) rfl rfl (by rfl) (v := (.agg #[.bool ga, .slice Aa na ca])) (fun w' hk => ?_) ?_
  · have c0 := hk.cell (Ba.out.cell (o := 0) (v := .bool ga) rfl); have c1 := hk.cell (Ba.out.cell (o := 1) (v := .slice Aa na ca) rfl); go_simp
  simp only [Act.put, List.setIfInBounds_toArray, List.set_cons_zero, List.set_cons_succ]
  refine WE.call (d := some 19) rfl rfl (by rfl) (f := 9) (args := #[(.agg #[.bool ga, .slice Aa na ca])]) (by go_simp) ?_
  refine (few4_z Na.out fa.out).mono ?_
  rintro e wn ⟨rfl, hb⟩
  refine ⟨_, rfl, hb, ?_⟩
  replace E := hid (E.out.trans hb)
  replace Ba := hid (Ba.out.up hb)
  replace Bb := hid (Bb.out.up hb)
  replace Bc := hid (Bc.out.up hb)
  replace Na := hid (Na.out.up hb)
  replace Nb := hid (Nb.out.up hb)
  replace Nc := hid (Nc.out.up hb)
  replace Ra := hid (Ra.out.up hb)
  replace Rb := hid (Rb.out.up hb)
  replace Rc := hid (Rc.out.up hb)
  clear hb
  simp only [Act.put, List.setIfInBounds_toArray, List.set_cons_zero, List.set_cons_succ]
  refine WE.pure (d := some 20) rfl rfl (by rfl) (v := (.bool false)) (fun w' hk => ?_) ?_
  · go_simp
  simp only [Act.put, List.setIfInBounds_toArray, List.set_cons_zero, List.set_cons_succ]
  refine WE.pure (d := some 21) rfl rfl (by rfl) (v := (.bool false)) (fun w' hk => ?_) ?_
  · go_simp
  simp only [Act.put, List.setIfInBounds_toArray, List.set_cons_zero, List.set_cons_succ]
  refine WE.pure (d := some 22) rfl rfl (by rfl) (v := (.agg #[.bool gb, .slice Ab nb cb])) (fun w' hk => ?_) ?_
  · have c0 := hk.cell (Bb.out.cell (o := 0) (v := .bool gb) rfl); have c1 := hk.cell (Bb.out.cell (o := 1) (v := .slice Ab nb cb) rfl); go_simp
  simp only [Act.put, List.setIfInBounds_toArray, List.set_cons_zero, List.set_cons_succ]
  refine WE.call (d := some 23) rfl rfl (by rfl) (f := 9) (args := #[(.agg #[.bool gb, .slice Ab nb cb])]) (by go_simp) ?_
  refine (few4_z Nb.out fb.out).mono ?_
  rintro e wn ⟨rfl, hb⟩
  refine ⟨_, rfl, hb, ?_⟩
  replace E := hid (E.out.trans hb)
  replace Ba := hid (Ba.out.up hb)
  replace Bb := hid (Bb.out.up hb)
  replace Bc := hid (Bc.out.up hb)
  replace Na := hid (Na.out.up hb)
  replace Nb := hid (Nb.out.up hb)
  replace Nc := hid (Nc.out.up hb)
  replace Ra := hid (Ra.out.up hb)
  replace Rb := hid (Rb.out.up hb)
  replace Rc := hid (Rc.out.up hb)
  clear hb
  simp only [Act.put, List.setIfInBounds_toArray, List.set_cons_zero, List.set_cons_succ]
  refine WE.pure (d := some 24) rfl rfl (by rfl) (v := (.bool false)) (fun w' hk => ?_) ?_
  · go_simp
  simp only [Act.put, List.setIfInBounds_toArray, List.set_cons_zero, List.set_cons_succ]
  refine WE.pure (d := some 25) rfl rfl (by rfl) (v := (.bool false)) (fun w' hk => ?_) ?_
  · go_simp
  simp only [Act.put, List.setIfInBounds_toArray, List.set_cons_zero, List.set_cons_succ]
  refine WE.pure (d := some 26) rfl rfl (by rfl) (v := (.bool false)) (fun w' hk => ?_) ?_
  · go_simp
  simp only [Act.put, List.setIfInBounds_toArray, List.set_cons_zero, List.set_cons_succ]
  as_aux_lemma =>
    refine WE.pure (d := some 27) rfl rfl (by rfl) (v := (.agg #[.bool gc, .slice Ac nc cc])) (fun w' hk => ?_) ?_
    · have c0 := hk.cell (Bc.out.cell (o := 0) (v := .bool gc) rfl); have c1 := hk.cell (Bc.out.cell (o := 1) (v := .slice Ac nc cc) rfl); go_simp
    simp only [Act.put, List.setIfInBounds_toArray, List.set_cons_zero, List.set_cons_succ]
    refine WE.call (d := some 28) rfl rfl (by rfl) (f := 9) (args := #[(.agg #[.bool gc, .slice Ac nc cc])]) (by go_simp) ?_
    refine (few4_z Nc.out fc.out).mono ?_
    rintro e wn ⟨rfl, hb⟩
    refine ⟨_, rfl, hb, ?_⟩
    replace E := hid (E.out.trans hb)
    replace Ba := hid (Ba.out.up hb)
    replace Bb := hid (Bb.out.up hb)
    replace Bc := hid (Bc.out.up hb)
    replace Na := hid (Na.out.up hb)
    replace Nb := hid (Nb.out.up hb)
    replace Nc := hid (Nc.out.up hb)
    replace Ra := hid (Ra.out.up hb)
    replace Rb := hid (Rb.out.up hb)
    replace Rc := hid (Rc.out.up hb)
    clear hb
    simp only [Act.put, List.setIfInBounds_toArray, List.set_cons_zero, List.set_cons_succ]
    refine WE.pure (d := some 29) rfl rfl (by rfl) (v := (.bool false)) (fun w' hk => ?_) ?_
    · go_simp
    simp only [Act.put, List.setIfInBounds_toArray, List.set_cons_zero, List.set_cons_succ]
    refine WE.pure (d := some 30) rfl rfl (by rfl) (v := (.bool false)) (fun w' hk => ?_) ?_
    · go_simp
    simp only [Act.put, List.setIfInBounds_toArray, List.set_cons_zero, List.set_cons_succ]
    refine WE.pure (d := some 31) rfl rfl (by rfl) (v := (.bool false)) (fun w' hk => ?_) ?_
    · go_simp
    simp only [Act.put, List.setIfInBounds_toArray, List.set_cons_zero, List.set_cons_succ]
    refine WE.pure (d := some 32) rfl rfl (by rfl) (v := (.agg #[.bool ga, .slice Aa na ca])) (fun w' hk => ?_) ?_
    · have c0 := hk.cell (Ba.out.cell (o := 0) (v := .bool ga) rfl); have c1 := hk.cell (Ba.out.cell (o := 1) (v := .slice Aa na ca) rfl); go_simp
    simp only [Act.put, List.setIfInBounds_toArray, List.set_cons_zero, List.set_cons_succ]
    refine WE.call (d := some 33) rfl rfl (by rfl) (f := 16) (args := #[(.agg #[.bool ga, .slice Aa na ca])]) (by go_simp) ?_
    refine (rzIs_any Na.out ia.out).mono ?_
    rintro e wn ⟨rfl, hb⟩
    refine ⟨_, rfl, hb, ?_⟩
    replace E := hid (E.out.trans hb)
    replace Ba := hid (Ba.out.up hb)
    replace Bb := hid (Bb.out.up hb)
    replace Bc := hid (Bc.out.up hb)
    replace Na := hid (Na.out.up hb)
    replace Nb := hid (Nb.out.up hb)
    replace Nc := hid (Nc.out.up hb)
    replace Ra := hid (Ra.out.up hb)
    replace Rb := hid (Rb.out.up hb)
    replace Rc := hid (Rc.out.up hb)
    clear hb
    simp only [Act.put, List.setIfInBounds_toArray, List.set_cons_zero, List.set_cons_succ]
    refine WE.pure (d := some 34) rfl rfl (by rfl) (v := (.bool false)) (fun w' hk => ?_) ?_
    · go_simp
    simp only [Act.put, List.setIfInBounds_toArray, List.set_cons_zero, List.set_cons_succ]
    refine WE.pure (d := some 35) rfl rfl (by rfl) (v := (.bool false)) (fun w' hk => ?_) ?_
    · go_simp
    simp only [Act.put, List.setIfInBounds_toArray, List.set_cons_zero, List.set_cons_succ]
    refine WE.pure (d := some 36) rfl rfl (by rfl) (v := (.bool false)) (fun w' hk => ?_) ?_
    · go_simp
    simp only [Act.put, List.setIfInBounds_toArray, List.set_cons_zero, List.set_cons_succ]
    refine WE.pure (d := some 37) rfl rfl (by rfl) (v := (.agg #[.bool gb, .slice Ab nb cb])) (fun w' hk => ?_) ?_
    · have c0 := hk.cell (Bb.out.cell (o := 0) (v := .bool gb) rfl); have c1 := hk.cell (Bb.out.cell (o := 1) (v := .slice Ab nb cb) rfl); go_simp
    simp only [Act.put, List.setIfInBounds_toArray, List.set_cons_zero, List.set_cons_succ]
    refine WE.call (d := some 38) rfl rfl (by rfl) (f := 16) (args := #[(.agg #[.bool gb, .slice Ab nb cb])]) (by go_simp) ?_
    refine (rzIs_any Nb.out ib.out).mono ?_
    rintro e wn ⟨rfl, hb⟩
    refine ⟨_, rfl, hb, ?_⟩
    replace E := hid (E.out.trans hb)
    replace Ba := hid (Ba.out.up hb)
    replace Bb := hid (Bb.out.up hb)
    replace Bc := hid (Bc.out.up hb)
    replace Na := hid (Na.out.up hb)
    replace Nb := hid (Nb.out.up hb)
    replace Nc := hid (Nc.out.up hb)
    replace Ra := hid (Ra.out.up hb)
    replace Rb := hid (Rb.out.up hb)
    replace Rc := hid (Rc.out.up hb)
    clear hb
    simp only [Act.put, List.setIfInBounds_toArray, List.set_cons_zero, List.set_cons_succ]
    as_aux_lemma =>
      refine WE.pure (d := some 39) rfl rfl (by rfl) (v := (.bool false)) (fun w' hk => ?_) ?_
      · go_simp
      simp only [Act.put, List.setIfInBounds_toArray, List.set_cons_zero, List.set_cons_succ]
      refine WE.pure (d := some 40) rfl rfl (by rfl) (v := (.bool false)) (fun w' hk => ?_) ?_
      · go_simp
      simp only [Act.put, List.setIfInBounds_toArray, List.set_cons_zero, List.set_cons_succ]
      refine WE.pure (d := some 41) rfl rfl (by rfl) (v := (.bool false)) (fun w' hk => ?_) ?_
      · go_simp
      simp only [Act.put, List.setIfInBounds_toArray, List.set_cons_zero, List.set_cons_succ]
      refine WE.pure (d := some 42) rfl rfl (by rfl) (v := (.agg #[.bool gc, .slice Ac nc cc])) (fun w' hk => ?_) ?_
      · have c0 := hk.cell (Bc.out.cell (o := 0) (v := .bool gc) rfl); have c1 := hk.cell (Bc.out.cell (o := 1) (v := .slice Ac nc cc) rfl); go_simp
      simp only [Act.put, List.setIfInBounds_toArray, List.set_cons_zero, List.set_cons_succ]
      refine WE.call (d := some 43) rfl rfl (by rfl) (f := 20) (args := #[(.agg #[.bool gc, .slice Ac nc cc])]) (by go_simp) ?_
      refine (rSign_w Rc.out (s := sz) (HSZ.out)).mono ?_
      rintro e wn ⟨rfl, hb⟩
      refine ⟨_, rfl, hb, ?_⟩
      replace E := hid (E.out.trans hb)
      replace Ba := hid (Ba.out.up hb)
      replace Bb := hid (Bb.out.up hb)
      replace Bc := hid (Bc.out.up hb)
      replace Na := hid (Na.out.up hb)
      replace Nb := hid (Nb.out.up hb)
      replace Nc := hid (Nc.out.up hb)
      replace Ra := hid (Ra.out.up hb)
      replace Rb := hid (Rb.out.up hb)
      replace Rc := hid (Rc.out.up hb)
      clear hb
      simp only [Act.put, List.setIfInBounds_toArray, List.set_cons_zero, List.set_cons_succ]
      refine WE.pure (d := some 44) rfl rfl (by rfl) (v := (.bool false)) (fun w' hk => ?_) ?_
      · go_simp
      simp only [Act.put, List.setIfInBounds_toArray, List.set_cons_zero, List.set_cons_succ]
      refine WE.pure (d := some 45) rfl rfl (by rfl) (v := (.bool false)) (fun w' hk => ?_) ?_
      · go_simp
      simp only [Act.put, List.setIfInBounds_toArray, List.set_cons_zero, List.set_cons_succ]
      refine WE.done ?_
      go_upto_region 5 with (fail)
      refine wp_region_E [(0, 0), (1, 0), (3, 0), (4, 0), (2, 2), (5, 2), (6, 3), (7, 3), (8, 4), (9, 4)] (fun _ => (24, #[.bool false, .slice none 0 0])) rfl (by kernel_rfl) (by intro j hj; simp [pend] at hj; rcases hj with rfl | rfl <;> exact ⟨_, rfl, rfl, rfl, fun w => by go_simp⟩) (fun _ _ d _ _ => by cases d <;> exact Iff.rfl) fun wd hb => ?_
      replace E := hid (E.out.trans hb)
      replace Ba := hid (Ba.out.up hb)
      replace Bb := hid (Bb.out.up hb)
      replace Bc := hid (Bc.out.up hb)
      replace Na := hid (Na.out.up hb)
      replace Nb := hid (Nb.out.up hb)
      replace Nc := hid (Nc.out.up hb)
      replace Ra := hid (Ra.out.up hb)
      replace Rb := hid (Rb.out.up hb)
      replace Rc := hid (Rc.out.up hb)
      clear hb
      have HL1Ba := hid Ba.out.lt
      have HL1Bb := hid Bb.out.lt
      have HL1Bc := hid Bc.out.lt
      have HW1 := hid (show W.heap.size ≤ wd.heap.size from E.out.size)
      refine WE.pure (d := some 46) rfl rfl (by rfl) (v := (.agg #[.bool ga, .slice Aa na ca])) (fun w' hk => ?_) ?_
      · have c0 := hk.cell (Ba.out.cell (o := 0) (v := .bool ga) rfl); have c1 := hk.cell (Ba.out.cell (o := 1) (v := .slice Aa na ca) rfl); go_simp
      simp only [Act.put, List.setIfInBounds_toArray, List.set_cons_zero, List.set_cons_succ]
      refine WE.pure (d := some 47) rfl rfl (by rfl) (v := (.agg #[.bool gc, .slice Ac nc cc])) (fun w' hk => ?_) ?_
      · have c0 := hk.cell (Bc.out.cell (o := 0) (v := .bool gc) rfl); have c1 := hk.cell (Bc.out.cell (o := 1) (v := .slice Ac nc cc) rfl); go_simp
      simp only [Act.put, List.setIfInBounds_toArray, List.set_cons_zero, List.set_cons_succ]
      refine WE.pure (d := some 49) rfl rfl (by rfl) (v := (.agg #[.bool gb, .slice Ab nb cb])) (fun w' hk => ?_) ?_
      · have c0 := hk.cell (Bb.out.cell (o := 0) (v := .bool gb) rfl); have c1 := hk.cell (Bb.out.cell (o := 1) (v := .slice Ab nb cb) rfl); go_simp
      simp only [Act.put, List.setIfInBounds_toArray, List.set_cons_zero, List.set_cons_succ]
      refine WE.pure (d := some 50) rfl rfl (by rfl) (v := (.agg #[.bool gc, .slice Ac nc cc])) (fun w' hk => ?_) ?_
      · have c0 := hk.cell (Bc.out.cell (o := 0) (v := .bool gc) rfl); have c1 := hk.cell (Bc.out.cell (o := 1) (v := .slice Ac nc cc) rfl); go_simp
      simp only [Act.put, List.setIfInBounds_toArray, List.set_cons_zero, List.set_cons_succ]
      refine WE.callR (d := some 48) rfl rfl (by rfl) (f := 19) (args := #[(.agg #[.bool ga, .slice Aa na ca]), (.agg #[.bool gc, .slice Ac nc cc])]) (fun w => by go_simp) (fun wx hx0 => ?_)
      replace E := hid (E.out.trans hx0)
      replace Ba := hid (Ba.out.up hx0)
      replace Bb := hid (Bb.out.up hx0)
      replace Bc := hid (Bc.out.up hx0)
      replace Na := hid (Na.out.up hx0)
      replace Nb := hid (Nb.out.up hx0)
      replace Nc := hid (Nc.out.up hx0)
      replace Ra := hid (Ra.out.up hx0)
      replace Rb := hid (Rb.out.up hx0)
      replace Rc := hid (Rc.out.up hx0)
      clear hx0
      refine (rMul_w Ra.out Rc.out (by omega) (by omega)).mono ?_
      rintro e wn ⟨v1, rfl, x1, hb⟩
      obtain ⟨g1, A1, n1, c1, rfl⟩ := x1.shape
      refine ⟨_, rfl, hb, ?_⟩
      replace E := hid (E.out.trans hb)
      replace Ba := hid (Ba.out.up hb)
      replace Bb := hid (Bb.out.up hb)
      replace Bc := hid (Bc.out.up hb)
      replace Na := hid (Na.out.up hb)
      replace Nb := hid (Nb.out.up hb)
      replace Nc := hid (Nc.out.up hb)
      replace Ra := hid (Ra.out.up hb)
      replace Rb := hid (Rb.out.up hb)
      replace Rc := hid (Rc.out.up hb)
      have Q1 := hid x1
      clear hb x1
      simp only [Act.put, List.setIfInBounds_toArray, List.set_cons_zero, List.set_cons_succ]
      as_aux_lemma =>
        refine WE.callR (d := some 51) rfl rfl (by rfl) (f := 19) (args := #[(.agg #[.bool gb, .slice Ab nb cb]), (.agg #[.bool gc, .slice Ac nc cc])]) (fun w => by go_simp) (fun wx hx0 => ?_)
        replace E := hid (E.out.trans hx0)
        replace Ba := hid (Ba.out.up hx0)
        replace Bb := hid (Bb.out.up hx0)
        replace Bc := hid (Bc.out.up hx0)
        replace Na := hid (Na.out.up hx0)
        replace Nb := hid (Nb.out.up hx0)
        replace Nc := hid (Nc.out.up hx0)
        replace Ra := hid (Ra.out.up hx0)
        replace Rb := hid (Rb.out.up hx0)
        replace Rc := hid (Rc.out.up hx0)
        replace Q1 := hid (Q1.out.up hx0)
        clear hx0
        refine (rMul_w Rb.out Rc.out (by omega) (by omega)).mono ?_
        rintro e wn ⟨v1, rfl, x1, hb⟩
        obtain ⟨g2, A2, n2, c2, rfl⟩ := x1.shape
        refine ⟨_, rfl, hb, ?_⟩
        replace E := hid (E.out.trans hb)
        replace Ba := hid (Ba.out.up hb)
        replace Bb := hid (Bb.out.up hb)
        replace Bc := hid (Bc.out.up hb)
        replace Na := hid (Na.out.up hb)
        replace Nb := hid (Nb.out.up hb)
        replace Nc := hid (Nc.out.up hb)
        replace Ra := hid (Ra.out.up hb)
        replace Rb := hid (Rb.out.up hb)
        replace Rc := hid (Rc.out.up hb)
        replace Q1 := hid (Q1.out.up hb)
        have Q2 := hid x1
        clear hb x1
        simp only [Act.put, List.setIfInBounds_toArray, List.set_cons_zero, List.set_cons_succ]
        refine WE.var (d := some 7) rfl fun gV7 wv hx0 hbox hge hng => ?_
        have HNV7Ba := hid (show gV7 ≠ (W.heap.size) by have := HL1Ba.out; omega)
        have HNV7Bb := hid (show gV7 ≠ (W.heap.size + 1) by have := HL1Bb.out; omega)
        have HNV7Bc := hid (show gV7 ≠ (W.heap.size + 2) by have := HL1Bc.out; omega)
        have HGV7 := hid (show W.heap.size ≤ gV7 by have := HW1.out; omega)
        replace E := hid (E.out.trans hx0)
        replace Ba := hid (Ba.out.up hx0)
        replace Bb := hid (Bb.out.up hx0)
        replace Bc := hid (Bc.out.up hx0)
        replace Na := hid (Na.out.up hx0)
        replace Nb := hid (Nb.out.up hx0)
        replace Nc := hid (Nc.out.up hx0)
        replace Ra := hid (Ra.out.up hx0)
        replace Rb := hid (Rb.out.up hx0)
        replace Rc := hid (Rc.out.up hx0)
        replace Q1 := hid (Q1.out.up hx0)
        replace Q2 := hid (Q2.out.up hx0)
        have V7 : Hid (Box wv gV7 #[.bool false, .slice none 0 0] 24) := hid hbox
        clear hx0 hbox hge hng
        simp only [Act.put, List.setIfInBounds_toArray, List.set_cons_zero, List.set_cons_succ]
        refine WE.var (d := some 8) rfl fun gV8 wv hx0 hbox hge hng => ?_
        have HNV8Ba := hid (show gV8 ≠ (W.heap.size) by have := HL1Ba.out; omega)
        have HNV8Bb := hid (show gV8 ≠ (W.heap.size + 1) by have := HL1Bb.out; omega)
        have HNV8Bc := hid (show gV8 ≠ (W.heap.size + 2) by have := HL1Bc.out; omega)
        have HNV8V7 := hid (show gV8 ≠ gV7 by intro e; exact hng (by simp [e]))
        have HGV8 := hid (show W.heap.size ≤ gV8 by have := HW1.out; omega)
        replace E := hid (E.out.trans hx0)
        replace Ba := hid (Ba.out.up hx0)
        replace Bb := hid (Bb.out.up hx0)
        replace Bc := hid (Bc.out.up hx0)
        replace V7 := hid (V7.out.up hx0)
        replace Na := hid (Na.out.up hx0)
        replace Nb := hid (Nb.out.up hx0)
        replace Nc := hid (Nc.out.up hx0)
        replace Ra := hid (Ra.out.up hx0)
        replace Rb := hid (Rb.out.up hx0)
        replace Rc := hid (Rc.out.up hx0)
        replace Q1 := hid (Q1.out.up hx0)
        replace Q2 := hid (Q2.out.up hx0)
        have V8 : Hid (Box wv gV8 #[.bool false, .slice none 0 0] 24) := hid hbox
        clear hx0 hbox hge hng
        simp only [Act.put, List.setIfInBounds_toArray, List.set_cons_zero, List.set_cons_succ]
        refine WE.store2 (g := gV7) (x := .bool g1) (y := .slice A1 n1 c1) (t := 24) rfl rfl (by rfl) (fun w hb => ?_) V7.out (by rfl) fun ws hk hs => ?_
        · have c0 := hb.cell (o := 0) (v := .bool false) rfl; have f0 := hb.free 0; have c1 := hb.cell (o := 1) (v := .slice none 0 0) rfl; have f1 := hb.free 1; go_simp
        intro hbx
        replace E := hid (E.out.keptG hk HGV7.out)
        replace Ba := hid (Ba.out.kept hk (by simpa using HNV7Ba.out.symm))
        replace Bb := hid (Bb.out.kept hk (by simpa using HNV7Bb.out.symm))
        replace Bc := hid (Bc.out.kept hk (by simpa using HNV7Bc.out.symm))
        replace V7 := hid hbx
        replace V8 := hid (V8.out.kept hk (by simpa using HNV8V7.out))
        replace Na := hid (Na.out.kz hs)
        replace Nb := hid (Nb.out.kz hs)
        replace Nc := hid (Nc.out.kz hs)
        replace Ra := hid (Ra.out.kz hs)
        replace Rb := hid (Rb.out.kz hs)
        replace Rc := hid (Rc.out.kz hs)
        replace Q1 := hid (Q1.out.kz hs)
        replace Q2 := hid (Q2.out.kz hs)
        clear hk hs hbx
        refine WE.store2 (g := gV8) (x := .bool g2) (y := .slice A2 n2 c2) (t := 24) rfl rfl (by rfl) (fun w hb => ?_) V8.out (by rfl) fun ws hk hs => ?_
        · have c0 := hb.cell (o := 0) (v := .bool false) rfl; have f0 := hb.free 0; have c1 := hb.cell (o := 1) (v := .slice none 0 0) rfl; have f1 := hb.free 1; go_simp
        intro hbx
        replace E := hid (E.out.keptG hk HGV8.out)
        replace Ba := hid (Ba.out.kept hk (by simpa using HNV8Ba.out.symm))
        replace Bb := hid (Bb.out.kept hk (by simpa using HNV8Bb.out.symm))
        replace Bc := hid (Bc.out.kept hk (by simpa using HNV8Bc.out.symm))
        replace V7 := hid (V7.out.kept hk (by simpa using HNV8V7.out.symm))
        replace V8 := hid hbx
        replace Na := hid (Na.out.kz hs)
        replace Nb := hid (Nb.out.kz hs)
        replace Nc := hid (Nc.out.kz hs)
        replace Ra := hid (Ra.out.kz hs)
        replace Rb := hid (Rb.out.kz hs)
        replace Rc := hid (Rc.out.kz hs)
        replace Q1 := hid (Q1.out.kz hs)
        replace Q2 := hid (Q2.out.kz hs)
        clear hk hs hbx
        refine WE.done ?_
        go_upto_region 6 with (fail)
        refine wp_region_T [(0, 0), (1, 0), (2, 1), (3, 1), (4, 4)] (by kernel_rfl) fun wd hb => ?_
        replace E := hid (E.out.trans hb)
        replace Ba := hid (Ba.out.up hb)
        replace Bb := hid (Bb.out.up hb)
        replace Bc := hid (Bc.out.up hb)
        replace V7 := hid (V7.out.up hb)
        replace V8 := hid (V8.out.up hb)
        replace Na := hid (Na.out.up hb)
        replace Nb := hid (Nb.out.up hb)
        replace Nc := hid (Nc.out.up hb)
        replace Ra := hid (Ra.out.up hb)
        replace Rb := hid (Rb.out.up hb)
        replace Rc := hid (Rc.out.up hb)
        replace Q1 := hid (Q1.out.up hb)
        replace Q2 := hid (Q2.out.up hb)
        clear hb
        refine WE.pure (d := some 52) rfl rfl (by rfl) (v := (.agg #[.bool g1, .slice A1 n1 c1])) (fun w' hk => ?_) ?_
        · have c0 := hk.cell (V7.out.cell (o := 0) (v := .bool g1) rfl); have c1 := hk.cell (V7.out.cell (o := 1) (v := .slice A1 n1 c1) rfl); go_simp
        simp only [Act.put, List.setIfInBounds_toArray, List.set_cons_zero, List.set_cons_succ]
        refine WE.pure (d := some 53) rfl rfl (by rfl) (v := (.agg #[.bool g2, .slice A2 n2 c2])) (fun w' hk => ?_) ?_
        · have c0 := hk.cell (V8.out.cell (o := 0) (v := .bool g2) rfl); have c1 := hk.cell (V8.out.cell (o := 1) (v := .slice A2 n2 c2) rfl); go_simp
        simp only [Act.put, List.setIfInBounds_toArray, List.set_cons_zero, List.set_cons_succ]
        refine WE.call (d := some 54) rfl rfl (by rfl) (f := 12) (args := #[(.agg #[.bool g1, .slice A1 n1 c1]), (.agg #[.bool g2, .slice A2 n2 c2])]) (by go_simp) ?_
        refine (gOf_w (Worth.wide Q1.out.worth (k := 20) (by omega)) (Worth.wide Q2.out.worth (k := 20) (by omega)) (by omega)).mono ?_
        rintro e wn ⟨v1, rfl, x1, hb⟩
        obtain ⟨g3, A3, n3, c3, rfl⟩ := x1.shape
        refine ⟨_, rfl, hb, ?_⟩
        replace E := hid (E.out.trans hb)
        replace Ba := hid (Ba.out.up hb)
        replace Bb := hid (Bb.out.up hb)
        replace Bc := hid (Bc.out.up hb)
        replace V7 := hid (V7.out.up hb)
        replace V8 := hid (V8.out.up hb)
        replace Na := hid (Na.out.up hb)
        replace Nb := hid (Nb.out.up hb)
        replace Nc := hid (Nc.out.up hb)
        replace Ra := hid (Ra.out.up hb)
        replace Rb := hid (Rb.out.up hb)
        replace Rc := hid (Rc.out.up hb)
        replace Q1 := hid (Q1.out.up hb)
        replace Q2 := hid (Q2.out.up hb)
        have Q3 := hid x1
        clear hb x1
        simp only [Act.put, List.setIfInBounds_toArray, List.set_cons_zero, List.set_cons_succ]
        refine WE.new (d := some 9) (cs := #[.bool false, .slice none 0 0]) (t := 24) (v := fun g => (.pointer (some ⟨g, 0, none⟩))) rfl rfl (by rfl) (fun w => by go_simp) fun gV9 wv hx0 hbox hge => ?_
        have HNV9Ba := hid (show gV9 ≠ (W.heap.size) by have := Ba.out.lt; omega)
        have HNV9Bb := hid (show gV9 ≠ (W.heap.size + 1) by have := Bb.out.lt; omega)
        have HNV9Bc := hid (show gV9 ≠ (W.heap.size + 2) by have := Bc.out.lt; omega)
        have HNV9V7 := hid (show gV9 ≠ gV7 by have := V7.out.lt; omega)
        have HNV9V8 := hid (show gV9 ≠ gV8 by have := V8.out.lt; omega)
        have HGV9 := hid (show W.heap.size ≤ gV9 by have := E.out.size; omega)
        replace E := hid (E.out.trans hx0)
        replace Ba := hid (Ba.out.up hx0)
        replace Bb := hid (Bb.out.up hx0)
        replace Bc := hid (Bc.out.up hx0)
        replace V7 := hid (V7.out.up hx0)
        replace V8 := hid (V8.out.up hx0)
        replace Na := hid (Na.out.up hx0)
        replace Nb := hid (Nb.out.up hx0)
        replace Nc := hid (Nc.out.up hx0)
        replace Ra := hid (Ra.out.up hx0)
        replace Rb := hid (Rb.out.up hx0)
        replace Rc := hid (Rc.out.up hx0)
        replace Q1 := hid (Q1.out.up hx0)
        replace Q2 := hid (Q2.out.up hx0)
        replace Q3 := hid (Q3.out.up hx0)
        have V9 : Hid (Box wv gV9 #[.bool false, .slice none 0 0] 24) := hid hbox
        clear hx0 hbox hge
        simp only [Act.put, List.setIfInBounds_toArray, List.set_cons_zero, List.set_cons_succ]
        refine WE.store2 (g := gV9) (x := .bool g3) (y := .slice A3 n3 c3) (t := 24) rfl rfl (by rfl) (fun w hb => ?_) V9.out (by rfl) fun ws hk hs => ?_
        · have c0 := hb.cell (o := 0) (v := .bool false) rfl; have f0 := hb.free 0; have c1 := hb.cell (o := 1) (v := .slice none 0 0) rfl; have f1 := hb.free 1; go_simp
        intro hbx
        replace E := hid (E.out.keptG hk HGV9.out)
        replace Ba := hid (Ba.out.kept hk (by simpa using HNV9Ba.out.symm))
        replace Bb := hid (Bb.out.kept hk (by simpa using HNV9Bb.out.symm))
        replace Bc := hid (Bc.out.kept hk (by simpa using HNV9Bc.out.symm))
        replace V7 := hid (V7.out.kept hk (by simpa using HNV9V7.out.symm))
        replace V8 := hid (V8.out.kept hk (by simpa using HNV9V8.out.symm))
        replace V9 := hid hbx
        replace Na := hid (Na.out.kz hs)
        replace Nb := hid (Nb.out.kz hs)
        replace Nc := hid (Nc.out.kz hs)
        replace Ra := hid (Ra.out.kz hs)
        replace Rb := hid (Rb.out.kz hs)
        replace Rc := hid (Rc.out.kz hs)
        replace Q1 := hid (Q1.out.kz hs)
        replace Q2 := hid (Q2.out.kz hs)
        replace Q3 := hid (Q3.out.kz hs)
        clear hk hs hbx
        refine WE.done ?_
        go_upto_region 7 with (fail)
        refine wp_region_T [(0, 0), (1, 0), (2, 1), (3, 0), (4, 0), (5, 0), (6, 1), (7, 1), (8, 4), (9, 4)] (by kernel_rfl) fun wd hb => ?_
        replace E := hid (E.out.trans hb)
        replace Ba := hid (Ba.out.up hb)
        replace Bb := hid (Bb.out.up hb)
        replace Bc := hid (Bc.out.up hb)
        replace V7 := hid (V7.out.up hb)
        replace V8 := hid (V8.out.up hb)
        replace V9 := hid (V9.out.up hb)
        replace Na := hid (Na.out.up hb)
        replace Nb := hid (Nb.out.up hb)
        replace Nc := hid (Nc.out.up hb)
        replace Ra := hid (Ra.out.up hb)
        replace Rb := hid (Rb.out.up hb)
        replace Rc := hid (Rc.out.up hb)
        replace Q1 := hid (Q1.out.up hb)
        replace Q2 := hid (Q2.out.up hb)
        replace Q3 := hid (Q3.out.up hb)
        clear hb
        refine WE.pure (d := some 56) rfl rfl (by rfl) (v := (.agg #[.bool g3, .slice A3 n3 c3])) (fun w' hk => ?_) ?_
        · have c0 := hk.cell (V9.out.cell (o := 0) (v := .bool g3) rfl); have c1 := hk.cell (V9.out.cell (o := 1) (v := .slice A3 n3 c3) rfl); go_simp
        simp only [Act.put, List.setIfInBounds_toArray, List.set_cons_zero, List.set_cons_succ]
        refine WE.pure (d := some 57) rfl rfl (by rfl) (v := (.agg #[.bool gc, .slice Ac nc cc])) (fun w' hk => ?_) ?_
        · have c0 := hk.cell (Bc.out.cell (o := 0) (v := .bool gc) rfl); have c1 := hk.cell (Bc.out.cell (o := 1) (v := .slice Ac nc cc) rfl); go_simp
        simp only [Act.put, List.setIfInBounds_toArray, List.set_cons_zero, List.set_cons_succ]
        as_aux_lemma =>
          refine WE.call (d := some 58) rfl rfl (by rfl) (f := 24) (args := #[(.agg #[.bool g3, .slice A3 n3 c3]), (.agg #[.bool gc, .slice Ac nc cc])]) (by go_simp) ?_
          refine (rFloor_w Q3.out.worth Rc.out (by omega) (by omega)).mono ?_
          rintro e wn ⟨v1, v2, rfl, x1, x2, hb⟩
          obtain ⟨g4, A4, n4, c4, rfl⟩ := x1.shape
          obtain ⟨g5, A5, n5, c5, rfl⟩ := x2.shape
          refine ⟨_, rfl, hb, ?_⟩
          replace E := hid (E.out.trans hb)
          replace Ba := hid (Ba.out.up hb)
          replace Bb := hid (Bb.out.up hb)
          replace Bc := hid (Bc.out.up hb)
          replace V7 := hid (V7.out.up hb)
          replace V8 := hid (V8.out.up hb)
          replace V9 := hid (V9.out.up hb)
          replace Na := hid (Na.out.up hb)
          replace Nb := hid (Nb.out.up hb)
          replace Nc := hid (Nc.out.up hb)
          replace Ra := hid (Ra.out.up hb)
          replace Rb := hid (Rb.out.up hb)
          replace Rc := hid (Rc.out.up hb)
          replace Q1 := hid (Q1.out.up hb)
          replace Q2 := hid (Q2.out.up hb)
          replace Q3 := hid (Q3.out.up hb)
          have Q4 := hid x1
          have Q5 := hid x2
          clear hb x1 x2
          simp only [Act.put, List.setIfInBounds_toArray, List.set_cons_zero, List.set_cons_succ]
          refine WE.pure (d := some 55) rfl rfl (by rfl) (v := (.tuple #[(.agg #[.bool g4, .slice A4 n4 c4]), (.agg #[.bool g5, .slice A5 n5 c5])])) (fun w' hk => ?_) ?_
          · go_simp
          simp only [Act.put, List.setIfInBounds_toArray, List.set_cons_zero, List.set_cons_succ]
          refine WE.pure (d := some 59) rfl rfl (by rfl) (v := (.agg #[.bool g4, .slice A4 n4 c4])) (fun w' hk => ?_) ?_
          · go_simp
          simp only [Act.put, List.setIfInBounds_toArray, List.set_cons_zero, List.set_cons_succ]
          refine WE.pure (d := some 60) rfl rfl (by rfl) (v := (.agg #[.bool g5, .slice A5 n5 c5])) (fun w' hk => ?_) ?_
          · go_simp
          simp only [Act.put, List.setIfInBounds_toArray, List.set_cons_zero, List.set_cons_succ]
          refine WE.new (d := some 10) (cs := #[.bool false, .slice none 0 0]) (t := 24) (v := fun g => (.pointer (some ⟨g, 0, none⟩))) rfl rfl (by rfl) (fun w => by go_simp) fun gV10 wv hx0 hbox hge => ?_
          have HNV10Ba := hid (show gV10 ≠ (W.heap.size) by have := Ba.out.lt; omega)
          have HNV10Bb := hid (show gV10 ≠ (W.heap.size + 1) by have := Bb.out.lt; omega)
          have HNV10Bc := hid (show gV10 ≠ (W.heap.size + 2) by have := Bc.out.lt; omega)
          have HNV10V7 := hid (show gV10 ≠ gV7 by have := V7.out.lt; omega)
          have HNV10V8 := hid (show gV10 ≠ gV8 by have := V8.out.lt; omega)
          have HNV10V9 := hid (show gV10 ≠ gV9 by have := V9.out.lt; omega)
          have HGV10 := hid (show W.heap.size ≤ gV10 by have := E.out.size; omega)
          replace E := hid (E.out.trans hx0)
          replace Ba := hid (Ba.out.up hx0)
          replace Bb := hid (Bb.out.up hx0)
          replace Bc := hid (Bc.out.up hx0)
          replace V7 := hid (V7.out.up hx0)
          replace V8 := hid (V8.out.up hx0)
          replace V9 := hid (V9.out.up hx0)
          replace Na := hid (Na.out.up hx0)
          replace Nb := hid (Nb.out.up hx0)
          replace Nc := hid (Nc.out.up hx0)
          replace Ra := hid (Ra.out.up hx0)
          replace Rb := hid (Rb.out.up hx0)
          replace Rc := hid (Rc.out.up hx0)
          replace Q1 := hid (Q1.out.up hx0)
          replace Q2 := hid (Q2.out.up hx0)
          replace Q3 := hid (Q3.out.up hx0)
          replace Q4 := hid (Q4.out.up hx0)
          replace Q5 := hid (Q5.out.up hx0)
          have V10 : Hid (Box wv gV10 #[.bool false, .slice none 0 0] 24) := hid hbox
          clear hx0 hbox hge
          simp only [Act.put, List.setIfInBounds_toArray, List.set_cons_zero, List.set_cons_succ]
          refine WE.new (d := some 11) (cs := #[.bool false, .slice none 0 0]) (t := 24) (v := fun g => (.pointer (some ⟨g, 0, none⟩))) rfl rfl (by rfl) (fun w => by go_simp) fun gV11 wv hx0 hbox hge => ?_
          have HNV11Ba := hid (show gV11 ≠ (W.heap.size) by have := Ba.out.lt; omega)
          have HNV11Bb := hid (show gV11 ≠ (W.heap.size + 1) by have := Bb.out.lt; omega)
          have HNV11Bc := hid (show gV11 ≠ (W.heap.size + 2) by have := Bc.out.lt; omega)
          have HNV11V7 := hid (show gV11 ≠ gV7 by have := V7.out.lt; omega)
          have HNV11V8 := hid (show gV11 ≠ gV8 by have := V8.out.lt; omega)
          have HNV11V9 := hid (show gV11 ≠ gV9 by have := V9.out.lt; omega)
          have HNV11V10 := hid (show gV11 ≠ gV10 by have := V10.out.lt; omega)
          have HGV11 := hid (show W.heap.size ≤ gV11 by have := E.out.size; omega)
          replace E := hid (E.out.trans hx0)
          replace Ba := hid (Ba.out.up hx0)
          replace Bb := hid (Bb.out.up hx0)
          replace Bc := hid (Bc.out.up hx0)
          replace V7 := hid (V7.out.up hx0)
          replace V8 := hid (V8.out.up hx0)
          replace V9 := hid (V9.out.up hx0)
          replace V10 := hid (V10.out.up hx0)
          replace Na := hid (Na.out.up hx0)
          replace Nb := hid (Nb.out.up hx0)
          replace Nc := hid (Nc.out.up hx0)
          replace Ra := hid (Ra.out.up hx0)
          replace Rb := hid (Rb.out.up hx0)
          replace Rc := hid (Rc.out.up hx0)
          replace Q1 := hid (Q1.out.up hx0)
          replace Q2 := hid (Q2.out.up hx0)
          replace Q3 := hid (Q3.out.up hx0)
          replace Q4 := hid (Q4.out.up hx0)
          replace Q5 := hid (Q5.out.up hx0)
          have V11 : Hid (Box wv gV11 #[.bool false, .slice none 0 0] 24) := hid hbox
          clear hx0 hbox hge
          simp only [Act.put, List.setIfInBounds_toArray, List.set_cons_zero, List.set_cons_succ]
          refine WE.store2 (g := gV10) (x := .bool g4) (y := .slice A4 n4 c4) (t := 24) rfl rfl (by rfl) (fun w hb => ?_) V10.out (by rfl) fun ws hk hs => ?_
          · have c0 := hb.cell (o := 0) (v := .bool false) rfl; have f0 := hb.free 0; have c1 := hb.cell (o := 1) (v := .slice none 0 0) rfl; have f1 := hb.free 1; go_simp
          intro hbx
          replace E := hid (E.out.keptG hk HGV10.out)
          replace Ba := hid (Ba.out.kept hk (by simpa using HNV10Ba.out.symm))
          replace Bb := hid (Bb.out.kept hk (by simpa using HNV10Bb.out.symm))
          replace Bc := hid (Bc.out.kept hk (by simpa using HNV10Bc.out.symm))
          replace V7 := hid (V7.out.kept hk (by simpa using HNV10V7.out.symm))
          replace V8 := hid (V8.out.kept hk (by simpa using HNV10V8.out.symm))
          replace V9 := hid (V9.out.kept hk (by simpa using HNV10V9.out.symm))
          replace V10 := hid hbx
          replace V11 := hid (V11.out.kept hk (by simpa using HNV11V10.out))
          replace Na := hid (Na.out.kz hs)
          replace Nb := hid (Nb.out.kz hs)
          replace Nc := hid (Nc.out.kz hs)
          replace Ra := hid (Ra.out.kz hs)
          replace Rb := hid (Rb.out.kz hs)
          replace Rc := hid (Rc.out.kz hs)
          replace Q1 := hid (Q1.out.kz hs)
          replace Q2 := hid (Q2.out.kz hs)
          replace Q3 := hid (Q3.out.kz hs)
          replace Q4 := hid (Q4.out.kz hs)
          replace Q5 := hid (Q5.out.kz hs)
          clear hk hs hbx
          refine WE.store2 (g := gV11) (x := .bool g5) (y := .slice A5 n5 c5) (t := 24) rfl rfl (by rfl) (fun w hb => ?_) V11.out (by rfl) fun ws hk hs => ?_
          · have c0 := hb.cell (o := 0) (v := .bool false) rfl; have f0 := hb.free 0; have c1 := hb.cell (o := 1) (v := .slice none 0 0) rfl; have f1 := hb.free 1; go_simp
          intro hbx
          replace E := hid (E.out.keptG hk HGV11.out)
          replace Ba := hid (Ba.out.kept hk (by simpa using HNV11Ba.out.symm))
          replace Bb := hid (Bb.out.kept hk (by simpa using HNV11Bb.out.symm))
          replace Bc := hid (Bc.out.kept hk (by simpa using HNV11Bc.out.symm))
          replace V7 := hid (V7.out.kept hk (by simpa using HNV11V7.out.symm))
          replace V8 := hid (V8.out.kept hk (by simpa using HNV11V8.out.symm))
          replace V9 := hid (V9.out.kept hk (by simpa using HNV11V9.out.symm))
          replace V10 := hid (V10.out.kept hk (by simpa using HNV11V10.out.symm))
          replace V11 := hid hbx
          replace Na := hid (Na.out.kz hs)
          replace Nb := hid (Nb.out.kz hs)
          replace Nc := hid (Nc.out.kz hs)
          replace Ra := hid (Ra.out.kz hs)
          replace Rb := hid (Rb.out.kz hs)
          replace Rc := hid (Rc.out.kz hs)
          replace Q1 := hid (Q1.out.kz hs)
          replace Q2 := hid (Q2.out.kz hs)
          replace Q3 := hid (Q3.out.kz hs)
          replace Q4 := hid (Q4.out.kz hs)
          replace Q5 := hid (Q5.out.kz hs)
          clear hk hs hbx
          refine WE.done ?_
          go_upto_region 8 with (fail)
          refine wp_region_E [(0, 0), (1, 1), (2, 0), (3, 0), (4, 0), (5, 1), (6, 0), (7, 0), (8, 0), (9, 0), (10, 0), (11, 0), (13, 0), (12, 1), (14, 1), (15, 1), (16, 1), (17, 0), (18, 0)] (fun _ => (0, #[])) rfl (by kernel_rfl) (by intro j hj; cases hj) (fun _ _ d _ _ => by cases d <;> exact Iff.rfl) fun wd hb => ?_
          replace E := hid (E.out.trans hb)
          replace Ba := hid (Ba.out.up hb)
          replace Bb := hid (Bb.out.up hb)
          replace Bc := hid (Bc.out.up hb)
          replace V7 := hid (V7.out.up hb)
          replace V8 := hid (V8.out.up hb)
          replace V9 := hid (V9.out.up hb)
          replace V10 := hid (V10.out.up hb)
          replace V11 := hid (V11.out.up hb)
          replace Na := hid (Na.out.up hb)
          replace Nb := hid (Nb.out.up hb)
          replace Nc := hid (Nc.out.up hb)
          replace Ra := hid (Ra.out.up hb)
          replace Rb := hid (Rb.out.up hb)
          replace Rc := hid (Rc.out.up hb)
          replace Q1 := hid (Q1.out.up hb)
          replace Q2 := hid (Q2.out.up hb)
          replace Q3 := hid (Q3.out.up hb)
          replace Q4 := hid (Q4.out.up hb)
          replace Q5 := hid (Q5.out.up hb)
          clear hb
          refine WE.pure (d := some 61) rfl rfl (by rfl) (v := (.agg #[.bool g5, .slice A5 n5 c5])) (fun w' hk => ?_) ?_
          · have c0 := hk.cell (V11.out.cell (o := 0) (v := .bool g5) rfl); have c1 := hk.cell (V11.out.cell (o := 1) (v := .slice A5 n5 c5) rfl); go_simp
          simp only [Act.put, List.setIfInBounds_toArray, List.set_cons_zero, List.set_cons_succ]
          refine WE.call (d := some 62) rfl rfl (by rfl) (f := 20) (args := #[(.agg #[.bool g5, .slice A5 n5 c5])]) (by go_simp) ?_
          refine (rSign_w Q5.out.worth (s := 0) (by rw [M.gcd_rest]; rfl)).mono ?_
          rintro e wn ⟨rfl, hb⟩
          refine ⟨_, rfl, hb, ?_⟩
          replace E := hid (E.out.trans hb)
          replace Ba := hid (Ba.out.up hb)
          replace Bb := hid (Bb.out.up hb)
          replace Bc := hid (Bc.out.up hb)
          replace V7 := hid (V7.out.up hb)
          replace V8 := hid (V8.out.up hb)
          replace V9 := hid (V9.out.up hb)
          replace V10 := hid (V10.out.up hb)
          replace V11 := hid (V11.out.up hb)
          replace Na := hid (Na.out.up hb)
          replace Nb := hid (Nb.out.up hb)
          replace Nc := hid (Nc.out.up hb)
          replace Ra := hid (Ra.out.up hb)
          replace Rb := hid (Rb.out.up hb)
          replace Rc := hid (Rc.out.up hb)
          replace Q1 := hid (Q1.out.up hb)
          replace Q2 := hid (Q2.out.up hb)
          replace Q3 := hid (Q3.out.up hb)
          replace Q4 := hid (Q4.out.up hb)
          replace Q5 := hid (Q5.out.up hb)
          clear hb
          simp only [Act.put, List.setIfInBounds_toArray, List.set_cons_zero, List.set_cons_succ]
          refine WE.pure (d := some 63) rfl rfl (by rfl) (v := (.bool false)) (fun w' hk => ?_) ?_
          · go_simp
          simp only [Act.put, List.setIfInBounds_toArray, List.set_cons_zero, List.set_cons_succ]
          refine WE.pure (d := some 64) rfl rfl (by rfl) (v := (.bool false)) (fun w' hk => ?_) ?_
          · go_simp
          simp only [Act.put, List.setIfInBounds_toArray, List.set_cons_zero, List.set_cons_succ]
          as_aux_lemma =>
            refine WE.pure (d := some 65) rfl rfl (by rfl) (v := (.agg #[.bool g3, .slice A3 n3 c3])) (fun w' hk => ?_) ?_
            · have c0 := hk.cell (V9.out.cell (o := 0) (v := .bool g3) rfl); have c1 := hk.cell (V9.out.cell (o := 1) (v := .slice A3 n3 c3) rfl); go_simp
            simp only [Act.put, List.setIfInBounds_toArray, List.set_cons_zero, List.set_cons_succ]
            refine WE.call (d := some 66) rfl rfl (by rfl) (f := 20) (args := #[(.agg #[.bool g3, .slice A3 n3 c3])]) (by go_simp) ?_
            refine (rSign_w Q3.out.worth (s := sg) (HSG.out)).mono ?_
            rintro e wn ⟨rfl, hb⟩
            refine ⟨_, rfl, hb, ?_⟩
            replace E := hid (E.out.trans hb)
            replace Ba := hid (Ba.out.up hb)
            replace Bb := hid (Bb.out.up hb)
            replace Bc := hid (Bc.out.up hb)
            replace V7 := hid (V7.out.up hb)
            replace V8 := hid (V8.out.up hb)
            replace V9 := hid (V9.out.up hb)
            replace V10 := hid (V10.out.up hb)
            replace V11 := hid (V11.out.up hb)
            replace Na := hid (Na.out.up hb)
            replace Nb := hid (Nb.out.up hb)
            replace Nc := hid (Nc.out.up hb)
            replace Ra := hid (Ra.out.up hb)
            replace Rb := hid (Rb.out.up hb)
            replace Rc := hid (Rc.out.up hb)
            replace Q1 := hid (Q1.out.up hb)
            replace Q2 := hid (Q2.out.up hb)
            replace Q3 := hid (Q3.out.up hb)
            replace Q4 := hid (Q4.out.up hb)
            replace Q5 := hid (Q5.out.up hb)
            clear hb
            simp only [Act.put, List.setIfInBounds_toArray, List.set_cons_zero, List.set_cons_succ]
            refine WE.pure (d := some 67) rfl rfl (by rfl) (v := (.bool false)) (fun w' hk => ?_) ?_
            · go_simp
            simp only [Act.put, List.setIfInBounds_toArray, List.set_cons_zero, List.set_cons_succ]
            refine WE.pure (d := some 68) rfl rfl (by rfl) (v := (.bool false)) (fun w' hk => ?_) ?_
            · go_simp
            simp only [Act.put, List.setIfInBounds_toArray, List.set_cons_zero, List.set_cons_succ]
            refine WE.pure (d := some 69) rfl rfl (by rfl) (v := (.bool false)) (fun w' hk => ?_) ?_
            · go_simp
            simp only [Act.put, List.setIfInBounds_toArray, List.set_cons_zero, List.set_cons_succ]
            refine WE.pure (d := some 70) rfl rfl (by rfl) (v := (.agg #[.bool g3, .slice A3 n3 c3])) (fun w' hk => ?_) ?_
            · have c0 := hk.cell (V9.out.cell (o := 0) (v := .bool g3) rfl); have c1 := hk.cell (V9.out.cell (o := 1) (v := .slice A3 n3 c3) rfl); go_simp
            simp only [Act.put, List.setIfInBounds_toArray, List.set_cons_zero, List.set_cons_succ]
            refine WE.pure (d := some 71) rfl rfl (by rfl) (v := (.agg #[.bool ga, .slice Aa na ca])) (fun w' hk => ?_) ?_
            · have c0 := hk.cell (Ba.out.cell (o := 0) (v := .bool ga) rfl); have c1 := hk.cell (Ba.out.cell (o := 1) (v := .slice Aa na ca) rfl); go_simp
            simp only [Act.put, List.setIfInBounds_toArray, List.set_cons_zero, List.set_cons_succ]
            refine WE.pure (d := some 72) rfl rfl (by rfl) (v := (.agg #[.bool gb, .slice Ab nb cb])) (fun w' hk => ?_) ?_
            · have c0 := hk.cell (Bb.out.cell (o := 0) (v := .bool gb) rfl); have c1 := hk.cell (Bb.out.cell (o := 1) (v := .slice Ab nb cb) rfl); go_simp
            simp only [Act.put, List.setIfInBounds_toArray, List.set_cons_zero, List.set_cons_succ]
            refine WE.pure (d := some 74) rfl rfl (by rfl) (v := (.agg #[.bool gc, .slice Ac nc cc])) (fun w' hk => ?_) ?_
            · have c0 := hk.cell (Bc.out.cell (o := 0) (v := .bool gc) rfl); have c1 := hk.cell (Bc.out.cell (o := 1) (v := .slice Ac nc cc) rfl); go_simp
            simp only [Act.put, List.setIfInBounds_toArray, List.set_cons_zero, List.set_cons_succ]
            refine WE.call (d := some 73) rfl rfl (by rfl) (f := 12) (args := #[(.agg #[.bool ga, .slice Aa na ca]), (.agg #[.bool gb, .slice Ab nb cb])]) (by go_simp) ?_
            refine (gOf_w (Worth.wide Ra.out (k := 20) (by omega)) (Worth.wide Rb.out (k := 20) (by omega)) (by omega)).mono ?_
            rintro e wn ⟨v1, rfl, x1, hb⟩
            obtain ⟨g6, A6, n6, c6, rfl⟩ := x1.shape
            refine ⟨_, rfl, hb, ?_⟩
            replace E := hid (E.out.trans hb)
            replace Ba := hid (Ba.out.up hb)
            replace Bb := hid (Bb.out.up hb)
            replace Bc := hid (Bc.out.up hb)
            replace V7 := hid (V7.out.up hb)
            replace V8 := hid (V8.out.up hb)
            replace V9 := hid (V9.out.up hb)
            replace V10 := hid (V10.out.up hb)
            replace V11 := hid (V11.out.up hb)
            replace Na := hid (Na.out.up hb)
            replace Nb := hid (Nb.out.up hb)
            replace Nc := hid (Nc.out.up hb)
            replace Ra := hid (Ra.out.up hb)
            replace Rb := hid (Rb.out.up hb)
            replace Rc := hid (Rc.out.up hb)
            replace Q1 := hid (Q1.out.up hb)
            replace Q2 := hid (Q2.out.up hb)
            replace Q3 := hid (Q3.out.up hb)
            replace Q4 := hid (Q4.out.up hb)
            replace Q5 := hid (Q5.out.up hb)
            have Q6 := hid x1
            clear hb x1
            simp only [Act.put, List.setIfInBounds_toArray, List.set_cons_zero, List.set_cons_succ]
            refine WE.call (d := some 75) rfl rfl (by rfl) (f := 22) (args := #[(.agg #[.bool gc, .slice Ac nc cc])]) (by go_simp) ?_
            refine (rAbs_w Rc.out).mono ?_
            rintro e wn ⟨v1, rfl, x1, hb⟩
            obtain ⟨g7, A7, n7, c7, rfl⟩ := x1.shape
            refine ⟨_, rfl, hb, ?_⟩
            replace E := hid (E.out.trans hb)
            replace Ba := hid (Ba.out.up hb)
            replace Bb := hid (Bb.out.up hb)
            replace Bc := hid (Bc.out.up hb)
            replace V7 := hid (V7.out.up hb)
            replace V8 := hid (V8.out.up hb)
            replace V9 := hid (V9.out.up hb)
            replace V10 := hid (V10.out.up hb)
            replace V11 := hid (V11.out.up hb)
            replace Na := hid (Na.out.up hb)
            replace Nb := hid (Nb.out.up hb)
            replace Nc := hid (Nc.out.up hb)
            replace Ra := hid (Ra.out.up hb)
            replace Rb := hid (Rb.out.up hb)
            replace Rc := hid (Rc.out.up hb)
            replace Q1 := hid (Q1.out.up hb)
            replace Q2 := hid (Q2.out.up hb)
            replace Q3 := hid (Q3.out.up hb)
            replace Q4 := hid (Q4.out.up hb)
            replace Q5 := hid (Q5.out.up hb)
            replace Q6 := hid (Q6.out.up hb)
            have Q7 := hid x1
            clear hb x1
            simp only [Act.put, List.setIfInBounds_toArray, List.set_cons_zero, List.set_cons_succ]
            refine WE.call (d := some 76) rfl rfl (by rfl) (f := 19) (args := #[(.agg #[.bool g6, .slice A6 n6 c6]), (.agg #[.bool g7, .slice A7 n7 c7])]) (by go_simp) ?_
            refine (rMul_w Q6.out.worth Q7.out.worth (by omega) (by omega)).mono ?_
            rintro e wn ⟨v1, rfl, x1, hb⟩
            obtain ⟨g8, A8, n8, c8, rfl⟩ := x1.shape
            refine ⟨_, rfl, hb, ?_⟩
            replace E := hid (E.out.trans hb)
            replace Ba := hid (Ba.out.up hb)
            replace Bb := hid (Bb.out.up hb)
            replace Bc := hid (Bc.out.up hb)
            replace V7 := hid (V7.out.up hb)
            replace V8 := hid (V8.out.up hb)
            replace V9 := hid (V9.out.up hb)
            replace V10 := hid (V10.out.up hb)
            replace V11 := hid (V11.out.up hb)
            replace Na := hid (Na.out.up hb)
            replace Nb := hid (Nb.out.up hb)
            replace Nc := hid (Nc.out.up hb)
            replace Ra := hid (Ra.out.up hb)
            replace Rb := hid (Rb.out.up hb)
            replace Rc := hid (Rc.out.up hb)
            replace Q1 := hid (Q1.out.up hb)
            replace Q2 := hid (Q2.out.up hb)
            replace Q3 := hid (Q3.out.up hb)
            replace Q4 := hid (Q4.out.up hb)
            replace Q5 := hid (Q5.out.up hb)
            replace Q6 := hid (Q6.out.up hb)
            replace Q7 := hid (Q7.out.up hb)
            have Q8 := hid x1
            clear hb x1
            simp only [Act.put, List.setIfInBounds_toArray, List.set_cons_zero, List.set_cons_succ]
            clear Q6
            clear Q7
            as_aux_lemma =>
              refine WE.call (d := some 77) rfl rfl (by rfl) (f := 11) (args := #[(.agg #[.bool g3, .slice A3 n3 c3]), (.agg #[.bool g8, .slice A8 n8 c8])]) (by go_simp) ?_
              refine (equal_z (IsZ.to Q3.out (rfl)) (IsZ.to Q8.out ((M.gcd_mul _ _ _).symm))).mono ?_
              rintro e wn ⟨rfl, hb⟩
              refine ⟨_, rfl, hb, ?_⟩
              replace E := hid (E.out.trans hb)
              replace Ba := hid (Ba.out.up hb)
              replace Bb := hid (Bb.out.up hb)
              replace Bc := hid (Bc.out.up hb)
              replace V7 := hid (V7.out.up hb)
              replace V8 := hid (V8.out.up hb)
              replace V9 := hid (V9.out.up hb)
              replace V10 := hid (V10.out.up hb)
              replace V11 := hid (V11.out.up hb)
              replace Na := hid (Na.out.up hb)
              replace Nb := hid (Nb.out.up hb)
              replace Nc := hid (Nc.out.up hb)
              replace Ra := hid (Ra.out.up hb)
              replace Rb := hid (Rb.out.up hb)
              replace Rc := hid (Rc.out.up hb)
              replace Q1 := hid (Q1.out.up hb)
              replace Q2 := hid (Q2.out.up hb)
              replace Q3 := hid (Q3.out.up hb)
              replace Q4 := hid (Q4.out.up hb)
              replace Q5 := hid (Q5.out.up hb)
              replace Q8 := hid (Q8.out.up hb)
              clear hb
              simp only [Act.put, List.setIfInBounds_toArray, List.set_cons_zero, List.set_cons_succ]
              clear Q8
              refine WE.pure (d := some 78) rfl rfl (by rfl) (v := (.bool false)) (fun w' hk => ?_) ?_
              · go_simp
              simp only [Act.put, List.setIfInBounds_toArray, List.set_cons_zero, List.set_cons_succ]
              refine WE.pure (d := some 79) rfl rfl (by rfl) (v := (.bool false)) (fun w' hk => ?_) ?_
              · go_simp
              simp only [Act.put, List.setIfInBounds_toArray, List.set_cons_zero, List.set_cons_succ]
              refine WE.done ?_
              go_upto_region 10 with (fail)
              refine wp_region_T [(0, 0), (1, 1), (2, 0)] (by kernel_rfl) fun wd hb => ?_
              replace E := hid (E.out.trans hb)
              replace Ba := hid (Ba.out.up hb)
              replace Bb := hid (Bb.out.up hb)
              replace Bc := hid (Bc.out.up hb)
              replace V7 := hid (V7.out.up hb)
              replace V8 := hid (V8.out.up hb)
              replace V9 := hid (V9.out.up hb)
              replace V10 := hid (V10.out.up hb)
              replace V11 := hid (V11.out.up hb)
              replace Na := hid (Na.out.up hb)
              replace Nb := hid (Nb.out.up hb)
              replace Nc := hid (Nc.out.up hb)
              replace Ra := hid (Ra.out.up hb)
              replace Rb := hid (Rb.out.up hb)
              replace Rc := hid (Rc.out.up hb)
              replace Q1 := hid (Q1.out.up hb)
              replace Q2 := hid (Q2.out.up hb)
              replace Q3 := hid (Q3.out.up hb)
              replace Q4 := hid (Q4.out.up hb)
              replace Q5 := hid (Q5.out.up hb)
              clear hb
              refine WE.pure (d := some 80) rfl rfl (by rfl) (v := (.agg #[.bool g3, .slice A3 n3 c3])) (fun w' hk => ?_) ?_
              · have c0 := hk.cell (V9.out.cell (o := 0) (v := .bool g3) rfl); have c1 := hk.cell (V9.out.cell (o := 1) (v := .slice A3 n3 c3) rfl); go_simp
              simp only [Act.put, List.setIfInBounds_toArray, List.set_cons_zero, List.set_cons_succ]
              refine WE.call (d := some 81) rfl rfl (by rfl) (f := 20) (args := #[(.agg #[.bool g3, .slice A3 n3 c3])]) (by go_simp) ?_
              refine (rSign_w Q3.out.worth (s := sg) (HSG.out)).mono ?_
              rintro e wn ⟨rfl, hb⟩
              refine ⟨_, rfl, hb, ?_⟩
              replace E := hid (E.out.trans hb)
              replace Ba := hid (Ba.out.up hb)
              replace Bb := hid (Bb.out.up hb)
              replace Bc := hid (Bc.out.up hb)
              replace V7 := hid (V7.out.up hb)
              replace V8 := hid (V8.out.up hb)
              replace V9 := hid (V9.out.up hb)
              replace V10 := hid (V10.out.up hb)
              replace V11 := hid (V11.out.up hb)
              replace Na := hid (Na.out.up hb)
              replace Nb := hid (Nb.out.up hb)
              replace Nc := hid (Nc.out.up hb)
              replace Ra := hid (Ra.out.up hb)
              replace Rb := hid (Rb.out.up hb)
              replace Rc := hid (Rc.out.up hb)
              replace Q1 := hid (Q1.out.up hb)
              replace Q2 := hid (Q2.out.up hb)
              replace Q3 := hid (Q3.out.up hb)
              replace Q4 := hid (Q4.out.up hb)
              replace Q5 := hid (Q5.out.up hb)
              clear hb
              simp only [Act.put, List.setIfInBounds_toArray, List.set_cons_zero, List.set_cons_succ]
              refine WE.pure (d := some 82) rfl rfl (by rfl) (v := (.bool false)) (fun w' hk => ?_) ?_
              · go_simp
              simp only [Act.put, List.setIfInBounds_toArray, List.set_cons_zero, List.set_cons_succ]
              refine WE.done ?_
              go_upto_region 12 with (fail)
              refine wp_region_T [(0, 0), (1, 0), (2, 1), (3, 0), (4, 0), (5, 0), (6, 1), (7, 1), (8, 4), (9, 4)] (by kernel_rfl) fun wd hb => ?_
              replace E := hid (E.out.trans hb)
              replace Ba := hid (Ba.out.up hb)
              replace Bb := hid (Bb.out.up hb)
              replace Bc := hid (Bc.out.up hb)
              replace V7 := hid (V7.out.up hb)
              replace V8 := hid (V8.out.up hb)
              replace V9 := hid (V9.out.up hb)
              replace V10 := hid (V10.out.up hb)
              replace V11 := hid (V11.out.up hb)
              replace Na := hid (Na.out.up hb)
              replace Nb := hid (Nb.out.up hb)
              replace Nc := hid (Nc.out.up hb)
              replace Ra := hid (Ra.out.up hb)
              replace Rb := hid (Rb.out.up hb)
              replace Rc := hid (Rc.out.up hb)
              replace Q1 := hid (Q1.out.up hb)
              replace Q2 := hid (Q2.out.up hb)
              replace Q3 := hid (Q3.out.up hb)
              replace Q4 := hid (Q4.out.up hb)
              replace Q5 := hid (Q5.out.up hb)
              clear hb
              refine WE.pure (d := some 92) rfl rfl (by rfl) (v := (.agg #[.bool g1, .slice A1 n1 c1])) (fun w' hk => ?_) ?_
              · have c0 := hk.cell (V7.out.cell (o := 0) (v := .bool g1) rfl); have c1 := hk.cell (V7.out.cell (o := 1) (v := .slice A1 n1 c1) rfl); go_simp
              simp only [Act.put, List.setIfInBounds_toArray, List.set_cons_zero, List.set_cons_succ]
              refine WE.pure (d := some 93) rfl rfl (by rfl) (v := (.agg #[.bool g3, .slice A3 n3 c3])) (fun w' hk => ?_) ?_
              · have c0 := hk.cell (V9.out.cell (o := 0) (v := .bool g3) rfl); have c1 := hk.cell (V9.out.cell (o := 1) (v := .slice A3 n3 c3) rfl); go_simp
              simp only [Act.put, List.setIfInBounds_toArray, List.set_cons_zero, List.set_cons_succ]
              refine WE.call (d := some 94) rfl rfl (by rfl) (f := 24) (args := #[(.agg #[.bool g1, .slice A1 n1 c1]), (.agg #[.bool g3, .slice A3 n3 c3])]) (by go_simp) ?_
              refine (rFloor_w Q1.out.worth Q3.out.worth (by omega) (by omega)).mono ?_
              rintro e wn ⟨v1, v2, rfl, x1, x2, hb⟩
              obtain ⟨g9, A9, n9, c9, rfl⟩ := x1.shape
              obtain ⟨g10, A10, n10, c10, rfl⟩ := x2.shape
              refine ⟨_, rfl, hb, ?_⟩
              replace E := hid (E.out.trans hb)
              replace Ba := hid (Ba.out.up hb)
              replace Bb := hid (Bb.out.up hb)
              replace Bc := hid (Bc.out.up hb)
              replace V7 := hid (V7.out.up hb)
              replace V8 := hid (V8.out.up hb)
              replace V9 := hid (V9.out.up hb)
              replace V10 := hid (V10.out.up hb)
              replace V11 := hid (V11.out.up hb)
              replace Na := hid (Na.out.up hb)
              replace Nb := hid (Nb.out.up hb)
              replace Nc := hid (Nc.out.up hb)
              replace Ra := hid (Ra.out.up hb)
              replace Rb := hid (Rb.out.up hb)
              replace Rc := hid (Rc.out.up hb)
              replace Q1 := hid (Q1.out.up hb)
              replace Q2 := hid (Q2.out.up hb)
              replace Q3 := hid (Q3.out.up hb)
              replace Q4 := hid (Q4.out.up hb)
              replace Q5 := hid (Q5.out.up hb)
              have Q9 := hid x1
              have Q10 := hid x2
              clear hb x1 x2
              simp only [Act.put, List.setIfInBounds_toArray, List.set_cons_zero, List.set_cons_succ]
              refine WE.pure (d := some 91) rfl rfl (by rfl) (v := (.tuple #[(.agg #[.bool g9, .slice A9 n9 c9]), (.agg #[.bool g10, .slice A10 n10 c10])])) (fun w' hk => ?_) ?_
              · go_simp
              simp only [Act.put, List.setIfInBounds_toArray, List.set_cons_zero, List.set_cons_succ]
              refine WE.pure (d := some 95) rfl rfl (by rfl) (v := (.agg #[.bool g9, .slice A9 n9 c9])) (fun w' hk => ?_) ?_
              · go_simp
              simp only [Act.put, List.setIfInBounds_toArray, List.set_cons_zero, List.set_cons_succ]
              refine WE.pure (d := some 96) rfl rfl (by rfl) (v := (.agg #[.bool g10, .slice A10 n10 c10])) (fun w' hk => ?_) ?_
              · go_simp
              simp only [Act.put, List.setIfInBounds_toArray, List.set_cons_zero, List.set_cons_succ]
              as_aux_lemma =>
                refine WE.new (d := some 12) (cs := #[.bool false, .slice none 0 0]) (t := 24) (v := fun g => (.pointer (some ⟨g, 0, none⟩))) rfl rfl (by rfl) (fun w => by go_simp) fun gV12 wv hx0 hbox hge => ?_
                have HNV12Ba := hid (show gV12 ≠ (W.heap.size) by have := Ba.out.lt; omega)
                have HNV12Bb := hid (show gV12 ≠ (W.heap.size + 1) by have := Bb.out.lt; omega)
                have HNV12Bc := hid (show gV12 ≠ (W.heap.size + 2) by have := Bc.out.lt; omega)
                have HNV12V7 := hid (show gV12 ≠ gV7 by have := V7.out.lt; omega)
                have HNV12V8 := hid (show gV12 ≠ gV8 by have := V8.out.lt; omega)
                have HNV12V9 := hid (show gV12 ≠ gV9 by have := V9.out.lt; omega)
                have HNV12V10 := hid (show gV12 ≠ gV10 by have := V10.out.lt; omega)
                have HNV12V11 := hid (show gV12 ≠ gV11 by have := V11.out.lt; omega)
                have HGV12 := hid (show W.heap.size ≤ gV12 by have := E.out.size; omega)
                replace E := hid (E.out.trans hx0)
                replace Ba := hid (Ba.out.up hx0)
                replace Bb := hid (Bb.out.up hx0)
                replace Bc := hid (Bc.out.up hx0)
                replace V7 := hid (V7.out.up hx0)
                replace V8 := hid (V8.out.up hx0)
                replace V9 := hid (V9.out.up hx0)
                replace V10 := hid (V10.out.up hx0)
                replace V11 := hid (V11.out.up hx0)
                replace Na := hid (Na.out.up hx0)
                replace Nb := hid (Nb.out.up hx0)
                replace Nc := hid (Nc.out.up hx0)
                replace Ra := hid (Ra.out.up hx0)
                replace Rb := hid (Rb.out.up hx0)
                replace Rc := hid (Rc.out.up hx0)
                replace Q1 := hid (Q1.out.up hx0)
                replace Q2 := hid (Q2.out.up hx0)
                replace Q3 := hid (Q3.out.up hx0)
                replace Q4 := hid (Q4.out.up hx0)
                replace Q5 := hid (Q5.out.up hx0)
                replace Q9 := hid (Q9.out.up hx0)
                replace Q10 := hid (Q10.out.up hx0)
                have V12 : Hid (Box wv gV12 #[.bool false, .slice none 0 0] 24) := hid hbox
                clear hx0 hbox hge
                simp only [Act.put, List.setIfInBounds_toArray, List.set_cons_zero, List.set_cons_succ]
                refine WE.new (d := some 13) (cs := #[.bool false, .slice none 0 0]) (t := 24) (v := fun g => (.pointer (some ⟨g, 0, none⟩))) rfl rfl (by rfl) (fun w => by go_simp) fun gV13 wv hx0 hbox hge => ?_
                have HNV13Ba := hid (show gV13 ≠ (W.heap.size) by have := Ba.out.lt; omega)
                have HNV13Bb := hid (show gV13 ≠ (W.heap.size + 1) by have := Bb.out.lt; omega)
                have HNV13Bc := hid (show gV13 ≠ (W.heap.size + 2) by have := Bc.out.lt; omega)
                have HNV13V7 := hid (show gV13 ≠ gV7 by have := V7.out.lt; omega)
                have HNV13V8 := hid (show gV13 ≠ gV8 by have := V8.out.lt; omega)
                have HNV13V9 := hid (show gV13 ≠ gV9 by have := V9.out.lt; omega)
                have HNV13V10 := hid (show gV13 ≠ gV10 by have := V10.out.lt; omega)
                have HNV13V11 := hid (show gV13 ≠ gV11 by have := V11.out.lt; omega)
                have HNV13V12 := hid (show gV13 ≠ gV12 by have := V12.out.lt; omega)
                have HGV13 := hid (show W.heap.size ≤ gV13 by have := E.out.size; omega)
                replace E := hid (E.out.trans hx0)
                replace Ba := hid (Ba.out.up hx0)
                replace Bb := hid (Bb.out.up hx0)
                replace Bc := hid (Bc.out.up hx0)
                replace V7 := hid (V7.out.up hx0)
                replace V8 := hid (V8.out.up hx0)
                replace V9 := hid (V9.out.up hx0)
                replace V10 := hid (V10.out.up hx0)
                replace V11 := hid (V11.out.up hx0)
                replace V12 := hid (V12.out.up hx0)
                replace Na := hid (Na.out.up hx0)
                replace Nb := hid (Nb.out.up hx0)
                replace Nc := hid (Nc.out.up hx0)
                replace Ra := hid (Ra.out.up hx0)
                replace Rb := hid (Rb.out.up hx0)
                replace Rc := hid (Rc.out.up hx0)
                replace Q1 := hid (Q1.out.up hx0)
                replace Q2 := hid (Q2.out.up hx0)
                replace Q3 := hid (Q3.out.up hx0)
                replace Q4 := hid (Q4.out.up hx0)
                replace Q5 := hid (Q5.out.up hx0)
                replace Q9 := hid (Q9.out.up hx0)
                replace Q10 := hid (Q10.out.up hx0)
                have V13 : Hid (Box wv gV13 #[.bool false, .slice none 0 0] 24) := hid hbox
                clear hx0 hbox hge
                simp only [Act.put, List.setIfInBounds_toArray, List.set_cons_zero, List.set_cons_succ]
                refine WE.store2 (g := gV12) (x := .bool g9) (y := .slice A9 n9 c9) (t := 24) rfl rfl (by rfl) (fun w hb => ?_) V12.out (by rfl) fun ws hk hs => ?_
                · have c0 := hb.cell (o := 0) (v := .bool false) rfl; have f0 := hb.free 0; have c1 := hb.cell (o := 1) (v := .slice none 0 0) rfl; have f1 := hb.free 1; go_simp
                intro hbx
                replace E := hid (E.out.keptG hk HGV12.out)
                replace Ba := hid (Ba.out.kept hk (by simpa using HNV12Ba.out.symm))
                replace Bb := hid (Bb.out.kept hk (by simpa using HNV12Bb.out.symm))
                replace Bc := hid (Bc.out.kept hk (by simpa using HNV12Bc.out.symm))
                replace V7 := hid (V7.out.kept hk (by simpa using HNV12V7.out.symm))
                replace V8 := hid (V8.out.kept hk (by simpa using HNV12V8.out.symm))
                replace V9 := hid (V9.out.kept hk (by simpa using HNV12V9.out.symm))
                replace V10 := hid (V10.out.kept hk (by simpa using HNV12V10.out.symm))
                replace V11 := hid (V11.out.kept hk (by simpa using HNV12V11.out.symm))
                replace V12 := hid hbx
                replace V13 := hid (V13.out.kept hk (by simpa using HNV13V12.out))
                replace Na := hid (Na.out.kz hs)
                replace Nb := hid (Nb.out.kz hs)
                replace Nc := hid (Nc.out.kz hs)
                replace Ra := hid (Ra.out.kz hs)
                replace Rb := hid (Rb.out.kz hs)
                replace Rc := hid (Rc.out.kz hs)
                replace Q1 := hid (Q1.out.kz hs)
                replace Q2 := hid (Q2.out.kz hs)
                replace Q3 := hid (Q3.out.kz hs)
                replace Q4 := hid (Q4.out.kz hs)
                replace Q5 := hid (Q5.out.kz hs)
                replace Q9 := hid (Q9.out.kz hs)
                replace Q10 := hid (Q10.out.kz hs)
                clear hk hs hbx
                refine WE.store2 (g := gV13) (x := .bool g10) (y := .slice A10 n10 c10) (t := 24) rfl rfl (by rfl) (fun w hb => ?_) V13.out (by rfl) fun ws hk hs => ?_
                · have c0 := hb.cell (o := 0) (v := .bool false) rfl; have f0 := hb.free 0; have c1 := hb.cell (o := 1) (v := .slice none 0 0) rfl; have f1 := hb.free 1; go_simp
                intro hbx
                replace E := hid (E.out.keptG hk HGV13.out)
                replace Ba := hid (Ba.out.kept hk (by simpa using HNV13Ba.out.symm))
                replace Bb := hid (Bb.out.kept hk (by simpa using HNV13Bb.out.symm))
                replace Bc := hid (Bc.out.kept hk (by simpa using HNV13Bc.out.symm))
                replace V7 := hid (V7.out.kept hk (by simpa using HNV13V7.out.symm))
                replace V8 := hid (V8.out.kept hk (by simpa using HNV13V8.out.symm))
                replace V9 := hid (V9.out.kept hk (by simpa using HNV13V9.out.symm))
                replace V10 := hid (V10.out.kept hk (by simpa using HNV13V10.out.symm))
                replace V11 := hid (V11.out.kept hk (by simpa using HNV13V11.out.symm))
                replace V12 := hid (V12.out.kept hk (by simpa using HNV13V12.out.symm))
                replace V13 := hid hbx
                replace Na := hid (Na.out.kz hs)
                replace Nb := hid (Nb.out.kz hs)
                replace Nc := hid (Nc.out.kz hs)
                replace Ra := hid (Ra.out.kz hs)
                replace Rb := hid (Rb.out.kz hs)
                replace Rc := hid (Rc.out.kz hs)
                replace Q1 := hid (Q1.out.kz hs)
                replace Q2 := hid (Q2.out.kz hs)
                replace Q3 := hid (Q3.out.kz hs)
                replace Q4 := hid (Q4.out.kz hs)
                replace Q5 := hid (Q5.out.kz hs)
                replace Q9 := hid (Q9.out.kz hs)
                replace Q10 := hid (Q10.out.kz hs)
                clear hk hs hbx
                refine WE.done ?_
                go_upto_region 13 with (fail)
                refine wp_region_T [(0, 0), (1, 0), (2, 1), (3, 0), (4, 0), (5, 0), (6, 1), (7, 1), (8, 4), (9, 4)] (by kernel_rfl) fun wd hb => ?_
                replace E := hid (E.out.trans hb)
                replace Ba := hid (Ba.out.up hb)
                replace Bb := hid (Bb.out.up hb)
                replace Bc := hid (Bc.out.up hb)
                replace V7 := hid (V7.out.up hb)
                replace V8 := hid (V8.out.up hb)
                replace V9 := hid (V9.out.up hb)
                replace V10 := hid (V10.out.up hb)
                replace V11 := hid (V11.out.up hb)
                replace V12 := hid (V12.out.up hb)
                replace V13 := hid (V13.out.up hb)
                replace Na := hid (Na.out.up hb)
                replace Nb := hid (Nb.out.up hb)
                replace Nc := hid (Nc.out.up hb)
                replace Ra := hid (Ra.out.up hb)
                replace Rb := hid (Rb.out.up hb)
                replace Rc := hid (Rc.out.up hb)
                replace Q1 := hid (Q1.out.up hb)
                replace Q2 := hid (Q2.out.up hb)
                replace Q3 := hid (Q3.out.up hb)
                replace Q4 := hid (Q4.out.up hb)
                replace Q5 := hid (Q5.out.up hb)
                replace Q9 := hid (Q9.out.up hb)
                replace Q10 := hid (Q10.out.up hb)
                clear hb
                refine WE.pure (d := some 98) rfl rfl (by rfl) (v := (.agg #[.bool g2, .slice A2 n2 c2])) (fun w' hk => ?_) ?_
                · have c0 := hk.cell (V8.out.cell (o := 0) (v := .bool g2) rfl); have c1 := hk.cell (V8.out.cell (o := 1) (v := .slice A2 n2 c2) rfl); go_simp
                simp only [Act.put, List.setIfInBounds_toArray, List.set_cons_zero, List.set_cons_succ]
                refine WE.pure (d := some 99) rfl rfl (by rfl) (v := (.agg #[.bool g3, .slice A3 n3 c3])) (fun w' hk => ?_) ?_
                · have c0 := hk.cell (V9.out.cell (o := 0) (v := .bool g3) rfl); have c1 := hk.cell (V9.out.cell (o := 1) (v := .slice A3 n3 c3) rfl); go_simp
                simp only [Act.put, List.setIfInBounds_toArray, List.set_cons_zero, List.set_cons_succ]
                refine WE.call (d := some 100) rfl rfl (by rfl) (f := 24) (args := #[(.agg #[.bool g2, .slice A2 n2 c2]), (.agg #[.bool g3, .slice A3 n3 c3])]) (by go_simp) ?_
                refine (rFloor_w Q2.out.worth Q3.out.worth (by omega) (by omega)).mono ?_
                rintro e wn ⟨v1, v2, rfl, x1, x2, hb⟩
                obtain ⟨g11, A11, n11, c11, rfl⟩ := x1.shape
                obtain ⟨g12, A12, n12, c12, rfl⟩ := x2.shape
                refine ⟨_, rfl, hb, ?_⟩
                replace E := hid (E.out.trans hb)
                replace Ba := hid (Ba.out.up hb)
                replace Bb := hid (Bb.out.up hb)
                replace Bc := hid (Bc.out.up hb)
                replace V7 := hid (V7.out.up hb)
                replace V8 := hid (V8.out.up hb)
                replace V9 := hid (V9.out.up hb)
                replace V10 := hid (V10.out.up hb)
                replace V11 := hid (V11.out.up hb)
                replace V12 := hid (V12.out.up hb)
                replace V13 := hid (V13.out.up hb)
                replace Na := hid (Na.out.up hb)
                replace Nb := hid (Nb.out.up hb)
                replace Nc := hid (Nc.out.up hb)
                replace Ra := hid (Ra.out.up hb)
                replace Rb := hid (Rb.out.up hb)
                replace Rc := hid (Rc.out.up hb)
                replace Q1 := hid (Q1.out.up hb)
                replace Q2 := hid (Q2.out.up hb)
                replace Q3 := hid (Q3.out.up hb)
                replace Q4 := hid (Q4.out.up hb)
                replace Q5 := hid (Q5.out.up hb)
                replace Q9 := hid (Q9.out.up hb)
                replace Q10 := hid (Q10.out.up hb)
                have Q11 := hid x1
                have Q12 := hid x2
                clear hb x1 x2
                simp only [Act.put, List.setIfInBounds_toArray, List.set_cons_zero, List.set_cons_succ]
                refine WE.pure (d := some 97) rfl rfl (by rfl) (v := (.tuple #[(.agg #[.bool g11, .slice A11 n11 c11]), (.agg #[.bool g12, .slice A12 n12 c12])])) (fun w' hk => ?_) ?_
                · go_simp
                simp only [Act.put, List.setIfInBounds_toArray, List.set_cons_zero, List.set_cons_succ]
                refine WE.pure (d := some 101) rfl rfl (by rfl) (v := (.agg #[.bool g11, .slice A11 n11 c11])) (fun w' hk => ?_) ?_
                · go_simp
                simp only [Act.put, List.setIfInBounds_toArray, List.set_cons_zero, List.set_cons_succ]
                refine WE.pure (d := some 102) rfl rfl (by rfl) (v := (.agg #[.bool g12, .slice A12 n12 c12])) (fun w' hk => ?_) ?_
                · go_simp
                simp only [Act.put, List.setIfInBounds_toArray, List.set_cons_zero, List.set_cons_succ]
                refine WE.new (d := some 14) (cs := #[.bool false, .slice none 0 0]) (t := 24) (v := fun g => (.pointer (some ⟨g, 0, none⟩))) rfl rfl (by rfl) (fun w => by go_simp) fun gV14 wv hx0 hbox hge => ?_
                have HNV14Ba := hid (show gV14 ≠ (W.heap.size) by have := Ba.out.lt; omega)
                have HNV14Bb := hid (show gV14 ≠ (W.heap.size + 1) by have := Bb.out.lt; omega)
                have HNV14Bc := hid (show gV14 ≠ (W.heap.size + 2) by have := Bc.out.lt; omega)
                have HNV14V7 := hid (show gV14 ≠ gV7 by have := V7.out.lt; omega)
                have HNV14V8 := hid (show gV14 ≠ gV8 by have := V8.out.lt; omega)
                have HNV14V9 := hid (show gV14 ≠ gV9 by have := V9.out.lt; omega)
                have HNV14V10 := hid (show gV14 ≠ gV10 by have := V10.out.lt; omega)
                have HNV14V11 := hid (show gV14 ≠ gV11 by have := V11.out.lt; omega)
                have HNV14V12 := hid (show gV14 ≠ gV12 by have := V12.out.lt; omega)
                have HNV14V13 := hid (show gV14 ≠ gV13 by have := V13.out.lt; omega)
                have HGV14 := hid (show W.heap.size ≤ gV14 by have := E.out.size; omega)
                replace E := hid (E.out.trans hx0)
                replace Ba := hid (Ba.out.up hx0)
                replace Bb := hid (Bb.out.up hx0)
                replace Bc := hid (Bc.out.up hx0)
                replace V7 := hid (V7.out.up hx0)
                replace V8 := hid (V8.out.up hx0)
                replace V9 := hid (V9.out.up hx0)
                replace V10 := hid (V10.out.up hx0)
                replace V11 := hid (V11.out.up hx0)
                replace V12 := hid (V12.out.up hx0)
                replace V13 := hid (V13.out.up hx0)
                replace Na := hid (Na.out.up hx0)
                replace Nb := hid (Nb.out.up hx0)
                replace Nc := hid (Nc.out.up hx0)
                replace Ra := hid (Ra.out.up hx0)
                replace Rb := hid (Rb.out.up hx0)
                replace Rc := hid (Rc.out.up hx0)
                replace Q1 := hid (Q1.out.up hx0)
                replace Q2 := hid (Q2.out.up hx0)
                replace Q3 := hid (Q3.out.up hx0)
                replace Q4 := hid (Q4.out.up hx0)
                replace Q5 := hid (Q5.out.up hx0)
                replace Q9 := hid (Q9.out.up hx0)
                replace Q10 := hid (Q10.out.up hx0)
                replace Q11 := hid (Q11.out.up hx0)
                replace Q12 := hid (Q12.out.up hx0)
                have V14 : Hid (Box wv gV14 #[.bool false, .slice none 0 0] 24) := hid hbox
                clear hx0 hbox hge
                simp only [Act.put, List.setIfInBounds_toArray, List.set_cons_zero, List.set_cons_succ]
                refine WE.new (d := some 15) (cs := #[.bool false, .slice none 0 0]) (t := 24) (v := fun g => (.pointer (some ⟨g, 0, none⟩))) rfl rfl (by rfl) (fun w => by go_simp) fun gV15 wv hx0 hbox hge => ?_
                have HNV15Ba := hid (show gV15 ≠ (W.heap.size) by have := Ba.out.lt; omega)
                have HNV15Bb := hid (show gV15 ≠ (W.heap.size + 1) by have := Bb.out.lt; omega)
                have HNV15Bc := hid (show gV15 ≠ (W.heap.size + 2) by have := Bc.out.lt; omega)
                have HNV15V7 := hid (show gV15 ≠ gV7 by have := V7.out.lt; omega)
                have HNV15V8 := hid (show gV15 ≠ gV8 by have := V8.out.lt; omega)
                have HNV15V9 := hid (show gV15 ≠ gV9 by have := V9.out.lt; omega)
                have HNV15V10 := hid (show gV15 ≠ gV10 by have := V10.out.lt; omega)
                have HNV15V11 := hid (show gV15 ≠ gV11 by have := V11.out.lt; omega)
                have HNV15V12 := hid (show gV15 ≠ gV12 by have := V12.out.lt; omega)
                have HNV15V13 := hid (show gV15 ≠ gV13 by have := V13.out.lt; omega)
                have HNV15V14 := hid (show gV15 ≠ gV14 by have := V14.out.lt; omega)
                have HGV15 := hid (show W.heap.size ≤ gV15 by have := E.out.size; omega)
                replace E := hid (E.out.trans hx0)
                replace Ba := hid (Ba.out.up hx0)
                replace Bb := hid (Bb.out.up hx0)
                replace Bc := hid (Bc.out.up hx0)
                replace V7 := hid (V7.out.up hx0)
                replace V8 := hid (V8.out.up hx0)
                replace V9 := hid (V9.out.up hx0)
                replace V10 := hid (V10.out.up hx0)
                replace V11 := hid (V11.out.up hx0)
                replace V12 := hid (V12.out.up hx0)
                replace V13 := hid (V13.out.up hx0)
                replace V14 := hid (V14.out.up hx0)
                replace Na := hid (Na.out.up hx0)
                replace Nb := hid (Nb.out.up hx0)
                replace Nc := hid (Nc.out.up hx0)
                replace Ra := hid (Ra.out.up hx0)
                replace Rb := hid (Rb.out.up hx0)
                replace Rc := hid (Rc.out.up hx0)
                replace Q1 := hid (Q1.out.up hx0)
                replace Q2 := hid (Q2.out.up hx0)
                replace Q3 := hid (Q3.out.up hx0)
                replace Q4 := hid (Q4.out.up hx0)
                replace Q5 := hid (Q5.out.up hx0)
                replace Q9 := hid (Q9.out.up hx0)
                replace Q10 := hid (Q10.out.up hx0)
                replace Q11 := hid (Q11.out.up hx0)
                replace Q12 := hid (Q12.out.up hx0)
                have V15 : Hid (Box wv gV15 #[.bool false, .slice none 0 0] 24) := hid hbox
                clear hx0 hbox hge
                simp only [Act.put, List.setIfInBounds_toArray, List.set_cons_zero, List.set_cons_succ]
                as_aux_lemma =>
                  refine WE.store2 (g := gV14) (x := .bool g11) (y := .slice A11 n11 c11) (t := 24) rfl rfl (by rfl) (fun w hb => ?_) V14.out (by rfl) fun ws hk hs => ?_
                  · have c0 := hb.cell (o := 0) (v := .bool false) rfl; have f0 := hb.free 0; have c1 := hb.cell (o := 1) (v := .slice none 0 0) rfl; have f1 := hb.free 1; go_simp
                  intro hbx
                  replace E := hid (E.out.keptG hk HGV14.out)
                  replace Ba := hid (Ba.out.kept hk (by simpa using HNV14Ba.out.symm))
                  replace Bb := hid (Bb.out.kept hk (by simpa using HNV14Bb.out.symm))
                  replace Bc := hid (Bc.out.kept hk (by simpa using HNV14Bc.out.symm))
                  replace V7 := hid (V7.out.kept hk (by simpa using HNV14V7.out.symm))
                  replace V8 := hid (V8.out.kept hk (by simpa using HNV14V8.out.symm))
                  replace V9 := hid (V9.out.kept hk (by simpa using HNV14V9.out.symm))
                  replace V10 := hid (V10.out.kept hk (by simpa using HNV14V10.out.symm))
                  replace V11 := hid (V11.out.kept hk (by simpa using HNV14V11.out.symm))
                  replace V12 := hid (V12.out.kept hk (by simpa using HNV14V12.out.symm))
                  replace V13 := hid (V13.out.kept hk (by simpa using HNV14V13.out.symm))
                  replace V14 := hid hbx
                  replace V15 := hid (V15.out.kept hk (by simpa using HNV15V14.out))
                  replace Na := hid (Na.out.kz hs)
                  replace Nb := hid (Nb.out.kz hs)
                  replace Nc := hid (Nc.out.kz hs)
                  replace Ra := hid (Ra.out.kz hs)
                  replace Rb := hid (Rb.out.kz hs)
                  replace Rc := hid (Rc.out.kz hs)
                  replace Q1 := hid (Q1.out.kz hs)
                  replace Q2 := hid (Q2.out.kz hs)
                  replace Q3 := hid (Q3.out.kz hs)
                  replace Q4 := hid (Q4.out.kz hs)
                  replace Q5 := hid (Q5.out.kz hs)
                  replace Q9 := hid (Q9.out.kz hs)
                  replace Q10 := hid (Q10.out.kz hs)
                  replace Q11 := hid (Q11.out.kz hs)
                  replace Q12 := hid (Q12.out.kz hs)
                  clear hk hs hbx
                  refine WE.store2 (g := gV15) (x := .bool g12) (y := .slice A12 n12 c12) (t := 24) rfl rfl (by rfl) (fun w hb => ?_) V15.out (by rfl) fun ws hk hs => ?_
                  · have c0 := hb.cell (o := 0) (v := .bool false) rfl; have f0 := hb.free 0; have c1 := hb.cell (o := 1) (v := .slice none 0 0) rfl; have f1 := hb.free 1; go_simp
                  intro hbx
                  replace E := hid (E.out.keptG hk HGV15.out)
                  replace Ba := hid (Ba.out.kept hk (by simpa using HNV15Ba.out.symm))
                  replace Bb := hid (Bb.out.kept hk (by simpa using HNV15Bb.out.symm))
                  replace Bc := hid (Bc.out.kept hk (by simpa using HNV15Bc.out.symm))
                  replace V7 := hid (V7.out.kept hk (by simpa using HNV15V7.out.symm))
                  replace V8 := hid (V8.out.kept hk (by simpa using HNV15V8.out.symm))
                  replace V9 := hid (V9.out.kept hk (by simpa using HNV15V9.out.symm))
                  replace V10 := hid (V10.out.kept hk (by simpa using HNV15V10.out.symm))
                  replace V11 := hid (V11.out.kept hk (by simpa using HNV15V11.out.symm))
                  replace V12 := hid (V12.out.kept hk (by simpa using HNV15V12.out.symm))
                  replace V13 := hid (V13.out.kept hk (by simpa using HNV15V13.out.symm))
                  replace V14 := hid (V14.out.kept hk (by simpa using HNV15V14.out.symm))
                  replace V15 := hid hbx
                  replace Na := hid (Na.out.kz hs)
                  replace Nb := hid (Nb.out.kz hs)
                  replace Nc := hid (Nc.out.kz hs)
                  replace Ra := hid (Ra.out.kz hs)
                  replace Rb := hid (Rb.out.kz hs)
                  replace Rc := hid (Rc.out.kz hs)
                  replace Q1 := hid (Q1.out.kz hs)
                  replace Q2 := hid (Q2.out.kz hs)
                  replace Q3 := hid (Q3.out.kz hs)
                  replace Q4 := hid (Q4.out.kz hs)
                  replace Q5 := hid (Q5.out.kz hs)
                  replace Q9 := hid (Q9.out.kz hs)
                  replace Q10 := hid (Q10.out.kz hs)
                  replace Q11 := hid (Q11.out.kz hs)
                  replace Q12 := hid (Q12.out.kz hs)
                  clear hk hs hbx
                  refine WE.done ?_
                  go_upto_region 14 with (fail)
                  refine wp_region_E [(0, 0), (1, 1), (2, 0), (3, 0), (4, 0), (5, 1), (6, 0), (7, 0), (8, 0), (9, 0), (10, 0), (11, 0), (14, 0), (15, 0), (12, 1), (13, 1), (16, 1), (17, 1), (18, 1), (19, 0), (20, 0)] (fun _ => (0, #[])) rfl (by kernel_rfl) (by intro j hj; cases hj) (fun _ _ d _ _ => by cases d <;> exact Iff.rfl) fun wd hb => ?_
                  replace E := hid (E.out.trans hb)
                  replace Ba := hid (Ba.out.up hb)
                  replace Bb := hid (Bb.out.up hb)
                  replace Bc := hid (Bc.out.up hb)
                  replace V7 := hid (V7.out.up hb)
                  replace V8 := hid (V8.out.up hb)
                  replace V9 := hid (V9.out.up hb)
                  replace V10 := hid (V10.out.up hb)
                  replace V11 := hid (V11.out.up hb)
                  replace V12 := hid (V12.out.up hb)
                  replace V13 := hid (V13.out.up hb)
                  replace V14 := hid (V14.out.up hb)
                  replace V15 := hid (V15.out.up hb)
                  replace Na := hid (Na.out.up hb)
                  replace Nb := hid (Nb.out.up hb)
                  replace Nc := hid (Nc.out.up hb)
                  replace Ra := hid (Ra.out.up hb)
                  replace Rb := hid (Rb.out.up hb)
                  replace Rc := hid (Rc.out.up hb)
                  replace Q1 := hid (Q1.out.up hb)
                  replace Q2 := hid (Q2.out.up hb)
                  replace Q3 := hid (Q3.out.up hb)
                  replace Q4 := hid (Q4.out.up hb)
                  replace Q5 := hid (Q5.out.up hb)
                  replace Q9 := hid (Q9.out.up hb)
                  replace Q10 := hid (Q10.out.up hb)
                  replace Q11 := hid (Q11.out.up hb)
                  replace Q12 := hid (Q12.out.up hb)
                  clear hb
                  refine WE.pure (d := some 103) rfl rfl (by rfl) (v := (.agg #[.bool g10, .slice A10 n10 c10])) (fun w' hk => ?_) ?_
                  · have c0 := hk.cell (V13.out.cell (o := 0) (v := .bool g10) rfl); have c1 := hk.cell (V13.out.cell (o := 1) (v := .slice A10 n10 c10) rfl); go_simp
                  simp only [Act.put, List.setIfInBounds_toArray, List.set_cons_zero, List.set_cons_succ]
                  refine WE.call (d := some 104) rfl rfl (by rfl) (f := 20) (args := #[(.agg #[.bool g10, .slice A10 n10 c10])]) (by go_simp) ?_
                  refine (rSign_w Q10.out.worth (s := 0) (by rw [M.gcd_left]; rfl)).mono ?_
                  rintro e wn ⟨rfl, hb⟩
                  refine ⟨_, rfl, hb, ?_⟩
                  replace E := hid (E.out.trans hb)
                  replace Ba := hid (Ba.out.up hb)
                  replace Bb := hid (Bb.out.up hb)
                  replace Bc := hid (Bc.out.up hb)
                  replace V7 := hid (V7.out.up hb)
                  replace V8 := hid (V8.out.up hb)
                  replace V9 := hid (V9.out.up hb)
                  replace V10 := hid (V10.out.up hb)
                  replace V11 := hid (V11.out.up hb)
                  replace V12 := hid (V12.out.up hb)
                  replace V13 := hid (V13.out.up hb)
                  replace V14 := hid (V14.out.up hb)
                  replace V15 := hid (V15.out.up hb)
                  replace Na := hid (Na.out.up hb)
                  replace Nb := hid (Nb.out.up hb)
                  replace Nc := hid (Nc.out.up hb)
                  replace Ra := hid (Ra.out.up hb)
                  replace Rb := hid (Rb.out.up hb)
                  replace Rc := hid (Rc.out.up hb)
                  replace Q1 := hid (Q1.out.up hb)
                  replace Q2 := hid (Q2.out.up hb)
                  replace Q3 := hid (Q3.out.up hb)
                  replace Q4 := hid (Q4.out.up hb)
                  replace Q5 := hid (Q5.out.up hb)
                  replace Q9 := hid (Q9.out.up hb)
                  replace Q10 := hid (Q10.out.up hb)
                  replace Q11 := hid (Q11.out.up hb)
                  replace Q12 := hid (Q12.out.up hb)
                  clear hb
                  simp only [Act.put, List.setIfInBounds_toArray, List.set_cons_zero, List.set_cons_succ]
                  refine WE.pure (d := some 105) rfl rfl (by rfl) (v := (.bool true)) (fun w' hk => ?_) ?_
                  · go_simp
                  simp only [Act.put, List.setIfInBounds_toArray, List.set_cons_zero, List.set_cons_succ]
                  refine WE.pure (d := some 106) rfl rfl (by rfl) (v := (.bool true)) (fun w' hk => ?_) ?_
                  · go_simp
                  simp only [Act.put, List.setIfInBounds_toArray, List.set_cons_zero, List.set_cons_succ]
                  refine WE.pure (d := some 107) rfl rfl (by rfl) (v := (.agg #[.bool g12, .slice A12 n12 c12])) (fun w' hk => ?_) ?_
                  · have c0 := hk.cell (V15.out.cell (o := 0) (v := .bool g12) rfl); have c1 := hk.cell (V15.out.cell (o := 1) (v := .slice A12 n12 c12) rfl); go_simp
                  simp only [Act.put, List.setIfInBounds_toArray, List.set_cons_zero, List.set_cons_succ]
                  refine WE.call (d := some 108) rfl rfl (by rfl) (f := 20) (args := #[(.agg #[.bool g12, .slice A12 n12 c12])]) (by go_simp) ?_
                  refine (rSign_w Q12.out.worth (s := 0) (by rw [M.gcd_right]; rfl)).mono ?_
                  rintro e wn ⟨rfl, hb⟩
                  refine ⟨_, rfl, hb, ?_⟩
                  replace E := hid (E.out.trans hb)
                  replace Ba := hid (Ba.out.up hb)
                  replace Bb := hid (Bb.out.up hb)
                  replace Bc := hid (Bc.out.up hb)
                  replace V7 := hid (V7.out.up hb)
                  replace V8 := hid (V8.out.up hb)
                  replace V9 := hid (V9.out.up hb)
                  replace V10 := hid (V10.out.up hb)
                  replace V11 := hid (V11.out.up hb)
                  replace V12 := hid (V12.out.up hb)
                  replace V13 := hid (V13.out.up hb)
                  replace V14 := hid (V14.out.up hb)
                  replace V15 := hid (V15.out.up hb)
                  replace Na := hid (Na.out.up hb)
                  replace Nb := hid (Nb.out.up hb)
                  replace Nc := hid (Nc.out.up hb)
                  replace Ra := hid (Ra.out.up hb)
                  replace Rb := hid (Rb.out.up hb)
                  replace Rc := hid (Rc.out.up hb)
                  replace Q1 := hid (Q1.out.up hb)
                  replace Q2 := hid (Q2.out.up hb)
                  replace Q3 := hid (Q3.out.up hb)
                  replace Q4 := hid (Q4.out.up hb)
                  replace Q5 := hid (Q5.out.up hb)
                  replace Q9 := hid (Q9.out.up hb)
                  replace Q10 := hid (Q10.out.up hb)
                  replace Q11 := hid (Q11.out.up hb)
                  replace Q12 := hid (Q12.out.up hb)
                  clear hb
                  simp only [Act.put, List.setIfInBounds_toArray, List.set_cons_zero, List.set_cons_succ]
                  refine WE.pure (d := some 109) rfl rfl (by rfl) (v := (.bool true)) (fun w' hk => ?_) ?_
                  · go_simp
                  simp only [Act.put, List.setIfInBounds_toArray, List.set_cons_zero, List.set_cons_succ]
                  refine WE.pure (d := some 110) rfl rfl (by rfl) (v := (.bool true)) (fun w' hk => ?_) ?_
                  · go_simp
                  simp only [Act.put, List.setIfInBounds_toArray, List.set_cons_zero, List.set_cons_succ]
                  refine WE.pure (d := some 111) rfl rfl (by rfl) (v := (.bool true)) (fun w' hk => ?_) ?_
                  · go_simp
                  simp only [Act.put, List.setIfInBounds_toArray, List.set_cons_zero, List.set_cons_succ]
                  refine WE.pure (d := some 112) rfl rfl (by rfl) (v := (.agg #[.bool g3, .slice A3 n3 c3])) (fun w' hk => ?_) ?_
                  · have c0 := hk.cell (V9.out.cell (o := 0) (v := .bool g3) rfl); have c1 := hk.cell (V9.out.cell (o := 1) (v := .slice A3 n3 c3) rfl); go_simp
                  simp only [Act.put, List.setIfInBounds_toArray, List.set_cons_zero, List.set_cons_succ]
                  as_aux_lemma =>
                    refine WE.pure (d := some 113) rfl rfl (by rfl) (v := (.agg #[.bool g1, .slice A1 n1 c1])) (fun w' hk => ?_) ?_
                    · have c0 := hk.cell (V7.out.cell (o := 0) (v := .bool g1) rfl); have c1 := hk.cell (V7.out.cell (o := 1) (v := .slice A1 n1 c1) rfl); go_simp
                    simp only [Act.put, List.setIfInBounds_toArray, List.set_cons_zero, List.set_cons_succ]
                    refine WE.pure (d := some 114) rfl rfl (by rfl) (v := (.agg #[.bool g2, .slice A2 n2 c2])) (fun w' hk => ?_) ?_
                    · have c0 := hk.cell (V8.out.cell (o := 0) (v := .bool g2) rfl); have c1 := hk.cell (V8.out.cell (o := 1) (v := .slice A2 n2 c2) rfl); go_simp
                    simp only [Act.put, List.setIfInBounds_toArray, List.set_cons_zero, List.set_cons_succ]
                    refine WE.pure (d := some 117) rfl rfl (by rfl) (v := (.agg #[.bool g1, .slice A1 n1 c1])) (fun w' hk => ?_) ?_
                    · have c0 := hk.cell (V7.out.cell (o := 0) (v := .bool g1) rfl); have c1 := hk.cell (V7.out.cell (o := 1) (v := .slice A1 n1 c1) rfl); go_simp
                    simp only [Act.put, List.setIfInBounds_toArray, List.set_cons_zero, List.set_cons_succ]
                    refine WE.pure (d := some 118) rfl rfl (by rfl) (v := (.agg #[.bool g2, .slice A2 n2 c2])) (fun w' hk => ?_) ?_
                    · have c0 := hk.cell (V8.out.cell (o := 0) (v := .bool g2) rfl); have c1 := hk.cell (V8.out.cell (o := 1) (v := .slice A2 n2 c2) rfl); go_simp
                    simp only [Act.put, List.setIfInBounds_toArray, List.set_cons_zero, List.set_cons_succ]
                    refine WE.call (d := some 115) rfl rfl (by rfl) (f := 13) (args := #[(.agg #[.bool g1, .slice A1 n1 c1]), (.agg #[.bool g2, .slice A2 n2 c2])]) (by go_simp) ?_
                    refine (gLcm_w (Worth.wide Q1.out.worth (k := 20) (by omega)) (Worth.wide Q2.out.worth (k := 20) (by omega)) (by omega) (by omega)).mono ?_
                    rintro e wn ⟨v1, rfl, x1, hb⟩
                    obtain ⟨g13, A13, n13, c13, rfl⟩ := x1.shape
                    refine ⟨_, rfl, hb, ?_⟩
                    replace E := hid (E.out.trans hb)
                    replace Ba := hid (Ba.out.up hb)
                    replace Bb := hid (Bb.out.up hb)
                    replace Bc := hid (Bc.out.up hb)
                    replace V7 := hid (V7.out.up hb)
                    replace V8 := hid (V8.out.up hb)
                    replace V9 := hid (V9.out.up hb)
                    replace V10 := hid (V10.out.up hb)
                    replace V11 := hid (V11.out.up hb)
                    replace V12 := hid (V12.out.up hb)
                    replace V13 := hid (V13.out.up hb)
                    replace V14 := hid (V14.out.up hb)
                    replace V15 := hid (V15.out.up hb)
                    replace Na := hid (Na.out.up hb)
                    replace Nb := hid (Nb.out.up hb)
                    replace Nc := hid (Nc.out.up hb)
                    replace Ra := hid (Ra.out.up hb)
                    replace Rb := hid (Rb.out.up hb)
                    replace Rc := hid (Rc.out.up hb)
                    replace Q1 := hid (Q1.out.up hb)
                    replace Q2 := hid (Q2.out.up hb)
                    replace Q3 := hid (Q3.out.up hb)
                    replace Q4 := hid (Q4.out.up hb)
                    replace Q5 := hid (Q5.out.up hb)
                    replace Q9 := hid (Q9.out.up hb)
                    replace Q10 := hid (Q10.out.up hb)
                    replace Q11 := hid (Q11.out.up hb)
                    replace Q12 := hid (Q12.out.up hb)
                    have Q13 := hid x1
                    clear hb x1
                    simp only [Act.put, List.setIfInBounds_toArray, List.set_cons_zero, List.set_cons_succ]
                    refine WE.call (d := some 116) rfl rfl (by rfl) (f := 19) (args := #[(.agg #[.bool g3, .slice A3 n3 c3]), (.agg #[.bool g13, .slice A13 n13 c13])]) (by go_simp) ?_
                    refine (rMul_w Q3.out.worth Q13.out.worth (by omega) (by omega)).mono ?_
                    rintro e wn ⟨v1, rfl, x1, hb⟩
                    obtain ⟨g14, A14, n14, c14, rfl⟩ := x1.shape
                    refine ⟨_, rfl, hb, ?_⟩
                    replace E := hid (E.out.trans hb)
                    replace Ba := hid (Ba.out.up hb)
                    replace Bb := hid (Bb.out.up hb)
                    replace Bc := hid (Bc.out.up hb)
                    replace V7 := hid (V7.out.up hb)
                    replace V8 := hid (V8.out.up hb)
                    replace V9 := hid (V9.out.up hb)
                    replace V10 := hid (V10.out.up hb)
                    replace V11 := hid (V11.out.up hb)
                    replace V12 := hid (V12.out.up hb)
                    replace V13 := hid (V13.out.up hb)
                    replace V14 := hid (V14.out.up hb)
                    replace V15 := hid (V15.out.up hb)
                    replace Na := hid (Na.out.up hb)
                    replace Nb := hid (Nb.out.up hb)
                    replace Nc := hid (Nc.out.up hb)
                    replace Ra := hid (Ra.out.up hb)
                    replace Rb := hid (Rb.out.up hb)
                    replace Rc := hid (Rc.out.up hb)
                    replace Q1 := hid (Q1.out.up hb)
                    replace Q2 := hid (Q2.out.up hb)
                    replace Q3 := hid (Q3.out.up hb)
                    replace Q4 := hid (Q4.out.up hb)
                    replace Q5 := hid (Q5.out.up hb)
                    replace Q9 := hid (Q9.out.up hb)
                    replace Q10 := hid (Q10.out.up hb)
                    replace Q11 := hid (Q11.out.up hb)
                    replace Q12 := hid (Q12.out.up hb)
                    replace Q13 := hid (Q13.out.up hb)
                    have Q14 := hid x1
                    clear hb x1
                    simp only [Act.put, List.setIfInBounds_toArray, List.set_cons_zero, List.set_cons_succ]
                    clear Q13
                    refine WE.call (d := some 119) rfl rfl (by rfl) (f := 19) (args := #[(.agg #[.bool g1, .slice A1 n1 c1]), (.agg #[.bool g2, .slice A2 n2 c2])]) (by go_simp) ?_
                    refine (rMul_w Q1.out.worth Q2.out.worth (by omega) (by omega)).mono ?_
                    rintro e wn ⟨v1, rfl, x1, hb⟩
                    obtain ⟨g15, A15, n15, c15, rfl⟩ := x1.shape
                    refine ⟨_, rfl, hb, ?_⟩
                    replace E := hid (E.out.trans hb)
                    replace Ba := hid (Ba.out.up hb)
                    replace Bb := hid (Bb.out.up hb)
                    replace Bc := hid (Bc.out.up hb)
                    replace V7 := hid (V7.out.up hb)
                    replace V8 := hid (V8.out.up hb)
                    replace V9 := hid (V9.out.up hb)
                    replace V10 := hid (V10.out.up hb)
                    replace V11 := hid (V11.out.up hb)
                    replace V12 := hid (V12.out.up hb)
                    replace V13 := hid (V13.out.up hb)
                    replace V14 := hid (V14.out.up hb)
                    replace V15 := hid (V15.out.up hb)
                    replace Na := hid (Na.out.up hb)
                    replace Nb := hid (Nb.out.up hb)
                    replace Nc := hid (Nc.out.up hb)
                    replace Ra := hid (Ra.out.up hb)
                    replace Rb := hid (Rb.out.up hb)
                    replace Rc := hid (Rc.out.up hb)
                    replace Q1 := hid (Q1.out.up hb)
                    replace Q2 := hid (Q2.out.up hb)
                    replace Q3 := hid (Q3.out.up hb)
                    replace Q4 := hid (Q4.out.up hb)
                    replace Q5 := hid (Q5.out.up hb)
                    replace Q9 := hid (Q9.out.up hb)
                    replace Q10 := hid (Q10.out.up hb)
                    replace Q11 := hid (Q11.out.up hb)
                    replace Q12 := hid (Q12.out.up hb)
                    replace Q14 := hid (Q14.out.up hb)
                    have Q15 := hid x1
                    clear hb x1
                    simp only [Act.put, List.setIfInBounds_toArray, List.set_cons_zero, List.set_cons_succ]
                    refine WE.call (d := some 120) rfl rfl (by rfl) (f := 22) (args := #[(.agg #[.bool g15, .slice A15 n15 c15])]) (by go_simp) ?_
                    refine (rAbs_w Q15.out.worth).mono ?_
                    rintro e wn ⟨v1, rfl, x1, hb⟩
                    obtain ⟨g16, A16, n16, c16, rfl⟩ := x1.shape
                    refine ⟨_, rfl, hb, ?_⟩
                    replace E := hid (E.out.trans hb)
                    replace Ba := hid (Ba.out.up hb)
                    replace Bb := hid (Bb.out.up hb)
                    replace Bc := hid (Bc.out.up hb)
                    replace V7 := hid (V7.out.up hb)
                    replace V8 := hid (V8.out.up hb)
                    replace V9 := hid (V9.out.up hb)
                    replace V10 := hid (V10.out.up hb)
                    replace V11 := hid (V11.out.up hb)
                    replace V12 := hid (V12.out.up hb)
                    replace V13 := hid (V13.out.up hb)
                    replace V14 := hid (V14.out.up hb)
                    replace V15 := hid (V15.out.up hb)
                    replace Na := hid (Na.out.up hb)
                    replace Nb := hid (Nb.out.up hb)
                    replace Nc := hid (Nc.out.up hb)
                    replace Ra := hid (Ra.out.up hb)
                    replace Rb := hid (Rb.out.up hb)
                    replace Rc := hid (Rc.out.up hb)
                    replace Q1 := hid (Q1.out.up hb)
                    replace Q2 := hid (Q2.out.up hb)
                    replace Q3 := hid (Q3.out.up hb)
                    replace Q4 := hid (Q4.out.up hb)
                    replace Q5 := hid (Q5.out.up hb)
                    replace Q9 := hid (Q9.out.up hb)
                    replace Q10 := hid (Q10.out.up hb)
                    replace Q11 := hid (Q11.out.up hb)
                    replace Q12 := hid (Q12.out.up hb)
                    replace Q14 := hid (Q14.out.up hb)
                    replace Q15 := hid (Q15.out.up hb)
                    have Q16 := hid x1
                    clear hb x1
                    simp only [Act.put, List.setIfInBounds_toArray, List.set_cons_zero, List.set_cons_succ]
                    clear Q15
                    refine WE.call (d := some 121) rfl rfl (by rfl) (f := 11) (args := #[(.agg #[.bool g14, .slice A14 n14 c14]), (.agg #[.bool g16, .slice A16 n16 c16])]) (by go_simp) ?_
                    refine (equal_z (IsZ.to Q14.out (M.gcd_lcm_abs _ _)) (IsZ.to Q16.out (rfl))).mono ?_
                    rintro e wn ⟨rfl, hb⟩
                    refine ⟨_, rfl, hb, ?_⟩
                    replace E := hid (E.out.trans hb)
                    replace Ba := hid (Ba.out.up hb)
                    replace Bb := hid (Bb.out.up hb)
                    replace Bc := hid (Bc.out.up hb)
                    replace V7 := hid (V7.out.up hb)
                    replace V8 := hid (V8.out.up hb)
                    replace V9 := hid (V9.out.up hb)
                    replace V10 := hid (V10.out.up hb)
                    replace V11 := hid (V11.out.up hb)
                    replace V12 := hid (V12.out.up hb)
                    replace V13 := hid (V13.out.up hb)
                    replace V14 := hid (V14.out.up hb)
                    replace V15 := hid (V15.out.up hb)
                    replace Na := hid (Na.out.up hb)
                    replace Nb := hid (Nb.out.up hb)
                    replace Nc := hid (Nc.out.up hb)
                    replace Ra := hid (Ra.out.up hb)
                    replace Rb := hid (Rb.out.up hb)
                    replace Rc := hid (Rc.out.up hb)
                    replace Q1 := hid (Q1.out.up hb)
                    replace Q2 := hid (Q2.out.up hb)
                    replace Q3 := hid (Q3.out.up hb)
                    replace Q4 := hid (Q4.out.up hb)
                    replace Q5 := hid (Q5.out.up hb)
                    replace Q9 := hid (Q9.out.up hb)
                    replace Q10 := hid (Q10.out.up hb)
                    replace Q11 := hid (Q11.out.up hb)
                    replace Q12 := hid (Q12.out.up hb)
                    replace Q14 := hid (Q14.out.up hb)
                    replace Q16 := hid (Q16.out.up hb)
                    clear hb
                    simp only [Act.put, List.setIfInBounds_toArray, List.set_cons_zero, List.set_cons_succ]
                    clear Q14
                    clear Q16
                    refine WE.pure (d := some 122) rfl rfl (by rfl) (v := (.bool true)) (fun w' hk => ?_) ?_
                    · go_simp
                    simp only [Act.put, List.setIfInBounds_toArray, List.set_cons_zero, List.set_cons_succ]
                    refine WE.pure (d := some 6) rfl rfl (by rfl) (v := (.bool true)) (fun w' hk => ?_) ?_
                    · go_simp
                    simp only [Act.put, List.setIfInBounds_toArray, List.set_cons_zero, List.set_cons_succ]
                    refine WE.done ?_
                    repeat go_step
                    go_ret
                    exact ⟨rfl, E.out⟩

set_option maxRecDepth 100000 in
set_option maxHeartbeats 8000000 in
theorem gcdDivides_nought (W : World) (ga : Bool) (Aa : Option Addr) (na ca : Nat) (la : List Nat) (ha : Num W W.heap.size (.slice Aa na ca) la) (gb : Bool) (Ab : Option Addr) (nb cb : Nat) (lb : List Nat) (hb : Num W W.heap.size (.slice Ab nb cb) lb) (gc : Bool) (Ac : Option Addr) (nc cc : Nat) (lc : List Nat) (hc : Num W W.heap.size (.slice Ac nc cc) lc) (fa : Hid (decide (la.length ≤ 6) = true)) (fb : Hid (decide (lb.length ≤ 6) = true)) (fc : Hid (decide (lc.length ≤ 6) = true)) (ia : Hid (M.isZ ga la = true)) (ib : Hid (M.isZ gb lb = true)) (x : Int) (HX : Hid (x = M.zv ga la)) (y : Int) (HY : Hid (y = M.zv gb lb)) (z : Int) (HZ : Hid (z = M.zv gc lc)) (hcond : Hid (z = 0)) :
    Calls Try.prog 5 #[.agg #[.bool ga, .slice Aa na ca], .agg #[.bool gb, .slice Ab nb cb], .agg #[.bool gc, .slice Ac nc cc]] W (fun e w' => e = .returned (.bool true) ∧ Ext W w') := by
  have Na := hid ha
  have Nb := hid hb
  have Nc := hid hc
  have Ra := hid (worth_of ha (of_decide_eq_true fa.out) HX.out)
  have Rb := hid (worth_of hb (of_decide_eq_true fb.out) HY.out)
  have Rc := hid (worth_of hc (of_decide_eq_true fc.out) HZ.out)
  clear ha hb hc
  go_enter Try.func5, Try.ntmps5
  go_upto_region 1 with (fail)
  have E := hid ((((Ext.refl W).alloc' (.cells #[.bool ga, .slice Aa na ca] 24)).alloc' (.cells #[.bool gb, .slice Ab nb cb] 24)).alloc' (.cells #[.bool gc, .slice Ac nc cc] 24))
  have Ba : Hid (Box (((W.alloc (.cells #[.bool ga, .slice Aa na ca] 24)).alloc (.cells #[.bool gb, .slice Ab nb cb] 24)).alloc (.cells #[.bool gc, .slice Ac nc cc] 24)) (W.heap.size) #[.bool ga, .slice Aa na ca] 24) := hid (((Box.at_ (w := W) #[.bool ga, .slice Aa na ca] 24 (by simp)).alloc (.cells #[.bool gb, .slice Ab nb cb] 24)).alloc (.cells #[.bool gc, .slice Ac nc cc] 24))
  have Bb : Hid (Box (((W.alloc (.cells #[.bool ga, .slice Aa na ca] 24)).alloc (.cells #[.bool gb, .slice Ab nb cb] 24)).alloc (.cells #[.bool gc, .slice Ac nc cc] 24)) (W.heap.size + 1) #[.bool gb, .slice Ab nb cb] 24) := hid ((Box.at_ (w := (W.alloc (.cells #[.bool ga, .slice Aa na ca] 24))) #[.bool gb, .slice Ab nb cb] 24 (by simp)).alloc (.cells #[.bool gc, .slice Ac nc cc] 24))
  have Bc : Hid (Box (((W.alloc (.cells #[.bool ga, .slice Aa na ca] 24)).alloc (.cells #[.bool gb, .slice Ab nb cb] 24)).alloc (.cells #[.bool gc, .slice Ac nc cc] 24)) (W.heap.size + 2) #[.bool gc, .slice Ac nc cc] 24) := hid (Box.at_ (w := ((W.alloc (.cells #[.bool ga, .slice Aa na ca] 24)).alloc (.cells #[.bool gb, .slice Ab nb cb] 24))) #[.bool gc, .slice Ac nc cc] 24 (by simp))
  replace Na := hid (Na.out.up E.out)
  replace Nb := hid (Nb.out.up E.out)
  replace Nc := hid (Nc.out.up E.out)
  replace Ra := hid (Ra.out.up E.out)
  replace Rb := hid (Rb.out.up E.out)
  replace Rc := hid (Rc.out.up E.out)
  go_upto_region 1 with (fail)
  refine wp_region_T [(0, 1), (1, 0)] (by kernel_rfl) fun wd hb => ?_
  replace E := hid (E.out.trans hb)
  replace Ba := hid (Ba.out.up hb)
  replace Bb := hid (Bb.out.up hb)
  replace Bc := hid (Bc.out.up hb)
  replace Na := hid (Na.out.up hb)
  replace Nb := hid (Nb.out.up hb)
  replace Nc := hid (Nc.out.up hb)
  replace Ra := hid (Ra.out.up hb)
  replace Rb := hid (Rb.out.up hb)
  replace Rc := hid (Rc.out.up hb)
  clear hb
  refine WE.call (d := some 16) rfl rfl (by rfl) (f := 8) (args := #[]) (by go_simp) ?_
  refine (known4 _).mono ?_
  rintro e wn ⟨rfl, hb⟩
  refine ⟨_, rfl, hb, ?_⟩
  replace E := hid (E.out.trans hb)
  replace Ba := hid (Ba.out.up hb)
  replace Bb := hid (Bb.out.up hb)
  replace Bc := hid (Bc.out.up hb)
  replace Na := hid (Na.out.up hb)
  replace Nb := hid (Nb.out.up hb)
  replace Nc := hid (Nc.out.up hb)
  replace Ra := hid (Ra.out.up hb)
  replace Rb := hid (Rb.out.up hb)
  replace Rc := hid (Rc.out.up hb)
  clear hb
  simp only [Act.put, List.setIfInBounds_toArray, List.set_cons_zero, List.set_cons_succ]
  refine WE.pure (d := some 17) rfl rfl (by rfl) (v := (.bool false)) (fun w' hk => ?_) ?_
  · go_simp
  simp only [Act.put, List.setIfInBounds_toArray, List.set_cons_zero, List.set_cons_succ]
  refine WE.done ?_
  go_upto_region 3 with (fail)
  refine wp_region_T [(0, 0), (1, 1), (2, 0), (3, 0), (4, 0), (5, 1), (6, 0), (7, 0), (8, 0), (9, 0), (10, 1), (11, 0), (12, 0), (13, 0), (14, 0), (15, 1), (16, 0), (17, 0), (18, 0), (19, 0), (20, 1), (21, 0), (22, 0), (23, 0), (24, 0), (25, 1), (26, 0), (27, 0)] (by kernel_rfl) fun wd hb => ?_
  replace E := hid (E.out.trans hb)
  replace Ba := hid (Ba.out.up hb)
  replace Bb := hid (Bb.out.up hb)
  replace Bc := hid (Bc.out.up hb)
  replace Na := hid (Na.out.up hb)
  replace Nb := hid (Nb.out.up hb)
  replace Nc := hid (Nc.out.up hb)
  replace Ra := hid (Ra.out.up hb)
  replace Rb := hid (Rb.out.up hb)
  replace Rc := hid (Rc.out.up hb)
  clear hb
  refine WE.pure (d := some 18) rfl rfl (by rfl) (v := (.agg #[.bool ga, .slice Aa na ca])) (fun w' hk => ?_) ?_
  · have c0 := hk.cell (Ba.out.cell (o := 0) (v := .bool ga) rfl); have c1 := hk.cell (Ba.out.cell (o := 1) (v := .slice Aa na ca) rfl); go_simp
  simp only [Act.put, List.setIfInBounds_toArray, List.set_cons_zero, List.set_cons_succ]
  refine WE.call (d := some 19) rfl rfl (by rfl) (f := 9) (args := #[(.agg #[.bool ga, .slice Aa na ca])]) (by go_simp) ?_
  refine (few4_z Na.out fa.out).mono ?_
  rintro e wn ⟨rfl, hb⟩
  refine ⟨_, rfl, hb, ?_⟩
  replace E := hid (E.out.trans hb)
  replace Ba := hid (Ba.out.up hb)
  replace Bb := hid (Bb.out.up hb)
  replace Bc := hid (Bc.out.up hb)
  replace Na := hid (Na.out.up hb)
  replace Nb := hid (Nb.out.up hb)
  replace Nc := hid (Nc.out.up hb)
  replace Ra := hid (Ra.out.up hb)
  replace Rb := hid (Rb.out.up hb)
  replace Rc := hid (Rc.out.up hb)
  clear hb
  simp only [Act.put, List.setIfInBounds_toArray, List.set_cons_zero, List.set_cons_succ]
  refine WE.pure (d := some 20) rfl rfl (by rfl) (v := (.bool false)) (fun w' hk => ?_) ?_
  · go_simp
  simp only [Act.put, List.setIfInBounds_toArray, List.set_cons_zero, List.set_cons_succ]
  refine WE.pure (d := some 21) rfl rfl (by rfl) (v := (.bool false)) (fun w' hk => ?_) ?_
  · go_simp
  simp only [Act.put, List.setIfInBounds_toArray, List.set_cons_zero, List.set_cons_succ]
  refine WE.pure (d := some 22) rfl rfl (by rfl) (v := (.agg #[.bool gb, .slice Ab nb cb])) (fun w' hk => ?_) ?_
  · have c0 := hk.cell (Bb.out.cell (o := 0) (v := .bool gb) rfl); have c1 := hk.cell (Bb.out.cell (o := 1) (v := .slice Ab nb cb) rfl); go_simp
  simp only [Act.put, List.setIfInBounds_toArray, List.set_cons_zero, List.set_cons_succ]
  refine WE.call (d := some 23) rfl rfl (by rfl) (f := 9) (args := #[(.agg #[.bool gb, .slice Ab nb cb])]) (by go_simp) ?_
  refine (few4_z Nb.out fb.out).mono ?_
  rintro e wn ⟨rfl, hb⟩
  refine ⟨_, rfl, hb, ?_⟩
  replace E := hid (E.out.trans hb)
  replace Ba := hid (Ba.out.up hb)
  replace Bb := hid (Bb.out.up hb)
  replace Bc := hid (Bc.out.up hb)
  replace Na := hid (Na.out.up hb)
  replace Nb := hid (Nb.out.up hb)
  replace Nc := hid (Nc.out.up hb)
  replace Ra := hid (Ra.out.up hb)
  replace Rb := hid (Rb.out.up hb)
  replace Rc := hid (Rc.out.up hb)
  clear hb
  simp only [Act.put, List.setIfInBounds_toArray, List.set_cons_zero, List.set_cons_succ]
  refine WE.pure (d := some 24) rfl rfl (by rfl) (v := (.bool false)) (fun w' hk => ?_) ?_
  · go_simp
  simp only [Act.put, List.setIfInBounds_toArray, List.set_cons_zero, List.set_cons_succ]
  refine WE.pure (d := some 25) rfl rfl (by rfl) (v := (.bool false)) (fun w' hk => ?_) ?_
  · go_simp
  simp only [Act.put, List.setIfInBounds_toArray, List.set_cons_zero, List.set_cons_succ]
  refine WE.pure (d := some 26) rfl rfl (by rfl) (v := (.bool false)) (fun w' hk => ?_) ?_
  · go_simp
  simp only [Act.put, List.setIfInBounds_toArray, List.set_cons_zero, List.set_cons_succ]
  as_aux_lemma =>
    refine WE.pure (d := some 27) rfl rfl (by rfl) (v := (.agg #[.bool gc, .slice Ac nc cc])) (fun w' hk => ?_) ?_
    · have c0 := hk.cell (Bc.out.cell (o := 0) (v := .bool gc) rfl); have c1 := hk.cell (Bc.out.cell (o := 1) (v := .slice Ac nc cc) rfl); go_simp
    simp only [Act.put, List.setIfInBounds_toArray, List.set_cons_zero, List.set_cons_succ]
    refine WE.call (d := some 28) rfl rfl (by rfl) (f := 9) (args := #[(.agg #[.bool gc, .slice Ac nc cc])]) (by go_simp) ?_
    refine (few4_z Nc.out fc.out).mono ?_
    rintro e wn ⟨rfl, hb⟩
    refine ⟨_, rfl, hb, ?_⟩
    replace E := hid (E.out.trans hb)
    replace Ba := hid (Ba.out.up hb)
    replace Bb := hid (Bb.out.up hb)
    replace Bc := hid (Bc.out.up hb)
    replace Na := hid (Na.out.up hb)
    replace Nb := hid (Nb.out.up hb)
    replace Nc := hid (Nc.out.up hb)
    replace Ra := hid (Ra.out.up hb)
    replace Rb := hid (Rb.out.up hb)
    replace Rc := hid (Rc.out.up hb)
    clear hb
    simp only [Act.put, List.setIfInBounds_toArray, List.set_cons_zero, List.set_cons_succ]
    refine WE.pure (d := some 29) rfl rfl (by rfl) (v := (.bool false)) (fun w' hk => ?_) ?_
    · go_simp
    simp only [Act.put, List.setIfInBounds_toArray, List.set_cons_zero, List.set_cons_succ]
    refine WE.pure (d := some 30) rfl rfl (by rfl) (v := (.bool false)) (fun w' hk => ?_) ?_
    · go_simp
    simp only [Act.put, List.setIfInBounds_toArray, List.set_cons_zero, List.set_cons_succ]
    refine WE.pure (d := some 31) rfl rfl (by rfl) (v := (.bool false)) (fun w' hk => ?_) ?_
    · go_simp
    simp only [Act.put, List.setIfInBounds_toArray, List.set_cons_zero, List.set_cons_succ]
    refine WE.pure (d := some 32) rfl rfl (by rfl) (v := (.agg #[.bool ga, .slice Aa na ca])) (fun w' hk => ?_) ?_
    · have c0 := hk.cell (Ba.out.cell (o := 0) (v := .bool ga) rfl); have c1 := hk.cell (Ba.out.cell (o := 1) (v := .slice Aa na ca) rfl); go_simp
    simp only [Act.put, List.setIfInBounds_toArray, List.set_cons_zero, List.set_cons_succ]
    refine WE.call (d := some 33) rfl rfl (by rfl) (f := 16) (args := #[(.agg #[.bool ga, .slice Aa na ca])]) (by go_simp) ?_
    refine (rzIs_any Na.out ia.out).mono ?_
    rintro e wn ⟨rfl, hb⟩
    refine ⟨_, rfl, hb, ?_⟩
    replace E := hid (E.out.trans hb)
    replace Ba := hid (Ba.out.up hb)
    replace Bb := hid (Bb.out.up hb)
    replace Bc := hid (Bc.out.up hb)
    replace Na := hid (Na.out.up hb)
    replace Nb := hid (Nb.out.up hb)
    replace Nc := hid (Nc.out.up hb)
    replace Ra := hid (Ra.out.up hb)
    replace Rb := hid (Rb.out.up hb)
    replace Rc := hid (Rc.out.up hb)
    clear hb
    simp only [Act.put, List.setIfInBounds_toArray, List.set_cons_zero, List.set_cons_succ]
    refine WE.pure (d := some 34) rfl rfl (by rfl) (v := (.bool false)) (fun w' hk => ?_) ?_
    · go_simp
    simp only [Act.put, List.setIfInBounds_toArray, List.set_cons_zero, List.set_cons_succ]
    refine WE.pure (d := some 35) rfl rfl (by rfl) (v := (.bool false)) (fun w' hk => ?_) ?_
    · go_simp
    simp only [Act.put, List.setIfInBounds_toArray, List.set_cons_zero, List.set_cons_succ]
    refine WE.pure (d := some 36) rfl rfl (by rfl) (v := (.bool false)) (fun w' hk => ?_) ?_
    · go_simp
    simp only [Act.put, List.setIfInBounds_toArray, List.set_cons_zero, List.set_cons_succ]
    refine WE.pure (d := some 37) rfl rfl (by rfl) (v := (.agg #[.bool gb, .slice Ab nb cb])) (fun w' hk => ?_) ?_
    · have c0 := hk.cell (Bb.out.cell (o := 0) (v := .bool gb) rfl); have c1 := hk.cell (Bb.out.cell (o := 1) (v := .slice Ab nb cb) rfl); go_simp
    simp only [Act.put, List.setIfInBounds_toArray, List.set_cons_zero, List.set_cons_succ]
    refine WE.call (d := some 38) rfl rfl (by rfl) (f := 16) (args := #[(.agg #[.bool gb, .slice Ab nb cb])]) (by go_simp) ?_
    refine (rzIs_any Nb.out ib.out).mono ?_
    rintro e wn ⟨rfl, hb⟩
    refine ⟨_, rfl, hb, ?_⟩
    replace E := hid (E.out.trans hb)
    replace Ba := hid (Ba.out.up hb)
    replace Bb := hid (Bb.out.up hb)
    replace Bc := hid (Bc.out.up hb)
    replace Na := hid (Na.out.up hb)
    replace Nb := hid (Nb.out.up hb)
    replace Nc := hid (Nc.out.up hb)
    replace Ra := hid (Ra.out.up hb)
    replace Rb := hid (Rb.out.up hb)
    replace Rc := hid (Rc.out.up hb)
    clear hb
    simp only [Act.put, List.setIfInBounds_toArray, List.set_cons_zero, List.set_cons_succ]
    as_aux_lemma =>
      refine WE.pure (d := some 39) rfl rfl (by rfl) (v := (.bool false)) (fun w' hk => ?_) ?_
      · go_simp
      simp only [Act.put, List.setIfInBounds_toArray, List.set_cons_zero, List.set_cons_succ]
      refine WE.pure (d := some 40) rfl rfl (by rfl) (v := (.bool false)) (fun w' hk => ?_) ?_
      · go_simp
      simp only [Act.put, List.setIfInBounds_toArray, List.set_cons_zero, List.set_cons_succ]
      refine WE.pure (d := some 41) rfl rfl (by rfl) (v := (.bool false)) (fun w' hk => ?_) ?_
      · go_simp
      simp only [Act.put, List.setIfInBounds_toArray, List.set_cons_zero, List.set_cons_succ]
      refine WE.pure (d := some 42) rfl rfl (by rfl) (v := (.agg #[.bool gc, .slice Ac nc cc])) (fun w' hk => ?_) ?_
      · have c0 := hk.cell (Bc.out.cell (o := 0) (v := .bool gc) rfl); have c1 := hk.cell (Bc.out.cell (o := 1) (v := .slice Ac nc cc) rfl); go_simp
      simp only [Act.put, List.setIfInBounds_toArray, List.set_cons_zero, List.set_cons_succ]
      refine WE.call (d := some 43) rfl rfl (by rfl) (f := 20) (args := #[(.agg #[.bool gc, .slice Ac nc cc])]) (by go_simp) ?_
      refine (rSign_w Rc.out (s := 0) (by rw [hcond.out]; rfl)).mono ?_
      rintro e wn ⟨rfl, hb⟩
      refine ⟨_, rfl, hb, ?_⟩
      replace E := hid (E.out.trans hb)
      replace Ba := hid (Ba.out.up hb)
      replace Bb := hid (Bb.out.up hb)
      replace Bc := hid (Bc.out.up hb)
      replace Na := hid (Na.out.up hb)
      replace Nb := hid (Nb.out.up hb)
      replace Nc := hid (Nc.out.up hb)
      replace Ra := hid (Ra.out.up hb)
      replace Rb := hid (Rb.out.up hb)
      replace Rc := hid (Rc.out.up hb)
      clear hb
      simp only [Act.put, List.setIfInBounds_toArray, List.set_cons_zero, List.set_cons_succ]
      refine WE.pure (d := some 44) rfl rfl (by rfl) (v := (.bool true)) (fun w' hk => ?_) ?_
      · go_simp
      simp only [Act.put, List.setIfInBounds_toArray, List.set_cons_zero, List.set_cons_succ]
      refine WE.pure (d := some 45) rfl rfl (by rfl) (v := (.bool true)) (fun w' hk => ?_) ?_
      · go_simp
      simp only [Act.put, List.setIfInBounds_toArray, List.set_cons_zero, List.set_cons_succ]
      refine WE.done ?_
      repeat go_step
      go_ret
      exact ⟨rfl, E.out⟩

theorem gcdDivides_walk (W : World) (ga : Bool) (Aa : Option Addr) (na ca : Nat) (la : List Nat) (ha : Num W W.heap.size (.slice Aa na ca) la) (gb : Bool) (Ab : Option Addr) (nb cb : Nat) (lb : List Nat) (hb : Num W W.heap.size (.slice Ab nb cb) lb) (gc : Bool) (Ac : Option Addr) (nc cc : Nat) (lc : List Nat) (hc : Num W W.heap.size (.slice Ac nc cc) lc) :
    Calls Try.prog 5 #[.agg #[.bool ga, .slice Aa na ca], .agg #[.bool gb, .slice Ab nb cb], .agg #[.bool gc, .slice Ac nc cc]] W (fun e w' => e = .returned (.bool true) ∧ Ext W w') := by
  rcases fa : (decide (la.length ≤ 6)) with _ | _
  · exact gcdDivides_skip0 W ga Aa na ca la ha gb Ab nb cb lb hb gc Ac nc cc lc hc fa
  rcases fb : (decide (lb.length ≤ 6)) with _ | _
  · exact gcdDivides_skip1 W ga Aa na ca la ha gb Ab nb cb lb hb gc Ac nc cc lc hc fa fb
  rcases fc : (decide (lc.length ≤ 6)) with _ | _
  · exact gcdDivides_skip2 W ga Aa na ca la ha gb Ab nb cb lb hb gc Ac nc cc lc hc fa fb fc
  rcases ia : (M.isZ ga la) with _ | _
  · exact gcdDivides_skip3 W ga Aa na ca la ha gb Ab nb cb lb hb gc Ac nc cc lc hc fa fb fc ia
  rcases ib : (M.isZ gb lb) with _ | _
  · exact gcdDivides_skip4 W ga Aa na ca la ha gb Ab nb cb lb hb gc Ac nc cc lc hc fa fb fc ia ib
  by_cases h0 : M.zv gc lc = 0
  · exact gcdDivides_nought W ga Aa na ca la ha gb Ab nb cb lb hb gc Ac nc cc lc hc fa fb fc ia ib _ rfl _ rfl _ rfl h0
  · by_cases h1 : M.zv ga la = 0 ∧ M.zv gb lb = 0
    · exact gcdDivides_none W ga Aa na ca la ha gb Ab nb cb lb hb gc Ac nc cc lc hc fa fb fc ia ib _ rfl _ rfl _ rfl ⟨h0, h1⟩
    · exact gcdDivides_some W ga Aa na ca la ha gb Ab nb cb lb hb gc Ac nc cc lc hc fa fb fc ia ib _ rfl _ rfl _ rfl ⟨h0, h1⟩

set_option maxRecDepth 100000 in
theorem gcdDivides_lifted (os : Os) (started : os.Started) (H : Type) (enc : TypeId × Value → H) :
    ReturnsInHanded {} Try.checked os 5 .any (Rows.gcdDividesSpec.pre6 enc Try.prog Try.f5 Rows.gcdDividesRow.domain false) (Rows.gcdDividesSpec.post enc Try.prog Try.f5 false true false false) := by
  refine returnsInHanded_of_change (C := Try.checked) own started (by kernel_rfl) Try.func5
    (ChangeSpec.witness6 (enc := enc) (C := Try.checked) false ⟨#[], #[.agg #[.bool false, .slice none 0 0], .agg #[.bool false, .slice none 0 0], .agg #[.bool false, .slice none 0 0]], []⟩ 8 (by kernel_rfl) (by kernel_rfl) (by kernel_rfl) (by kernel_rfl)) ?_
  intro W base args ds gs before hval0 hW _ _
  have hval : ∀ (j : Nat) t v, Try.f5.params[j]? = some t → args[j]? = some v → Value.okWide Try.prog W .any base t v := hval0
  have hW' := hW
  obtain ⟨p, q, hA0, hV, rfl, hfz, hnd⟩ := hW
  have hA : DataW.TrodAll enc Try.prog W 0 (fun _ => true) true Try.f5.params.toList args.toList ds p := hA0
  rw [Try.params5] at hA hval
  obtain ⟨v0, vs0, d0, ds0, p0, q0, hargs, rfl, rfl, h0, r0⟩ := trodAll_cons hA
  obtain ⟨v1, vs1, d1, ds1, p1, q1, rfl, rfl, rfl, h1, r1⟩ := trodAll_cons r0
  obtain ⟨v2, vs2, d2, ds2, p2, q2, rfl, rfl, rfl, h2, r2⟩ := trodAll_cons r1
  obtain ⟨rfl, rfl, rfl⟩ := trodAll_nil r2
  obtain rfl : args = #[v0, v1, v2] := by cases args; simp_all
  obtain ⟨rfl, rfl⟩ := trodVars_none hV
  obtain ⟨g0, A0, n0, c0, l0, rfl, e0⟩ := open_Z (hval 0 24 _ rfl rfl) h0
  obtain ⟨g1, A1, n1, c1, l1, rfl, e1⟩ := open_Z (hval 1 24 _ rfl rfl) h1
  obtain ⟨g2, A2, n2, c2, l2, rfl, e2⟩ := open_Z (hval 2 24 _ rfl rfl) h2
  clear hA0 hval0
  refine (gcdDivides_walk W g0 A0 n0 c0 l0 e0 g1 A1 n1 c1 l1 e1 g2 A2 n2 c2 l2 e2).mono fun e W' ⟨he, hg⟩ => ?_
  subst he
  exact ⟨_, rfl, law_post hW' rfl rfl (by kernel_rfl) (by kernel_rfl) hg⟩

theorem gcdDivides_over : Rows.gcdDividesRow.holds Try.pinned (OpenSpec.ofChange Rows.gcdDividesSpec) :=
  OpenClaim.holds_of_wide 5 Try.f5 rfl rfl rfl rfl rfl rfl rfl ⟨rfl, rfl, rfl, rfl, rfl⟩ rfl rfl rfl rfl rfl (by kernel_rfl) Try.func5 (by kernel_rfl)
    (of_decide_eq_true (by kernel_rfl)) (by unfold Func.isWrapper; first | (rw [if_pos (by decide +kernel)]; kernel_rfl) | (rw [if_neg (by decide +kernel)]; exact ⟨rfl, rfl⟩))
    (fun os started H enc _ => gcdDivides_lifted os started H enc)

theorem gcdDivides_proved : Rows.GcdDividesSaid := gcdDivides_over

end Go.Proofs.Ytljjijcmoafndaa
