/-
  LinGone: whatever two forms (or what is none), whatever variable: true. No conditions.
-/
import Derived.Test.YtfjehdcdbejlnaaGreatLKnown
import Derived.Test.YtfjehdcdbejlnaaGreatRZC
namespace Go.Proofs.YtfjehdcdbejlnaaGreat
open Go.ChangeShapes Go.WideShapes Go.ChangeAt Go.RowKit
set_option linter.unusedSimpArgs false
set_option linter.unusedVariables false

theorem M.putT_self {t : M.Tm} (ot : M.okT (-1) t) {k : Nat} : M.putT t k [(max (k : Int) 0, 1)] = t := by
  have e : max (k : Int) 0 = k := by omega
  rw [e]
  have o1 : M.okT (-1) [((k : Int), (1 : Int))] := ⟨by omega, by decide, trivial⟩
  refine M.okT_ext (M.okT_putT ot o1 _) ot fun x => ?_
  rw [M.coef_putT ot o1, M.coef_cons, show M.coef [] x = 0 from rfl]
  by_cases h : x = (k : Int)
  · rw [if_pos h, if_pos h.symm, h]; omega
  · rw [if_neg h, if_neg fun e => h e.symm]; omega
theorem M.putT_of {s : M.Tm} (os : M.okT (-1) s) {k : Nat} : M.putT [(max (k : Int) 0, 1)] k s = s := by
  have e : max (k : Int) 0 = k := by omega
  rw [e]
  have o1 : M.okT (-1) [((k : Int), (1 : Int))] := ⟨by omega, by decide, trivial⟩
  refine M.okT_ext (M.okT_putT o1 os _) os fun x => ?_
  rw [M.coef_putT o1 os, M.coef_cons, M.coef_cons, show ∀ y, M.coef [] y = 0 from fun _ => rfl, if_pos rfl]
  by_cases h : x = (k : Int)
  · rw [if_pos h]; omega
  · rw [if_neg h, if_neg fun e => h e.symm]; omega
theorem M.coef_one {k : Nat} : M.coef [(max (k : Int) 0, 1)] k = 1 := by
  rw [show max (k : Int) 0 = k by omega, M.coef_cons, if_pos rfl]
theorem M.coef_put_self {t s : M.Tm} (ot : M.okT (-1) t) (os : M.okT (-1) s) (v : Int) : M.coef (M.putT t v s) v = M.coef t v * M.coef s v := by
  rw [M.coef_putT ot os, if_pos rfl, Int.zero_add, Int.mul_comm]

theorem u8_of_wf {n : Int} (h : (Lit.int .u8 n).wf = true) : 0 ≤ n ∧ n ≤ 255 := by
  simpa [Lit.wf, IntKind.min, IntKind.max, IntKind.signed, IntKind.bits] using h

set_option maxHeartbeats 2000000 in
theorem linGone_skip0 (W : World) (Aa : Option Addr) (na ca : Nat) (la : List (Int × Bool × List Nat)) (ga : Bool) (Ba : Option Addr) (ma da : Nat) (ka : List Nat) (ha : LList W (.slice Aa na ca) la) (ia : Num W W.heap.size (.slice Ba ma da) ka) (Ab : Option Addr) (nb cb : Nat) (lb : List (Int × Bool × List Nat)) (gb : Bool) (Bb : Option Addr) (mb db : Nat) (kb : List Nat) (hb : LList W (.slice Ab nb cb) lb) (ib : Num W W.heap.size (.slice Bb mb db) kb) (v : Int) (hv : 0 ≤ v ∧ v ≤ 255) (fa : Hid (M.fewL la ka = false)) :
    Calls Tryz.prog 6 #[.agg #[.slice Aa na ca, .bool ga, .slice Ba ma da], .agg #[.slice Ab nb cb, .bool gb, .slice Bb mb db], .int .u8 v] W (fun e w' => e = .returned (.bool true) ∧ Ext W w') := by
  have HLa := hid ha
  have HKa := hid ia
  clear ha ia
  clear hb ib
  clear hv
  go_enter Tryz.func6, Tryz.ntmps6
  go_upto_region 1 with (fail)
  have E := hid (((Ext.refl W).alloc' (.cells #[.slice Aa na ca, .bool ga, .slice Ba ma da] 27)).alloc' (.cells #[.slice Ab nb cb, .bool gb, .slice Bb mb db] 27))
  have BX0 : Hid (Box ((W.alloc (.cells #[.slice Aa na ca, .bool ga, .slice Ba ma da] 27)).alloc (.cells #[.slice Ab nb cb, .bool gb, .slice Bb mb db] 27)) (W.heap.size) #[.slice Aa na ca, .bool ga, .slice Ba ma da] 27) := hid ((Box.at_ (w := W) #[.slice Aa na ca, .bool ga, .slice Ba ma da] 27 (by simp)).alloc (.cells #[.slice Ab nb cb, .bool gb, .slice Bb mb db] 27))
  refine wp_region_T [(0, 1), (1, 0)] (by kernel_rfl) fun wd hb => ?_
  replace E := hid (E.out.trans hb)
  replace BX0 := hid (BX0.out.up hb)
  clear hb
  have EY := hid (Ext.refl wd)
  refine WE.call (d := some 12) rfl rfl (by rfl) (by go_simp) ((known6 _).mono ?_)
  rintro e wn ⟨rfl, hb⟩
  refine ⟨_, rfl, hb, ?_⟩
  replace EY := hid (EY.out.trans hb)
  clear hb
  simp only [Act.put, pA, pB, pC]
  refine WE.pure (d := some 13) rfl rfl (by rfl) (v := (.bool false)) (fun w' hk => by go_simp) ?_
  simp only [Act.put, pA, pB, pC]
  refine WE.done ?_
  go_upto_region 3 with (fail)
  refine wp_region_T [(0, 0), (1, 1), (2, 0), (3, 0), (4, 0), (5, 1), (6, 0), (7, 0), (8, 0), (9, 0), (10, 1), (11, 0), (12, 0), (13, 0), (14, 0), (15, 1), (16, 0), (17, 0)] (by kernel_rfl) fun wd hb => ?_
  replace EY := hid (EY.out.trans hb)
  clear hb
  refine WE.pure (d := some 14) rfl rfl (by rfl) (v := (.agg #[.slice Aa na ca, .bool ga, .slice Ba ma da])) (fun w' hk => ?_) ?_
  · obtain ⟨ce0, ce1, ce2⟩ := ((BX0.out.up EY.out).up hk).c3; go_simp
  simp only [Act.put, pA, pB, pC]
  refine WE.call (d := some 15) rfl rfl (by rfl) (by go_simp) ((fewL_any (g1 := ga) (HLa.out.up (E.out.trans EY.out)) (HKa.out.up (E.out.trans EY.out)) fa.out).mono ?_)
  rintro e wn ⟨rfl, hb⟩
  refine ⟨_, rfl, hb, ?_⟩
  replace EY := hid (EY.out.trans hb)
  clear hb
  simp only [Act.put, pA, pB, pC]
  refine WE.pure (d := some 16) rfl rfl (by rfl) (v := (.bool true)) (fun w' hk => by go_simp) ?_
  simp only [Act.put, pA, pB, pC]
  refine WE.pure (d := some 17) rfl rfl (by rfl) (v := (.bool true)) (fun w' hk => by go_simp) ?_
  simp only [Act.put, pA, pB, pC]
  refine WE.skip (d := some 18) rfl rfl (by rfl) ?_
  simp only [Act.put, pA, pB, pC]
  refine WE.pass (d := some 19) rfl rfl (by rfl) ?_
  simp only [Act.put, pA, pB, pC]
  refine WE.skip (d := some 20) rfl rfl (by rfl) ?_
  simp only [Act.put, pA, pB, pC]
  refine WE.pure (d := some 21) rfl rfl (by rfl) (v := (.bool true)) (fun w' hk => by go_simp) ?_
  simp only [Act.put, pA, pB, pC]
  refine WE.pure (d := some 22) rfl rfl (by rfl) (v := (.bool true)) (fun w' hk => by go_simp) ?_
  simp only [Act.put, pA, pB, pC]
  refine WE.skip (d := some 23) rfl rfl (by rfl) ?_
  simp only [Act.put, pA, pB, pC]
  refine WE.pass (d := some 24) rfl rfl (by rfl) ?_
  simp only [Act.put, pA, pB, pC]
  refine WE.skip (d := some 25) rfl rfl (by rfl) ?_
  simp only [Act.put, pA, pB, pC]
  refine WE.pure (d := some 26) rfl rfl (by rfl) (v := (.bool true)) (fun w' hk => by go_simp) ?_
  simp only [Act.put, pA, pB, pC]
  refine WE.pure (d := some 27) rfl rfl (by rfl) (v := (.bool true)) (fun w' hk => by go_simp) ?_
  simp only [Act.put, pA, pB, pC]
  refine WE.skip (d := some 28) rfl rfl (by rfl) ?_
  simp only [Act.put, pA, pB, pC]
  refine WE.pass (d := some 29) rfl rfl (by rfl) ?_
  simp only [Act.put, pA, pB, pC]
  refine WE.skip (d := some 30) rfl rfl (by rfl) ?_
  simp only [Act.put, pA, pB, pC]
  refine WE.pure (d := some 31) rfl rfl (by rfl) (v := (.bool true)) (fun w' hk => by go_simp) ?_
  simp only [Act.put, pA, pB, pC]
  refine WE.done ?_
  go_upto_region 4 with (fail)
  refine wp_region_T [(0, 0)] (by kernel_rfl) fun wd hb => ?_
  replace EY := hid (EY.out.trans hb)
  clear hb
  refine WE.pure (d := some 6) rfl rfl (by rfl) (v := (.bool true)) (fun w' hk => by go_simp) ?_
  simp only [Act.put, pA, pB, pC]
  refine WE.done ?_
  repeat go_step
  go_ret
  exact ⟨rfl, (E.out.trans EY.out)⟩

set_option maxHeartbeats 2000000 in
theorem linGone_skip1 (W : World) (Aa : Option Addr) (na ca : Nat) (la : List (Int × Bool × List Nat)) (ga : Bool) (Ba : Option Addr) (ma da : Nat) (ka : List Nat) (ha : LList W (.slice Aa na ca) la) (ia : Num W W.heap.size (.slice Ba ma da) ka) (Ab : Option Addr) (nb cb : Nat) (lb : List (Int × Bool × List Nat)) (gb : Bool) (Bb : Option Addr) (mb db : Nat) (kb : List Nat) (hb : LList W (.slice Ab nb cb) lb) (ib : Num W W.heap.size (.slice Bb mb db) kb) (v : Int) (hv : 0 ≤ v ∧ v ≤ 255) (fa : Hid (M.fewL la ka = true)) (fb : Hid (M.fewL lb kb = false)) :
    Calls Tryz.prog 6 #[.agg #[.slice Aa na ca, .bool ga, .slice Ba ma da], .agg #[.slice Ab nb cb, .bool gb, .slice Bb mb db], .int .u8 v] W (fun e w' => e = .returned (.bool true) ∧ Ext W w') := by
  have HLa := hid ha
  have HKa := hid ia
  clear ha ia
  have HLb := hid hb
  have HKb := hid ib
  clear hb ib
  clear hv
  go_enter Tryz.func6, Tryz.ntmps6
  go_upto_region 1 with (fail)
  have E := hid (((Ext.refl W).alloc' (.cells #[.slice Aa na ca, .bool ga, .slice Ba ma da] 27)).alloc' (.cells #[.slice Ab nb cb, .bool gb, .slice Bb mb db] 27))
  have BX0 : Hid (Box ((W.alloc (.cells #[.slice Aa na ca, .bool ga, .slice Ba ma da] 27)).alloc (.cells #[.slice Ab nb cb, .bool gb, .slice Bb mb db] 27)) (W.heap.size) #[.slice Aa na ca, .bool ga, .slice Ba ma da] 27) := hid ((Box.at_ (w := W) #[.slice Aa na ca, .bool ga, .slice Ba ma da] 27 (by simp)).alloc (.cells #[.slice Ab nb cb, .bool gb, .slice Bb mb db] 27))
  have BX1 : Hid (Box ((W.alloc (.cells #[.slice Aa na ca, .bool ga, .slice Ba ma da] 27)).alloc (.cells #[.slice Ab nb cb, .bool gb, .slice Bb mb db] 27)) (W.heap.size + 1) #[.slice Ab nb cb, .bool gb, .slice Bb mb db] 27) := hid (Box.at_ (w := (W.alloc (.cells #[.slice Aa na ca, .bool ga, .slice Ba ma da] 27))) #[.slice Ab nb cb, .bool gb, .slice Bb mb db] 27 (by simp))
  refine wp_region_T [(0, 1), (1, 0)] (by kernel_rfl) fun wd hb => ?_
  replace E := hid (E.out.trans hb)
  replace BX0 := hid (BX0.out.up hb)
  replace BX1 := hid (BX1.out.up hb)
  clear hb
  have EY := hid (Ext.refl wd)
  refine WE.call (d := some 12) rfl rfl (by rfl) (by go_simp) ((known6 _).mono ?_)
  rintro e wn ⟨rfl, hb⟩
  refine ⟨_, rfl, hb, ?_⟩
  replace EY := hid (EY.out.trans hb)
  clear hb
  simp only [Act.put, pA, pB, pC]
  refine WE.pure (d := some 13) rfl rfl (by rfl) (v := (.bool false)) (fun w' hk => by go_simp) ?_
  simp only [Act.put, pA, pB, pC]
  refine WE.done ?_
  go_upto_region 3 with (fail)
  refine wp_region_T [(0, 0), (1, 1), (2, 0), (3, 0), (4, 0), (5, 1), (6, 0), (7, 0), (8, 0), (9, 0), (10, 1), (11, 0), (12, 0), (13, 0), (14, 0), (15, 1), (16, 0), (17, 0)] (by kernel_rfl) fun wd hb => ?_
  replace EY := hid (EY.out.trans hb)
  clear hb
  refine WE.pure (d := some 14) rfl rfl (by rfl) (v := (.agg #[.slice Aa na ca, .bool ga, .slice Ba ma da])) (fun w' hk => ?_) ?_
  · obtain ⟨ce0, ce1, ce2⟩ := ((BX0.out.up EY.out).up hk).c3; go_simp
  simp only [Act.put, pA, pB, pC]
  refine WE.call (d := some 15) rfl rfl (by rfl) (by go_simp) ((fewL_any (g1 := ga) (HLa.out.up (E.out.trans EY.out)) (HKa.out.up (E.out.trans EY.out)) fa.out).mono ?_)
  rintro e wn ⟨rfl, hb⟩
  refine ⟨_, rfl, hb, ?_⟩
  replace EY := hid (EY.out.trans hb)
  clear hb
  simp only [Act.put, pA, pB, pC]
  refine WE.pure (d := some 16) rfl rfl (by rfl) (v := (.bool false)) (fun w' hk => by go_simp) ?_
  simp only [Act.put, pA, pB, pC]
  refine WE.pure (d := some 17) rfl rfl (by rfl) (v := (.bool false)) (fun w' hk => by go_simp) ?_
  simp only [Act.put, pA, pB, pC]
  refine WE.pure (d := some 18) rfl rfl (by rfl) (v := (.agg #[.slice Ab nb cb, .bool gb, .slice Bb mb db])) (fun w' hk => ?_) ?_
  · obtain ⟨ce0, ce1, ce2⟩ := ((BX1.out.up EY.out).up hk).c3; go_simp
  simp only [Act.put, pA, pB, pC]
  refine WE.call (d := some 19) rfl rfl (by rfl) (by go_simp) ((fewL_any (g1 := gb) (HLb.out.up (E.out.trans EY.out)) (HKb.out.up (E.out.trans EY.out)) fb.out).mono ?_)
  rintro e wn ⟨rfl, hb⟩
  refine ⟨_, rfl, hb, ?_⟩
  replace EY := hid (EY.out.trans hb)
  clear hb
  simp only [Act.put, pA, pB, pC]
  refine WE.pure (d := some 20) rfl rfl (by rfl) (v := (.bool true)) (fun w' hk => by go_simp) ?_
  simp only [Act.put, pA, pB, pC]
  refine WE.pure (d := some 21) rfl rfl (by rfl) (v := (.bool true)) (fun w' hk => by go_simp) ?_
  simp only [Act.put, pA, pB, pC]
  refine WE.pure (d := some 22) rfl rfl (by rfl) (v := (.bool true)) (fun w' hk => by go_simp) ?_
  simp only [Act.put, pA, pB, pC]
  refine WE.skip (d := some 23) rfl rfl (by rfl) ?_
  simp only [Act.put, pA, pB, pC]
  refine WE.pass (d := some 24) rfl rfl (by rfl) ?_
  simp only [Act.put, pA, pB, pC]
  refine WE.skip (d := some 25) rfl rfl (by rfl) ?_
  simp only [Act.put, pA, pB, pC]
  refine WE.pure (d := some 26) rfl rfl (by rfl) (v := (.bool true)) (fun w' hk => by go_simp) ?_
  simp only [Act.put, pA, pB, pC]
  refine WE.pure (d := some 27) rfl rfl (by rfl) (v := (.bool true)) (fun w' hk => by go_simp) ?_
  simp only [Act.put, pA, pB, pC]
  refine WE.skip (d := some 28) rfl rfl (by rfl) ?_
  simp only [Act.put, pA, pB, pC]
  refine WE.pass (d := some 29) rfl rfl (by rfl) ?_
  simp only [Act.put, pA, pB, pC]
  refine WE.skip (d := some 30) rfl rfl (by rfl) ?_
  simp only [Act.put, pA, pB, pC]
  refine WE.pure (d := some 31) rfl rfl (by rfl) (v := (.bool true)) (fun w' hk => by go_simp) ?_
  simp only [Act.put, pA, pB, pC]
  refine WE.done ?_
  go_upto_region 4 with (fail)
  refine wp_region_T [(0, 0)] (by kernel_rfl) fun wd hb => ?_
  replace EY := hid (EY.out.trans hb)
  clear hb
  refine WE.pure (d := some 6) rfl rfl (by rfl) (v := (.bool true)) (fun w' hk => by go_simp) ?_
  simp only [Act.put, pA, pB, pC]
  refine WE.done ?_
  repeat go_step
  go_ret
  exact ⟨rfl, (E.out.trans EY.out)⟩

set_option maxHeartbeats 2000000 in
theorem linGone_skip2 (W : World) (Aa : Option Addr) (na ca : Nat) (la : List (Int × Bool × List Nat)) (ga : Bool) (Ba : Option Addr) (ma da : Nat) (ka : List Nat) (ha : LList W (.slice Aa na ca) la) (ia : Num W W.heap.size (.slice Ba ma da) ka) (Ab : Option Addr) (nb cb : Nat) (lb : List (Int × Bool × List Nat)) (gb : Bool) (Bb : Option Addr) (mb db : Nat) (kb : List Nat) (hb : LList W (.slice Ab nb cb) lb) (ib : Num W W.heap.size (.slice Bb mb db) kb) (v : Int) (hv : 0 ≤ v ∧ v ≤ 255) (fa : Hid (M.fewL la ka = true)) (fb : Hid (M.fewL lb kb = true)) (sa : Hid (M.isL la ga ka = false)) :
    Calls Tryz.prog 6 #[.agg #[.slice Aa na ca, .bool ga, .slice Ba ma da], .agg #[.slice Ab nb cb, .bool gb, .slice Bb mb db], .int .u8 v] W (fun e w' => e = .returned (.bool true) ∧ Ext W w') := by
  have HLa := hid ha
  have HKa := hid ia
  clear ha ia
  have HLb := hid hb
  have HKb := hid ib
  clear hb ib
  clear hv
  go_enter Tryz.func6, Tryz.ntmps6
  go_upto_region 1 with (fail)
  have E := hid (((Ext.refl W).alloc' (.cells #[.slice Aa na ca, .bool ga, .slice Ba ma da] 27)).alloc' (.cells #[.slice Ab nb cb, .bool gb, .slice Bb mb db] 27))
  have BX0 : Hid (Box ((W.alloc (.cells #[.slice Aa na ca, .bool ga, .slice Ba ma da] 27)).alloc (.cells #[.slice Ab nb cb, .bool gb, .slice Bb mb db] 27)) (W.heap.size) #[.slice Aa na ca, .bool ga, .slice Ba ma da] 27) := hid ((Box.at_ (w := W) #[.slice Aa na ca, .bool ga, .slice Ba ma da] 27 (by simp)).alloc (.cells #[.slice Ab nb cb, .bool gb, .slice Bb mb db] 27))
  have BX1 : Hid (Box ((W.alloc (.cells #[.slice Aa na ca, .bool ga, .slice Ba ma da] 27)).alloc (.cells #[.slice Ab nb cb, .bool gb, .slice Bb mb db] 27)) (W.heap.size + 1) #[.slice Ab nb cb, .bool gb, .slice Bb mb db] 27) := hid (Box.at_ (w := (W.alloc (.cells #[.slice Aa na ca, .bool ga, .slice Ba ma da] 27))) #[.slice Ab nb cb, .bool gb, .slice Bb mb db] 27 (by simp))
  refine wp_region_T [(0, 1), (1, 0)] (by kernel_rfl) fun wd hb => ?_
  replace E := hid (E.out.trans hb)
  replace BX0 := hid (BX0.out.up hb)
  replace BX1 := hid (BX1.out.up hb)
  clear hb
  have EY := hid (Ext.refl wd)
  refine WE.call (d := some 12) rfl rfl (by rfl) (by go_simp) ((known6 _).mono ?_)
  rintro e wn ⟨rfl, hb⟩
  refine ⟨_, rfl, hb, ?_⟩
  replace EY := hid (EY.out.trans hb)
  clear hb
  simp only [Act.put, pA, pB, pC]
  refine WE.pure (d := some 13) rfl rfl (by rfl) (v := (.bool false)) (fun w' hk => by go_simp) ?_
  simp only [Act.put, pA, pB, pC]
  refine WE.done ?_
  go_upto_region 3 with (fail)
  refine wp_region_T [(0, 0), (1, 1), (2, 0), (3, 0), (4, 0), (5, 1), (6, 0), (7, 0), (8, 0), (9, 0), (10, 1), (11, 0), (12, 0), (13, 0), (14, 0), (15, 1), (16, 0), (17, 0)] (by kernel_rfl) fun wd hb => ?_
  replace EY := hid (EY.out.trans hb)
  clear hb
  refine WE.pure (d := some 14) rfl rfl (by rfl) (v := (.agg #[.slice Aa na ca, .bool ga, .slice Ba ma da])) (fun w' hk => ?_) ?_
  · obtain ⟨ce0, ce1, ce2⟩ := ((BX0.out.up EY.out).up hk).c3; go_simp
  simp only [Act.put, pA, pB, pC]
  refine WE.call (d := some 15) rfl rfl (by rfl) (by go_simp) ((fewL_any (g1 := ga) (HLa.out.up (E.out.trans EY.out)) (HKa.out.up (E.out.trans EY.out)) fa.out).mono ?_)
  rintro e wn ⟨rfl, hb⟩
  refine ⟨_, rfl, hb, ?_⟩
  replace EY := hid (EY.out.trans hb)
  clear hb
  simp only [Act.put, pA, pB, pC]
  refine WE.pure (d := some 16) rfl rfl (by rfl) (v := (.bool false)) (fun w' hk => by go_simp) ?_
  simp only [Act.put, pA, pB, pC]
  refine WE.pure (d := some 17) rfl rfl (by rfl) (v := (.bool false)) (fun w' hk => by go_simp) ?_
  simp only [Act.put, pA, pB, pC]
  refine WE.pure (d := some 18) rfl rfl (by rfl) (v := (.agg #[.slice Ab nb cb, .bool gb, .slice Bb mb db])) (fun w' hk => ?_) ?_
  · obtain ⟨ce0, ce1, ce2⟩ := ((BX1.out.up EY.out).up hk).c3; go_simp
  simp only [Act.put, pA, pB, pC]
  refine WE.call (d := some 19) rfl rfl (by rfl) (by go_simp) ((fewL_any (g1 := gb) (HLb.out.up (E.out.trans EY.out)) (HKb.out.up (E.out.trans EY.out)) fb.out).mono ?_)
  rintro e wn ⟨rfl, hb⟩
  refine ⟨_, rfl, hb, ?_⟩
  replace EY := hid (EY.out.trans hb)
  clear hb
  simp only [Act.put, pA, pB, pC]
  refine WE.pure (d := some 20) rfl rfl (by rfl) (v := (.bool false)) (fun w' hk => by go_simp) ?_
  simp only [Act.put, pA, pB, pC]
  refine WE.pure (d := some 21) rfl rfl (by rfl) (v := (.bool false)) (fun w' hk => by go_simp) ?_
  simp only [Act.put, pA, pB, pC]
  refine WE.pure (d := some 22) rfl rfl (by rfl) (v := (.bool false)) (fun w' hk => by go_simp) ?_
  simp only [Act.put, pA, pB, pC]
  refine WE.pure (d := some 23) rfl rfl (by rfl) (v := (.agg #[.slice Aa na ca, .bool ga, .slice Ba ma da])) (fun w' hk => ?_) ?_
  · obtain ⟨ce0, ce1, ce2⟩ := ((BX0.out.up EY.out).up hk).c3; go_simp
  simp only [Act.put, pA, pB, pC]
  refine WE.call (d := some 24) rfl rfl (by rfl) (by go_simp) ((isL_any (HLa.out.up (E.out.trans EY.out)) (HKa.out.up (E.out.trans EY.out)) sa.out).mono ?_)
  rintro e wn ⟨rfl, hb⟩
  refine ⟨_, rfl, hb, ?_⟩
  replace EY := hid (EY.out.trans hb)
  clear hb
  simp only [Act.put, pA, pB, pC]
  refine WE.pure (d := some 25) rfl rfl (by rfl) (v := (.bool true)) (fun w' hk => by go_simp) ?_
  simp only [Act.put, pA, pB, pC]
  refine WE.pure (d := some 26) rfl rfl (by rfl) (v := (.bool true)) (fun w' hk => by go_simp) ?_
  simp only [Act.put, pA, pB, pC]
  refine WE.pure (d := some 27) rfl rfl (by rfl) (v := (.bool true)) (fun w' hk => by go_simp) ?_
  simp only [Act.put, pA, pB, pC]
  refine WE.skip (d := some 28) rfl rfl (by rfl) ?_
  simp only [Act.put, pA, pB, pC]
  refine WE.pass (d := some 29) rfl rfl (by rfl) ?_
  simp only [Act.put, pA, pB, pC]
  refine WE.skip (d := some 30) rfl rfl (by rfl) ?_
  simp only [Act.put, pA, pB, pC]
  refine WE.pure (d := some 31) rfl rfl (by rfl) (v := (.bool true)) (fun w' hk => by go_simp) ?_
  simp only [Act.put, pA, pB, pC]
  refine WE.done ?_
  go_upto_region 4 with (fail)
  refine wp_region_T [(0, 0)] (by kernel_rfl) fun wd hb => ?_
  replace EY := hid (EY.out.trans hb)
  clear hb
  refine WE.pure (d := some 6) rfl rfl (by rfl) (v := (.bool true)) (fun w' hk => by go_simp) ?_
  simp only [Act.put, pA, pB, pC]
  refine WE.done ?_
  repeat go_step
  go_ret
  exact ⟨rfl, (E.out.trans EY.out)⟩

set_option maxHeartbeats 2000000 in
theorem linGone_skip3 (W : World) (Aa : Option Addr) (na ca : Nat) (la : List (Int × Bool × List Nat)) (ga : Bool) (Ba : Option Addr) (ma da : Nat) (ka : List Nat) (ha : LList W (.slice Aa na ca) la) (ia : Num W W.heap.size (.slice Ba ma da) ka) (Ab : Option Addr) (nb cb : Nat) (lb : List (Int × Bool × List Nat)) (gb : Bool) (Bb : Option Addr) (mb db : Nat) (kb : List Nat) (hb : LList W (.slice Ab nb cb) lb) (ib : Num W W.heap.size (.slice Bb mb db) kb) (v : Int) (hv : 0 ≤ v ∧ v ≤ 255) (fa : Hid (M.fewL la ka = true)) (fb : Hid (M.fewL lb kb = true)) (sa : Hid (M.isL la ga ka = true)) (sb : Hid (M.isL lb gb kb = false)) :
    Calls Tryz.prog 6 #[.agg #[.slice Aa na ca, .bool ga, .slice Ba ma da], .agg #[.slice Ab nb cb, .bool gb, .slice Bb mb db], .int .u8 v] W (fun e w' => e = .returned (.bool true) ∧ Ext W w') := by
  have HLa := hid ha
  have HKa := hid ia
  clear ha ia
  have HLb := hid hb
  have HKb := hid ib
  clear hb ib
  clear hv
  go_enter Tryz.func6, Tryz.ntmps6
  go_upto_region 1 with (fail)
  have E := hid (((Ext.refl W).alloc' (.cells #[.slice Aa na ca, .bool ga, .slice Ba ma da] 27)).alloc' (.cells #[.slice Ab nb cb, .bool gb, .slice Bb mb db] 27))
  have BX0 : Hid (Box ((W.alloc (.cells #[.slice Aa na ca, .bool ga, .slice Ba ma da] 27)).alloc (.cells #[.slice Ab nb cb, .bool gb, .slice Bb mb db] 27)) (W.heap.size) #[.slice Aa na ca, .bool ga, .slice Ba ma da] 27) := hid ((Box.at_ (w := W) #[.slice Aa na ca, .bool ga, .slice Ba ma da] 27 (by simp)).alloc (.cells #[.slice Ab nb cb, .bool gb, .slice Bb mb db] 27))
  have BX1 : Hid (Box ((W.alloc (.cells #[.slice Aa na ca, .bool ga, .slice Ba ma da] 27)).alloc (.cells #[.slice Ab nb cb, .bool gb, .slice Bb mb db] 27)) (W.heap.size + 1) #[.slice Ab nb cb, .bool gb, .slice Bb mb db] 27) := hid (Box.at_ (w := (W.alloc (.cells #[.slice Aa na ca, .bool ga, .slice Ba ma da] 27))) #[.slice Ab nb cb, .bool gb, .slice Bb mb db] 27 (by simp))
  refine wp_region_T [(0, 1), (1, 0)] (by kernel_rfl) fun wd hb => ?_
  replace E := hid (E.out.trans hb)
  replace BX0 := hid (BX0.out.up hb)
  replace BX1 := hid (BX1.out.up hb)
  clear hb
  have EY := hid (Ext.refl wd)
  refine WE.call (d := some 12) rfl rfl (by rfl) (by go_simp) ((known6 _).mono ?_)
  rintro e wn ⟨rfl, hb⟩
  refine ⟨_, rfl, hb, ?_⟩
  replace EY := hid (EY.out.trans hb)
  clear hb
  simp only [Act.put, pA, pB, pC]
  refine WE.pure (d := some 13) rfl rfl (by rfl) (v := (.bool false)) (fun w' hk => by go_simp) ?_
  simp only [Act.put, pA, pB, pC]
  refine WE.done ?_
  go_upto_region 3 with (fail)
  refine wp_region_T [(0, 0), (1, 1), (2, 0), (3, 0), (4, 0), (5, 1), (6, 0), (7, 0), (8, 0), (9, 0), (10, 1), (11, 0), (12, 0), (13, 0), (14, 0), (15, 1), (16, 0), (17, 0)] (by kernel_rfl) fun wd hb => ?_
  replace EY := hid (EY.out.trans hb)
  clear hb
  refine WE.pure (d := some 14) rfl rfl (by rfl) (v := (.agg #[.slice Aa na ca, .bool ga, .slice Ba ma da])) (fun w' hk => ?_) ?_
  · obtain ⟨ce0, ce1, ce2⟩ := ((BX0.out.up EY.out).up hk).c3; go_simp
  simp only [Act.put, pA, pB, pC]
  refine WE.call (d := some 15) rfl rfl (by rfl) (by go_simp) ((fewL_any (g1 := ga) (HLa.out.up (E.out.trans EY.out)) (HKa.out.up (E.out.trans EY.out)) fa.out).mono ?_)
  rintro e wn ⟨rfl, hb⟩
  refine ⟨_, rfl, hb, ?_⟩
  replace EY := hid (EY.out.trans hb)
  clear hb
  simp only [Act.put, pA, pB, pC]
  refine WE.pure (d := some 16) rfl rfl (by rfl) (v := (.bool false)) (fun w' hk => by go_simp) ?_
  simp only [Act.put, pA, pB, pC]
  refine WE.pure (d := some 17) rfl rfl (by rfl) (v := (.bool false)) (fun w' hk => by go_simp) ?_
  simp only [Act.put, pA, pB, pC]
  refine WE.pure (d := some 18) rfl rfl (by rfl) (v := (.agg #[.slice Ab nb cb, .bool gb, .slice Bb mb db])) (fun w' hk => ?_) ?_
  · obtain ⟨ce0, ce1, ce2⟩ := ((BX1.out.up EY.out).up hk).c3; go_simp
  simp only [Act.put, pA, pB, pC]
  refine WE.call (d := some 19) rfl rfl (by rfl) (by go_simp) ((fewL_any (g1 := gb) (HLb.out.up (E.out.trans EY.out)) (HKb.out.up (E.out.trans EY.out)) fb.out).mono ?_)
  rintro e wn ⟨rfl, hb⟩
  refine ⟨_, rfl, hb, ?_⟩
  replace EY := hid (EY.out.trans hb)
  clear hb
  simp only [Act.put, pA, pB, pC]
  refine WE.pure (d := some 20) rfl rfl (by rfl) (v := (.bool false)) (fun w' hk => by go_simp) ?_
  simp only [Act.put, pA, pB, pC]
  refine WE.pure (d := some 21) rfl rfl (by rfl) (v := (.bool false)) (fun w' hk => by go_simp) ?_
  simp only [Act.put, pA, pB, pC]
  refine WE.pure (d := some 22) rfl rfl (by rfl) (v := (.bool false)) (fun w' hk => by go_simp) ?_
  simp only [Act.put, pA, pB, pC]
  refine WE.pure (d := some 23) rfl rfl (by rfl) (v := (.agg #[.slice Aa na ca, .bool ga, .slice Ba ma da])) (fun w' hk => ?_) ?_
  · obtain ⟨ce0, ce1, ce2⟩ := ((BX0.out.up EY.out).up hk).c3; go_simp
  simp only [Act.put, pA, pB, pC]
  refine WE.call (d := some 24) rfl rfl (by rfl) (by go_simp) ((isL_any (HLa.out.up (E.out.trans EY.out)) (HKa.out.up (E.out.trans EY.out)) sa.out).mono ?_)
  rintro e wn ⟨rfl, hb⟩
  refine ⟨_, rfl, hb, ?_⟩
  replace EY := hid (EY.out.trans hb)
  clear hb
  simp only [Act.put, pA, pB, pC]
  refine WE.pure (d := some 25) rfl rfl (by rfl) (v := (.bool false)) (fun w' hk => by go_simp) ?_
  simp only [Act.put, pA, pB, pC]
  refine WE.pure (d := some 26) rfl rfl (by rfl) (v := (.bool false)) (fun w' hk => by go_simp) ?_
  simp only [Act.put, pA, pB, pC]
  refine WE.pure (d := some 27) rfl rfl (by rfl) (v := (.bool false)) (fun w' hk => by go_simp) ?_
  simp only [Act.put, pA, pB, pC]
  refine WE.pure (d := some 28) rfl rfl (by rfl) (v := (.agg #[.slice Ab nb cb, .bool gb, .slice Bb mb db])) (fun w' hk => ?_) ?_
  · obtain ⟨ce0, ce1, ce2⟩ := ((BX1.out.up EY.out).up hk).c3; go_simp
  simp only [Act.put, pA, pB, pC]
  refine WE.call (d := some 29) rfl rfl (by rfl) (by go_simp) ((isL_any (HLb.out.up (E.out.trans EY.out)) (HKb.out.up (E.out.trans EY.out)) sb.out).mono ?_)
  rintro e wn ⟨rfl, hb⟩
  refine ⟨_, rfl, hb, ?_⟩
  replace EY := hid (EY.out.trans hb)
  clear hb
  simp only [Act.put, pA, pB, pC]
  refine WE.pure (d := some 30) rfl rfl (by rfl) (v := (.bool true)) (fun w' hk => by go_simp) ?_
  simp only [Act.put, pA, pB, pC]
  refine WE.pure (d := some 31) rfl rfl (by rfl) (v := (.bool true)) (fun w' hk => by go_simp) ?_
  simp only [Act.put, pA, pB, pC]
  refine WE.done ?_
  go_upto_region 4 with (fail)
  refine wp_region_T [(0, 0)] (by kernel_rfl) fun wd hb => ?_
  replace EY := hid (EY.out.trans hb)
  clear hb
  refine WE.pure (d := some 6) rfl rfl (by rfl) (v := (.bool true)) (fun w' hk => by go_simp) ?_
  simp only [Act.put, pA, pB, pC]
  refine WE.done ?_
  repeat go_step
  go_ret
  exact ⟨rfl, (E.out.trans EY.out)⟩

set_option maxHeartbeats 16000000 in
theorem linGone_main (W : World) (Aa : Option Addr) (na ca : Nat) (la : List (Int × Bool × List Nat)) (ga : Bool) (Ba : Option Addr) (ma da : Nat) (ka : List Nat) (ha : LList W (.slice Aa na ca) la) (ia : Num W W.heap.size (.slice Ba ma da) ka) (Ab : Option Addr) (nb cb : Nat) (lb : List (Int × Bool × List Nat)) (gb : Bool) (Bb : Option Addr) (mb db : Nat) (kb : List Nat) (hb : LList W (.slice Ab nb cb) lb) (ib : Num W W.heap.size (.slice Bb mb db) kb) (v : Int) (hv : 0 ≤ v ∧ v ≤ 255) (fa : Hid (M.fewL la ka = true)) (fb : Hid (M.fewL lb kb = true)) (sa : Hid (M.isL la ga ka = true)) (sb : Hid (M.isL lb gb kb = true)) :
    Calls Tryz.prog 6 #[.agg #[.slice Aa na ca, .bool ga, .slice Ba ma da], .agg #[.slice Ab nb cb, .bool gb, .slice Bb mb db], .int .u8 v] W (fun e w' => e = .returned (.bool true) ∧ Ext W w') := by
  have HLa := hid ha
  have HKa := hid ia
  obtain ⟨qa, qb, qc⟩ := M.fewL_parts fa.out
  obtain ⟨t, hta⟩ : ∃ t, t = M.ft la ga ka := ⟨_, rfl⟩
  obtain ⟨κ, hka⟩ : ∃ k, k = M.fk la ga ka := ⟨_, rfl⟩
  have HAa := hid (worthL_of ha ia qa qc hta hka)
  have NAa := hid (show t.length ≤ 8 by rw [hta]; exact Nat.le_trans (M.ft_len _ _ _) qb)
  have HIa := hid (show IsL W (.agg #[.slice Aa na ca, .bool ga, .slice Ba ma da]) t κ 4 by rw [hta, hka]; exact isL_of ha ia qa qc sa.out)
  clear qa qb qc hta hka
  clear ha ia
  have HLb := hid hb
  have HKb := hid ib
  obtain ⟨qa, qb, qc⟩ := M.fewL_parts fb.out
  obtain ⟨s, htb⟩ : ∃ t, t = M.ft lb gb kb := ⟨_, rfl⟩
  obtain ⟨μ, hkb⟩ : ∃ k, k = M.fk lb gb kb := ⟨_, rfl⟩
  have HAb := hid (worthL_of hb ib qa qc htb hkb)
  have NAb := hid (show s.length ≤ 8 by rw [htb]; exact Nat.le_trans (M.ft_len _ _ _) qb)
  have HIb := hid (show IsL W (.agg #[.slice Ab nb cb, .bool gb, .slice Bb mb db]) s μ 4 by rw [htb, hkb]; exact isL_of hb ib qa qc sb.out)
  clear qa qb qc htb hkb
  clear hb ib
  obtain ⟨k, hk⟩ : ∃ k : Nat, k = v.toNat % 12 := ⟨_, rfl⟩
  have hq : v.tmod 12 = (k : Int) := by rw [hk]; have e := Int.ofNat_tmod v.toNat 12; rw [show ((v.toNat : Nat) : Int) = v by omega] at e; exact e.symm
  have hk12 : k < 12 := by rw [hk]; exact Nat.mod_lt _ (by decide)
  have hwk : IntKind.i64.wrap (k : Int) = (k : Int) := by rw [IntKind.wrap_i64]; omega
  have hwu : IntKind.u8.wrap (k : Int) = (k : Int) := by simp [IntKind.wrap, IntKind.bits, IntKind.signed]; omega
  have OA := hid (show M.okT (-1) t from HAa.out.ok)
  have OB := hid (show M.okT (-1) s from HAb.out.ok)
  clear hk hv
  go_enter Tryz.func6, Tryz.ntmps6
  go_upto_region 1 with (fail)
  have E := hid (((Ext.refl W).alloc' (.cells #[.slice Aa na ca, .bool ga, .slice Ba ma da] 27)).alloc' (.cells #[.slice Ab nb cb, .bool gb, .slice Bb mb db] 27))
  have BX0 : Hid (Box ((W.alloc (.cells #[.slice Aa na ca, .bool ga, .slice Ba ma da] 27)).alloc (.cells #[.slice Ab nb cb, .bool gb, .slice Bb mb db] 27)) (W.heap.size) #[.slice Aa na ca, .bool ga, .slice Ba ma da] 27) := hid ((Box.at_ (w := W) #[.slice Aa na ca, .bool ga, .slice Ba ma da] 27 (by simp)).alloc (.cells #[.slice Ab nb cb, .bool gb, .slice Bb mb db] 27))
  have BX1 : Hid (Box ((W.alloc (.cells #[.slice Aa na ca, .bool ga, .slice Ba ma da] 27)).alloc (.cells #[.slice Ab nb cb, .bool gb, .slice Bb mb db] 27)) (W.heap.size + 1) #[.slice Ab nb cb, .bool gb, .slice Bb mb db] 27) := hid (Box.at_ (w := (W.alloc (.cells #[.slice Aa na ca, .bool ga, .slice Ba ma da] 27))) #[.slice Ab nb cb, .bool gb, .slice Bb mb db] 27 (by simp))
  refine wp_region_T [(0, 1), (1, 0)] (by kernel_rfl) fun wd hb => ?_
  replace E := hid (E.out.trans hb)
  replace BX0 := hid (BX0.out.up hb)
  replace BX1 := hid (BX1.out.up hb)
  clear hb
  have EY := hid (Ext.refl wd)
  refine WE.call (d := some 12) rfl rfl (by rfl) (by go_simp) ((known6 _).mono ?_)
  rintro e wn ⟨rfl, hb⟩
  refine ⟨_, rfl, hb, ?_⟩
  replace EY := hid (EY.out.trans hb)
  clear hb
  simp only [Act.put, pA, pB, pC]
  refine WE.pure (d := some 13) rfl rfl (by rfl) (v := (.bool false)) (fun w' hk => by go_simp) ?_
  simp only [Act.put, pA, pB, pC]
  refine WE.done ?_
  go_upto_region 3 with (fail)
  refine wp_region_T [(0, 0), (1, 1), (2, 0), (3, 0), (4, 0), (5, 1), (6, 0), (7, 0), (8, 0), (9, 0), (10, 1), (11, 0), (12, 0), (13, 0), (14, 0), (15, 1), (16, 0), (17, 0)] (by kernel_rfl) fun wd hb => ?_
  replace EY := hid (EY.out.trans hb)
  clear hb
  refine WE.pure (d := some 14) rfl rfl (by rfl) (v := (.agg #[.slice Aa na ca, .bool ga, .slice Ba ma da])) (fun w' hk => ?_) ?_
  · obtain ⟨ce0, ce1, ce2⟩ := ((BX0.out.up EY.out).up hk).c3; go_simp
  simp only [Act.put, pA, pB, pC]
  refine WE.call (d := some 15) rfl rfl (by rfl) (by go_simp) ((fewL_any (g1 := ga) (HLa.out.up (E.out.trans EY.out)) (HKa.out.up (E.out.trans EY.out)) fa.out).mono ?_)
  rintro e wn ⟨rfl, hb⟩
  refine ⟨_, rfl, hb, ?_⟩
  replace EY := hid (EY.out.trans hb)
  clear hb
  simp only [Act.put, pA, pB, pC]
  refine WE.pure (d := some 16) rfl rfl (by rfl) (v := (.bool false)) (fun w' hk => by go_simp) ?_
  simp only [Act.put, pA, pB, pC]
  refine WE.pure (d := some 17) rfl rfl (by rfl) (v := (.bool false)) (fun w' hk => by go_simp) ?_
  simp only [Act.put, pA, pB, pC]
  refine WE.pure (d := some 18) rfl rfl (by rfl) (v := (.agg #[.slice Ab nb cb, .bool gb, .slice Bb mb db])) (fun w' hk => ?_) ?_
  · obtain ⟨ce0, ce1, ce2⟩ := ((BX1.out.up EY.out).up hk).c3; go_simp
  simp only [Act.put, pA, pB, pC]
  refine WE.call (d := some 19) rfl rfl (by rfl) (by go_simp) ((fewL_any (g1 := gb) (HLb.out.up (E.out.trans EY.out)) (HKb.out.up (E.out.trans EY.out)) fb.out).mono ?_)
  rintro e wn ⟨rfl, hb⟩
  refine ⟨_, rfl, hb, ?_⟩
  replace EY := hid (EY.out.trans hb)
  clear hb
  simp only [Act.put, pA, pB, pC]
  refine WE.pure (d := some 20) rfl rfl (by rfl) (v := (.bool false)) (fun w' hk => by go_simp) ?_
  simp only [Act.put, pA, pB, pC]
  refine WE.pure (d := some 21) rfl rfl (by rfl) (v := (.bool false)) (fun w' hk => by go_simp) ?_
  simp only [Act.put, pA, pB, pC]
  refine WE.pure (d := some 22) rfl rfl (by rfl) (v := (.bool false)) (fun w' hk => by go_simp) ?_
  simp only [Act.put, pA, pB, pC]
  refine WE.pure (d := some 23) rfl rfl (by rfl) (v := (.agg #[.slice Aa na ca, .bool ga, .slice Ba ma da])) (fun w' hk => ?_) ?_
  · obtain ⟨ce0, ce1, ce2⟩ := ((BX0.out.up EY.out).up hk).c3; go_simp
  simp only [Act.put, pA, pB, pC]
  refine WE.call (d := some 24) rfl rfl (by rfl) (by go_simp) ((isL_any (HLa.out.up (E.out.trans EY.out)) (HKa.out.up (E.out.trans EY.out)) sa.out).mono ?_)
  rintro e wn ⟨rfl, hb⟩
  refine ⟨_, rfl, hb, ?_⟩
  replace EY := hid (EY.out.trans hb)
  clear hb
  simp only [Act.put, pA, pB, pC]
  refine WE.pure (d := some 25) rfl rfl (by rfl) (v := (.bool false)) (fun w' hk => by go_simp) ?_
  simp only [Act.put, pA, pB, pC]
  refine WE.pure (d := some 26) rfl rfl (by rfl) (v := (.bool false)) (fun w' hk => by go_simp) ?_
  simp only [Act.put, pA, pB, pC]
  refine WE.pure (d := some 27) rfl rfl (by rfl) (v := (.bool false)) (fun w' hk => by go_simp) ?_
  simp only [Act.put, pA, pB, pC]
  refine WE.pure (d := some 28) rfl rfl (by rfl) (v := (.agg #[.slice Ab nb cb, .bool gb, .slice Bb mb db])) (fun w' hk => ?_) ?_
  · obtain ⟨ce0, ce1, ce2⟩ := ((BX1.out.up EY.out).up hk).c3; go_simp
  simp only [Act.put, pA, pB, pC]
  refine WE.call (d := some 29) rfl rfl (by rfl) (by go_simp) ((isL_any (HLb.out.up (E.out.trans EY.out)) (HKb.out.up (E.out.trans EY.out)) sb.out).mono ?_)
  rintro e wn ⟨rfl, hb⟩
  refine ⟨_, rfl, hb, ?_⟩
  replace EY := hid (EY.out.trans hb)
  clear hb
  simp only [Act.put, pA, pB, pC]
  refine WE.pure (d := some 30) rfl rfl (by rfl) (v := (.bool false)) (fun w' hk => by go_simp) ?_
  simp only [Act.put, pA, pB, pC]
  refine WE.pure (d := some 31) rfl rfl (by rfl) (v := (.bool false)) (fun w' hk => by go_simp) ?_
  simp only [Act.put, pA, pB, pC]
  refine WE.done ?_
  go_upto_region 5 with (fail)
  refine wp_region_T [(0, 0), (1, 0), (2, 0), (3, 0)] (by kernel_rfl) fun wd hb => ?_
  replace EY := hid (EY.out.trans hb)
  clear hb
  refine WE.pure (d := some 32) rfl rfl (by rfl) (v := (.int .u8 v)) (fun w' hk => by go_simp) ?_
  simp only [Act.put, pA, pB, pC]
  refine WE.pure (d := some 33) rfl rfl (by rfl) (v := (.int .u8 (k : Int))) (fun w' hk => by go_simp) ?_
  simp only [Act.put, pA, pB, pC]
  refine WE.pure (d := some 34) rfl rfl (by rfl) (v := (.int .i64 (k : Int))) (fun w' hk => by go_simp) ?_
  simp only [Act.put, pA, pB, pC]
  refine WE.pure (d := some 7) rfl rfl (by rfl) (v := (.int .i64 (k : Int))) (fun w' hk => by go_simp) ?_
  simp only [Act.put, pA, pB, pC]
  refine WE.done ?_
  go_upto_region 6 with (fail)
  refine wp_region_T [(0, 0), (1, 0), (2, 0), (3, 1), (4, 1), (5, 4)] (by kernel_rfl) fun wd hb => ?_
  replace EY := hid (EY.out.trans hb)
  clear hb
  refine WE.pure (d := some 35) rfl rfl (by rfl) (v := (.agg #[.slice Aa na ca, .bool ga, .slice Ba ma da])) (fun w' hk => ?_) ?_
  · obtain ⟨ce0, ce1, ce2⟩ := ((BX0.out.up EY.out).up hk).c3; go_simp
  simp only [Act.put, pA, pB, pC]
  refine WE.pure (d := some 36) rfl rfl (by rfl) (v := (.int .i64 (k : Int))) (fun w' hk => by go_simp) ?_
  simp only [Act.put, pA, pB, pC]
  refine WE.pure (d := some 37) rfl rfl (by rfl) (v := (.agg #[.slice Ab nb cb, .bool gb, .slice Bb mb db])) (fun w' hk => ?_) ?_
  · obtain ⟨ce0, ce1, ce2⟩ := ((BX1.out.up EY.out).up hk).c3; go_simp
  simp only [Act.put, pA, pB, pC]
  refine WE.call (d := some 38) rfl rfl (by rfl) (by go_simp) ((putL_l (WorthL.wide (HIa.out.up (E.out.trans EY.out)).worth (U := 4) (by omega)) (WorthL.wide (HIb.out.up (E.out.trans EY.out)).worth (U := 4) (by omega)) (by omega) (Nat.le_trans NAa.out (by decide)) (Nat.le_trans NAb.out (by decide)) (v := (k : Int))).mono ?_)
  rintro e wn ⟨v1, rfl, x1, hb⟩
  obtain ⟨A11, n11, c11, g11, B11, m11, d11, rfl⟩ := x1.shape
  refine ⟨_, rfl, hb, ?_⟩
  replace EY := hid (EY.out.trans hb)
  have S11 := hid x1
  clear hb x1
  simp only [Act.put, pA, pB, pC]
  refine WE.new (d := some 8) (cs := #[.slice none 0 0, .bool false, .slice none 0 0]) (t := 27) (v := fun g => (.pointer (some ⟨g, 0, none⟩))) rfl rfl (by rfl) (fun w => by go_simp) fun gV8 wv hx0 hbox hge => ?_
  have HNV8BX0 := hid (show gV8 ≠ (W.heap.size) by have := (BX0.out.up EY.out).lt; omega)
  have HNV8BX1 := hid (show gV8 ≠ (W.heap.size + 1) by have := (BX1.out.up EY.out).lt; omega)
  have HGV8 := hid (show W.heap.size ≤ gV8 by have := (E.out.trans EY.out).size; omega)
  replace EY := hid (EY.out.trans hx0)
  replace S11 := hid (S11.out.up hx0)
  have V8 : Hid (Box wv gV8 #[.slice none 0 0, .bool false, .slice none 0 0] 27) := hid hbox
  clear hx0 hbox hge
  simp only [Act.put, pA, pB, pC]
  refine WE.store3 (g := gV8) (x := .slice A11 n11 c11) (y := .bool g11) (z := .slice B11 m11 d11) (t := 27) rfl rfl (by rfl) (fun w hb => ?_) V8.out (by rfl) fun ws hk hs => ?_
  · obtain ⟨ce0, ce1, ce2⟩ := hb.c3; obtain ⟨f0, f1, f2⟩ := hb.f3; go_simp
  intro hbx
  replace S11 := hid (S11.out.kb V8.out (by rfl) hk hs)
  replace E := hid ((E.out.trans EY.out).keptG hk HGV8.out)
  replace BX0 := hid ((BX0.out.up EY.out).kept hk (by simpa using HNV8BX0.out.symm))
  replace BX1 := hid ((BX1.out.up EY.out).kept hk (by simpa using HNV8BX1.out.symm))
  replace V8 := hid hbx
  clear hk hs hbx
  replace EY := hid (Ext.refl ws)
  refine WE.done ?_
  go_upto_region 7 with (fail)
  refine wp_region_E [(0, 0), (1, 0), (3, 0), (4, 0), (2, 2), (5, 2), (6, 3), (7, 3), (8, 4), (9, 4)] (fun _ => (25, #[.bool false, .slice none 0 0])) rfl (by kernel_rfl) (by intro j hj; simp [pend] at hj; rcases hj with rfl | rfl <;> exact ⟨_, rfl, rfl, rfl, fun w => by go_simp⟩) (fun _ _ d _ _ => by cases d <;> exact Iff.rfl) fun wd hb => ?_
  replace EY := hid (EY.out.trans hb)
  clear hb
  have HL1BX0 := hid (BX0.out.up EY.out).lt
  have HL1BX1 := hid (BX1.out.up EY.out).lt
  have HL1V8 := hid (V8.out.up EY.out).lt
  have HW1 := hid (show W.heap.size ≤ wd.heap.size from (E.out.trans EY.out).size)
  refine WE.pure (d := some 39) rfl rfl (by rfl) (v := (.agg #[.slice Aa na ca, .bool ga, .slice Ba ma da])) (fun w' hk => ?_) ?_
  · obtain ⟨ce0, ce1, ce2⟩ := ((BX0.out.up EY.out).up hk).c3; go_simp
  simp only [Act.put, pA, pB, pC]
  refine WE.pure (d := some 40) rfl rfl (by rfl) (v := (.int .i64 (k : Int))) (fun w' hk => by go_simp) ?_
  simp only [Act.put, pA, pB, pC]
  refine WE.pure (d := some 42) rfl rfl (by rfl) (v := (.agg #[.slice Ab nb cb, .bool gb, .slice Bb mb db])) (fun w' hk => ?_) ?_
  · obtain ⟨ce0, ce1, ce2⟩ := ((BX1.out.up EY.out).up hk).c3; go_simp
  simp only [Act.put, pA, pB, pC]
  refine WE.pure (d := some 43) rfl rfl (by rfl) (v := (.int .i64 (k : Int))) (fun w' hk => by go_simp) ?_
  simp only [Act.put, pA, pB, pC]
  refine WE.callR (d := some 41) rfl rfl (by rfl) (f := 26) (args := #[(.agg #[.slice Aa na ca, .bool ga, .slice Ba ma da]), (.int .i64 (k : Int))]) (fun w => by go_simp) (fun wx hx0 => ?_)
  replace EY := hid (EY.out.trans hx0)
  clear hx0
  refine (coefL_l (WorthL.wide (HIa.out.up (E.out.trans EY.out)).worth (U := 4) (by omega)) (Nat.le_trans NAa.out (by decide)) (by omega) (v := (k : Int))).mono ?_
  rintro e wn ⟨v1, rfl, x1, hb⟩
  obtain ⟨g12, A12, n12, c12, rfl⟩ := x1.shape
  refine ⟨_, rfl, hb, ?_⟩
  replace EY := hid (EY.out.trans hb)
  have Q12 := hid x1
  clear hb x1
  simp only [Act.put, pA, pB, pC]
  refine WE.callR (d := some 44) rfl rfl (by rfl) (f := 26) (args := #[(.agg #[.slice Ab nb cb, .bool gb, .slice Bb mb db]), (.int .i64 (k : Int))]) (fun w => by go_simp) (fun wx hx0 => ?_)
  replace EY := hid (EY.out.trans hx0)
  replace Q12 := hid (Q12.out.up hx0)
  clear hx0
  refine (coefL_l (WorthL.wide (HIb.out.up (E.out.trans EY.out)).worth (U := 4) (by omega)) (Nat.le_trans NAb.out (by decide)) (by omega) (v := (k : Int))).mono ?_
  rintro e wn ⟨v1, rfl, x1, hb⟩
  obtain ⟨g13, A13, n13, c13, rfl⟩ := x1.shape
  refine ⟨_, rfl, hb, ?_⟩
  replace EY := hid (EY.out.trans hb)
  replace Q12 := hid (Q12.out.up hb)
  have Q13 := hid x1
  clear hb x1
  simp only [Act.put, pA, pB, pC]
  refine WE.var (d := some 9) rfl fun gV9 wv hx0 hbox hge hng => ?_
  have HNV9BX0 := hid (show gV9 ≠ (W.heap.size) by have := HL1BX0.out; omega)
  have HNV9BX1 := hid (show gV9 ≠ (W.heap.size + 1) by have := HL1BX1.out; omega)
  have HNV9V8 := hid (show gV9 ≠ gV8 by have := HL1V8.out; omega)
  have HGV9 := hid (show W.heap.size ≤ gV9 by have := HW1.out; omega)
  replace EY := hid (EY.out.trans hx0)
  replace Q12 := hid (Q12.out.up hx0)
  replace Q13 := hid (Q13.out.up hx0)
  have V9 : Hid (Box wv gV9 #[.bool false, .slice none 0 0] 25) := hid hbox
  clear hx0 hbox hge hng
  simp only [Act.put, pA, pB, pC]
  refine WE.var (d := some 10) rfl fun gV10 wv hx0 hbox hge hng => ?_
  have HNV10BX0 := hid (show gV10 ≠ (W.heap.size) by have := HL1BX0.out; omega)
  have HNV10BX1 := hid (show gV10 ≠ (W.heap.size + 1) by have := HL1BX1.out; omega)
  have HNV10V8 := hid (show gV10 ≠ gV8 by have := HL1V8.out; omega)
  have HNV10V9 := hid (show gV10 ≠ gV9 by intro e; exact hng (by simp [e]))
  have HGV10 := hid (show W.heap.size ≤ gV10 by have := HW1.out; omega)
  replace EY := hid (EY.out.trans hx0)
  replace V9 := hid (V9.out.up hx0)
  replace Q12 := hid (Q12.out.up hx0)
  replace Q13 := hid (Q13.out.up hx0)
  have V10 : Hid (Box wv gV10 #[.bool false, .slice none 0 0] 25) := hid hbox
  clear hx0 hbox hge hng
  simp only [Act.put, pA, pB, pC]
  refine WE.store2 (g := gV9) (x := .bool g12) (y := .slice A12 n12 c12) (t := 25) rfl rfl (by rfl) (fun w hb => ?_) V9.out (by rfl) fun ws hk hs => ?_
  · obtain ⟨ce0, ce1⟩ := hb.c2; obtain ⟨f0, f1⟩ := hb.f2; go_simp
  intro hbx
  replace S11 := hid ((S11.out.up EY.out).kb V9.out (by rfl) hk hs)
  replace E := hid ((E.out.trans EY.out).keptG hk HGV9.out)
  replace BX0 := hid ((BX0.out.up EY.out).kept hk (by simpa using HNV9BX0.out.symm))
  replace BX1 := hid ((BX1.out.up EY.out).kept hk (by simpa using HNV9BX1.out.symm))
  replace V8 := hid ((V8.out.up EY.out).kept hk (by simpa using HNV9V8.out.symm))
  replace V9 := hid hbx
  replace V10 := hid (V10.out.kept hk (by simpa using HNV10V9.out))
  replace Q12 := hid (Q12.out.kz hs)
  replace Q13 := hid (Q13.out.kz hs)
  clear hk hs hbx
  replace EY := hid (Ext.refl ws)
  refine WE.store2 (g := gV10) (x := .bool g13) (y := .slice A13 n13 c13) (t := 25) rfl rfl (by rfl) (fun w hb => ?_) (V10.out.up EY.out) (by rfl) fun ws hk hs => ?_
  · obtain ⟨ce0, ce1⟩ := hb.c2; obtain ⟨f0, f1⟩ := hb.f2; go_simp
  intro hbx
  replace S11 := hid ((S11.out.up EY.out).kb (V10.out.up EY.out) (by rfl) hk hs)
  replace E := hid ((E.out.trans EY.out).keptG hk HGV10.out)
  replace BX0 := hid ((BX0.out.up EY.out).kept hk (by simpa using HNV10BX0.out.symm))
  replace BX1 := hid ((BX1.out.up EY.out).kept hk (by simpa using HNV10BX1.out.symm))
  replace V8 := hid ((V8.out.up EY.out).kept hk (by simpa using HNV10V8.out.symm))
  replace V9 := hid ((V9.out.up EY.out).kept hk (by simpa using HNV10V9.out.symm))
  replace V10 := hid hbx
  replace Q12 := hid ((Q12.out.up EY.out).kz hs)
  replace Q13 := hid ((Q13.out.up EY.out).kz hs)
  clear hk hs hbx
  replace EY := hid (Ext.refl ws)
  refine WE.done ?_
  go_upto_region 8 with (fail)
  refine wp_region_E [(0, 0), (1, 0), (2, 0), (3, 2), (4, 2), (5, 3), (6, 4)] (fun _ => (27, #[.slice none 0 0, .bool false, .slice none 0 0])) rfl (by kernel_rfl) (by intro j hj; simp [pend] at hj; obtain rfl := hj; exact ⟨_, rfl, rfl, rfl, fun w => by go_simp⟩) (fun _ _ d _ _ => by cases d <;> exact Iff.rfl) fun wd hb => ?_
  replace EY := hid (EY.out.trans hb)
  clear hb
  have HL2BX0 := hid (BX0.out.up EY.out).lt
  have HL2BX1 := hid (BX1.out.up EY.out).lt
  have HL2V8 := hid (V8.out.up EY.out).lt
  have HL2V9 := hid (V9.out.up EY.out).lt
  have HL2V10 := hid (V10.out.up EY.out).lt
  have HW2 := hid (show W.heap.size ≤ wd.heap.size from (E.out.trans EY.out).size)
  refine WE.pure (d := some 45) rfl rfl (by rfl) (v := (.agg #[.slice Aa na ca, .bool ga, .slice Ba ma da])) (fun w' hk => ?_) ?_
  · obtain ⟨ce0, ce1, ce2⟩ := ((BX0.out.up EY.out).up hk).c3; go_simp
  simp only [Act.put, pA, pB, pC]
  refine WE.pure (d := some 46) rfl rfl (by rfl) (v := (.int .i64 (k : Int))) (fun w' hk => by go_simp) ?_
  simp only [Act.put, pA, pB, pC]
  refine WE.pure (d := some 47) rfl rfl (by rfl) (v := (.int .i64 (k : Int))) (fun w' hk => by go_simp) ?_
  simp only [Act.put, pA, pB, pC]
  refine WE.callR (d := some 48) rfl rfl (by rfl) (f := 17) (args := #[(.int .i64 (k : Int))]) (fun w => by go_simp) (fun wx hx0 => ?_)
  replace EY := hid (EY.out.trans hx0)
  clear hx0
  refine (varL_l (v := (k : Int))).mono ?_
  rintro e wn ⟨v1, rfl, x1, hb⟩
  obtain ⟨A14, n14, c14, g14, B14, m14, d14, rfl⟩ := x1.shape
  refine ⟨_, rfl, hb, ?_⟩
  replace EY := hid (EY.out.trans hb)
  have S14 := hid x1
  clear hb x1
  simp only [Act.put, pA, pB, pC]
  refine WE.callR (d := some 49) rfl rfl (by rfl) (f := 28) (args := #[(.agg #[.slice Aa na ca, .bool ga, .slice Ba ma da]), (.int .i64 (k : Int)), (.agg #[.slice A14 n14 c14, .bool g14, .slice B14 m14 d14])]) (fun w => by go_simp) (fun wx hx0 => ?_)
  replace EY := hid (EY.out.trans hx0)
  replace S14 := hid (S14.out.up hx0)
  clear hx0
  refine (putL_l (WorthL.wide (HIa.out.up (E.out.trans EY.out)).worth (U := 4) (by omega)) (WorthL.wide S14.out.worth (U := 4) (by omega)) (by omega) (Nat.le_trans NAa.out (by decide)) (Nat.le_trans (Nat.le_refl 1) (by decide)) (v := (k : Int))).mono ?_
  rintro e wn ⟨v1, rfl, x1, hb⟩
  obtain ⟨A15, n15, c15, g15, B15, m15, d15, rfl⟩ := x1.shape
  refine ⟨_, rfl, hb, ?_⟩
  replace EY := hid (EY.out.trans hb)
  have S15 := hid x1
  clear hb x1
  simp only [Act.put, pA, pB, pC]
  refine WE.var (d := some 11) rfl fun gV11 wv hx0 hbox hge hng => ?_
  have HNV11BX0 := hid (show gV11 ≠ (W.heap.size) by have := HL2BX0.out; omega)
  have HNV11BX1 := hid (show gV11 ≠ (W.heap.size + 1) by have := HL2BX1.out; omega)
  have HNV11V8 := hid (show gV11 ≠ gV8 by have := HL2V8.out; omega)
  have HNV11V9 := hid (show gV11 ≠ gV9 by have := HL2V9.out; omega)
  have HNV11V10 := hid (show gV11 ≠ gV10 by have := HL2V10.out; omega)
  have HGV11 := hid (show W.heap.size ≤ gV11 by have := HW2.out; omega)
  replace EY := hid (EY.out.trans hx0)
  replace S15 := hid (S15.out.up hx0)
  have V11 : Hid (Box wv gV11 #[.slice none 0 0, .bool false, .slice none 0 0] 27) := hid hbox
  clear hx0 hbox hge hng
  simp only [Act.put, pA, pB, pC]
  refine WE.store3 (g := gV11) (x := .slice A15 n15 c15) (y := .bool g15) (z := .slice B15 m15 d15) (t := 27) rfl rfl (by rfl) (fun w hb => ?_) V11.out (by rfl) fun ws hk hs => ?_
  · obtain ⟨ce0, ce1, ce2⟩ := hb.c3; obtain ⟨f0, f1, f2⟩ := hb.f3; go_simp
  intro hbx
  replace S11 := hid ((S11.out.up EY.out).kb V11.out (by rfl) hk hs)
  replace S15 := hid (S15.out.kb V11.out (by rfl) hk hs)
  replace E := hid ((E.out.trans EY.out).keptG hk HGV11.out)
  replace BX0 := hid ((BX0.out.up EY.out).kept hk (by simpa using HNV11BX0.out.symm))
  replace BX1 := hid ((BX1.out.up EY.out).kept hk (by simpa using HNV11BX1.out.symm))
  replace V8 := hid ((V8.out.up EY.out).kept hk (by simpa using HNV11V8.out.symm))
  replace V9 := hid ((V9.out.up EY.out).kept hk (by simpa using HNV11V9.out.symm))
  replace V10 := hid ((V10.out.up EY.out).kept hk (by simpa using HNV11V10.out.symm))
  replace V11 := hid hbx
  replace Q12 := hid ((Q12.out.up EY.out).kz hs)
  replace Q13 := hid ((Q13.out.up EY.out).kz hs)
  clear hk hs hbx
  replace EY := hid (Ext.refl ws)
  refine WE.done ?_
  go_upto_region 9 with (fail)
  refine wp_region_E [(0, 0), (1, 0), (3, 0), (4, 0), (2, 1), (5, 1), (6, 1), (7, 0), (8, 0), (9, 0), (10, 1), (11, 0), (12, 0), (13, 0), (15, 0), (16, 0), (18, 0), (14, 1), (17, 1), (19, 1), (20, 0), (21, 0)] (fun _ => (0, #[])) rfl (by kernel_rfl) (by intro j hj; cases hj) (fun _ _ d _ _ => by cases d <;> exact Iff.rfl) fun wd hb => ?_
  replace EY := hid (EY.out.trans hb)
  clear hb
  refine WE.pure (d := some 50) rfl rfl (by rfl) (v := (.agg #[.slice A11 n11 c11, .bool g11, .slice B11 m11 d11])) (fun w' hk => ?_) ?_
  · obtain ⟨ce0, ce1, ce2⟩ := ((V8.out.up EY.out).up hk).c3; go_simp
  simp only [Act.put, pA, pB, pC]
  refine WE.pure (d := some 51) rfl rfl (by rfl) (v := (.int .i64 (k : Int))) (fun w' hk => by go_simp) ?_
  simp only [Act.put, pA, pB, pC]
  refine WE.pure (d := some 53) rfl rfl (by rfl) (v := (.agg #[.bool g12, .slice A12 n12 c12])) (fun w' hk => ?_) ?_
  · obtain ⟨ce0, ce1⟩ := ((V9.out.up EY.out).up hk).c2; go_simp
  simp only [Act.put, pA, pB, pC]
  refine WE.pure (d := some 54) rfl rfl (by rfl) (v := (.agg #[.bool g13, .slice A13 n13 c13])) (fun w' hk => ?_) ?_
  · obtain ⟨ce0, ce1⟩ := ((V10.out.up EY.out).up hk).c2; go_simp
  simp only [Act.put, pA, pB, pC]
  refine WE.call (d := some 52) rfl rfl (by rfl) (by go_simp) ((coefL_l (WorthL.wide (S11.out.up EY.out).worth (U := 9) (by omega)) (Nat.le_trans (Nat.le_trans (M.putT_len _ _ _) (Nat.add_le_add NAa.out NAb.out)) (by decide)) (by omega) (v := (k : Int))).mono ?_)
  rintro e wn ⟨v1, rfl, x1, hb⟩
  obtain ⟨g16, A16, n16, c16, rfl⟩ := x1.shape
  refine ⟨_, rfl, hb, ?_⟩
  replace EY := hid (EY.out.trans hb)
  have Q16 := hid x1
  clear hb x1
  simp only [Act.put, pA, pB, pC]
  refine WE.call (d := some 55) rfl rfl (by rfl) (by go_simp) ((rMul_w (Worth.wide (Q12.out.up EY.out).worth (k := 5) (by omega)) (Worth.wide (Q13.out.up EY.out).worth (k := 5) (by omega)) (by omega) (by omega)).mono ?_)
  rintro e wn ⟨v1, rfl, x1, hb⟩
  obtain ⟨g17, A17, n17, c17, rfl⟩ := x1.shape
  refine ⟨_, rfl, hb, ?_⟩
  replace EY := hid (EY.out.trans hb)
  replace Q16 := hid (Q16.out.up hb)
  have Q17 := hid x1
  clear hb x1
  simp only [Act.put, pA, pB, pC]
  refine WE.call (d := some 56) rfl rfl (by rfl) (by go_simp) ((rEqual_any Q16.out Q17.out (b := true) (decide_eq_true (M.coef_put_self OA.out OB.out _))).mono ?_)
  rintro e wn ⟨rfl, hb⟩
  refine ⟨_, rfl, hb, ?_⟩
  replace EY := hid (EY.out.trans hb)
  clear hb
  simp only [Act.put, pA, pB, pC]
  refine WE.pure (d := some 57) rfl rfl (by rfl) (v := (.bool true)) (fun w' hk => by go_simp) ?_
  simp only [Act.put, pA, pB, pC]
  refine WE.pure (d := some 58) rfl rfl (by rfl) (v := (.agg #[.slice A15 n15 c15, .bool g15, .slice B15 m15 d15])) (fun w' hk => ?_) ?_
  · obtain ⟨ce0, ce1, ce2⟩ := ((V11.out.up EY.out).up hk).c3; go_simp
  simp only [Act.put, pA, pB, pC]
  refine WE.pure (d := some 59) rfl rfl (by rfl) (v := (.agg #[.slice Aa na ca, .bool ga, .slice Ba ma da])) (fun w' hk => ?_) ?_
  · obtain ⟨ce0, ce1, ce2⟩ := ((BX0.out.up EY.out).up hk).c3; go_simp
  simp only [Act.put, pA, pB, pC]
  refine WE.call (d := some 60) rfl rfl (by rfl) (by go_simp) ((sameL_l (WorthL.wide (S15.out.up EY.out).worth (U := 9) (by omega)) (WorthL.wide (HIa.out.up (E.out.trans EY.out)).worth (U := 9) (by omega)) (b := true) (decide_eq_true ⟨M.putT_self OA.out, by rw [Int.zero_mul, Int.add_zero]⟩)).mono ?_)
  rintro e wn ⟨rfl, hb⟩
  refine ⟨_, rfl, hb, ?_⟩
  replace EY := hid (EY.out.trans hb)
  clear hb
  simp only [Act.put, pA, pB, pC]
  refine WE.pure (d := some 61) rfl rfl (by rfl) (v := (.bool true)) (fun w' hk => by go_simp) ?_
  simp only [Act.put, pA, pB, pC]
  refine WE.pure (d := some 62) rfl rfl (by rfl) (v := (.bool true)) (fun w' hk => by go_simp) ?_
  simp only [Act.put, pA, pB, pC]
  refine WE.pure (d := some 63) rfl rfl (by rfl) (v := (.int .i64 (k : Int))) (fun w' hk => by go_simp) ?_
  simp only [Act.put, pA, pB, pC]
  refine WE.pure (d := some 65) rfl rfl (by rfl) (v := (.int .i64 (k : Int))) (fun w' hk => by go_simp) ?_
  simp only [Act.put, pA, pB, pC]
  refine WE.pure (d := some 66) rfl rfl (by rfl) (v := (.agg #[.slice Ab nb cb, .bool gb, .slice Bb mb db])) (fun w' hk => ?_) ?_
  · obtain ⟨ce0, ce1, ce2⟩ := ((BX1.out.up EY.out).up hk).c3; go_simp
  simp only [Act.put, pA, pB, pC]
  refine WE.pure (d := some 68) rfl rfl (by rfl) (v := (.agg #[.slice Ab nb cb, .bool gb, .slice Bb mb db])) (fun w' hk => ?_) ?_
  · obtain ⟨ce0, ce1, ce2⟩ := ((BX1.out.up EY.out).up hk).c3; go_simp
  simp only [Act.put, pA, pB, pC]
  refine WE.call (d := some 64) rfl rfl (by rfl) (by go_simp) ((varL_l (v := (k : Int))).mono ?_)
  rintro e wn ⟨v1, rfl, x1, hb⟩
  obtain ⟨A18, n18, c18, g18, B18, m18, d18, rfl⟩ := x1.shape
  refine ⟨_, rfl, hb, ?_⟩
  replace EY := hid (EY.out.trans hb)
  have S18 := hid x1
  clear hb x1
  simp only [Act.put, pA, pB, pC]
  refine WE.call (d := some 67) rfl rfl (by rfl) (by go_simp) ((putL_l (WorthL.wide S18.out.worth (U := 4) (by omega)) (WorthL.wide (HIb.out.up (E.out.trans EY.out)).worth (U := 4) (by omega)) (by omega) (Nat.le_trans (Nat.le_refl 1) (by decide)) (Nat.le_trans NAb.out (by decide)) (v := (k : Int))).mono ?_)
  rintro e wn ⟨v1, rfl, x1, hb⟩
  obtain ⟨A19, n19, c19, g19, B19, m19, d19, rfl⟩ := x1.shape
  refine ⟨_, rfl, hb, ?_⟩
  replace EY := hid (EY.out.trans hb)
  have S19 := hid x1
  clear hb x1
  simp only [Act.put, pA, pB, pC]
  refine WE.call (d := some 69) rfl rfl (by rfl) (by go_simp) ((rEqualL_l S19.out (HIb.out.up (E.out.trans EY.out)) (b := true) (decide_eq_true ⟨M.putT_of OB.out, by rw [M.coef_one]; omega⟩)).mono ?_)
  rintro e wn ⟨rfl, hb⟩
  refine ⟨_, rfl, hb, ?_⟩
  replace EY := hid (EY.out.trans hb)
  clear hb
  simp only [Act.put, pA, pB, pC]
  refine WE.pure (d := some 70) rfl rfl (by rfl) (v := (.bool true)) (fun w' hk => by go_simp) ?_
  simp only [Act.put, pA, pB, pC]
  refine WE.pure (d := some 6) rfl rfl (by rfl) (v := (.bool true)) (fun w' hk => by go_simp) ?_
  simp only [Act.put, pA, pB, pC]
  refine WE.done ?_
  repeat go_step
  go_ret
  exact ⟨rfl, (E.out.trans EY.out)⟩

theorem linGone_walk (W : World) (Aa : Option Addr) (na ca : Nat) (la : List (Int × Bool × List Nat)) (ga : Bool) (Ba : Option Addr) (ma da : Nat) (ka : List Nat) (ha : LList W (.slice Aa na ca) la) (ia : Num W W.heap.size (.slice Ba ma da) ka) (Ab : Option Addr) (nb cb : Nat) (lb : List (Int × Bool × List Nat)) (gb : Bool) (Bb : Option Addr) (mb db : Nat) (kb : List Nat) (hb : LList W (.slice Ab nb cb) lb) (ib : Num W W.heap.size (.slice Bb mb db) kb) (v : Int) (hv : 0 ≤ v ∧ v ≤ 255) :
    Calls Tryz.prog 6 #[.agg #[.slice Aa na ca, .bool ga, .slice Ba ma da], .agg #[.slice Ab nb cb, .bool gb, .slice Bb mb db], .int .u8 v] W (fun e w' => e = .returned (.bool true) ∧ Ext W w') := by
  rcases fa : (M.fewL la ka) with _ | _
  · exact linGone_skip0 W Aa na ca la ga Ba ma da ka ha ia Ab nb cb lb gb Bb mb db kb hb ib v hv (hid fa)
  rcases fb : (M.fewL lb kb) with _ | _
  · exact linGone_skip1 W Aa na ca la ga Ba ma da ka ha ia Ab nb cb lb gb Bb mb db kb hb ib v hv (hid fa) (hid fb)
  rcases sa : (M.isL la ga ka) with _ | _
  · exact linGone_skip2 W Aa na ca la ga Ba ma da ka ha ia Ab nb cb lb gb Bb mb db kb hb ib v hv (hid fa) (hid fb) (hid sa)
  rcases sb : (M.isL lb gb kb) with _ | _
  · exact linGone_skip3 W Aa na ca la ga Ba ma da ka ha ia Ab nb cb lb gb Bb mb db kb hb ib v hv (hid fa) (hid fb) (hid sa) (hid sb)
  exact linGone_main W Aa na ca la ga Ba ma da ka ha ia Ab nb cb lb gb Bb mb db kb hb ib v hv (hid fa) (hid fb) (hid sa) (hid sb)

set_option maxRecDepth 100000 in
theorem linGone_lifted (os : Os) (started : os.Started) (H : Type) (enc : TypeId × Value → H) :
    ReturnsInHanded {} Tryz.checked os 6 .any (Rows.linGoneSpec.pre6 enc Tryz.prog Tryz.f6 Rows.linGoneRow.domain false) (Rows.linGoneSpec.post enc Tryz.prog Tryz.f6 false true false false) := by
  refine returnsInHanded_of_change (C := Tryz.checked) own started (by kernel_rfl) Tryz.func6
    (ChangeSpec.witness6 (enc := enc) (C := Tryz.checked) false ⟨#[], #[.agg #[.slice none 0 0, .bool false, .slice none 0 0], .agg #[.slice none 0 0, .bool false, .slice none 0 0], .int .u8 0], []⟩ 8 (by kernel_rfl) (by kernel_rfl) (by kernel_rfl) (by kernel_rfl)) ?_
  intro W base args ds gs before hval0 hW _ _
  have hval : ∀ (j : Nat) t v, Tryz.f6.params[j]? = some t → args[j]? = some v → Value.okWide Tryz.prog W .any base t v := hval0
  have hW' := hW
  obtain ⟨p, q, hA0, hV, rfl, hfz, hnd⟩ := hW
  have hA : DataW.TrodAll enc Tryz.prog W 0 (fun _ => true) true Tryz.f6.params.toList args.toList ds p := hA0
  rw [Tryz.params6] at hA hval
  obtain ⟨v0, vs0, d0, ds0, p0, q0, hargs, rfl, rfl, h0, r0⟩ := trodAll_cons hA
  obtain ⟨v1, vs1, d1, ds1, p1, q1, rfl, rfl, rfl, h1, r1⟩ := trodAll_cons r0
  obtain ⟨v2, vs2, d2, ds2, p2, q2, rfl, rfl, rfl, h2, r2⟩ := trodAll_cons r1
  obtain ⟨rfl, rfl, rfl⟩ := trodAll_nil r2
  obtain rfl : args = #[v0, v1, v2] := by cases args; simp_all
  obtain ⟨rfl, rfl⟩ := trodVars_none hV
  obtain ⟨A0, n0, c0, l0, g0, B0, m0, q0, t0, rfl, e0, f0⟩ := open_L (hval 0 27 _ rfl rfl) h0
  obtain ⟨A1, n1, c1, l1, g1, B1, m1, q1, t1, rfl, e1, f1⟩ := open_L (hval 1 27 _ rfl rfl) h1
  obtain ⟨a2, rfl, -, -, w2⟩ := open_int Tryz.underlying5 (hval 2 5 v2 rfl rfl) h2
  clear hA0 hval0
  refine (linGone_walk W A0 n0 c0 l0 g0 B0 m0 q0 t0 e0 f0 A1 n1 c1 l1 g1 B1 m1 q1 t1 e1 f1 a2 (u8_of_wf w2)).mono fun e W' ⟨he, hg⟩ => ?_
  subst he
  exact ⟨_, rfl, law_post hW' rfl rfl (by kernel_rfl) (by kernel_rfl) hg⟩

theorem linGone_over : Rows.linGoneRow.holds Tryz.pinned (OpenSpec.ofChange Rows.linGoneSpec) :=
  OpenClaim.holds_of_wide 6 Tryz.f6 rfl rfl rfl rfl rfl rfl rfl ⟨rfl, rfl, rfl, rfl, rfl⟩ rfl rfl rfl rfl rfl (by kernel_rfl) Tryz.func6 (by kernel_rfl)
    (of_decide_eq_true (by kernel_rfl)) (by unfold Func.isWrapper; first | (rw [if_pos (by decide +kernel)]; kernel_rfl) | (rw [if_neg (by decide +kernel)]; exact ⟨rfl, rfl⟩))
    (fun os started H enc _ => linGone_lifted os started H enc)

theorem linGone_proved : Rows.LinGoneSaid := linGone_over

end Go.Proofs.YtfjehdcdbejlnaaGreat
