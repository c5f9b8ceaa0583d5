/-
  LinTells: whatever two forms (or what is none), whatever integer, variable and point: true. No conditions.
-/
import Derived.Test.YtklmnmkmpkobhaaGreatLKnown
import Derived.Test.YtklmnmkmpkobhaaGreatLRefG
namespace Go.Proofs.YtklmnmkmpkobhaaGreat
open Go.ChangeShapes Go.WideShapes Go.ChangeAt Go.RowKit
set_option linter.unusedSimpArgs false
set_option linter.unusedVariables false

set_option maxRecDepth 100000 in
set_option maxHeartbeats 2000000 in
theorem linTells_skip0 (W : World) (Aa : Option Addr) (na ca : Nat) (la : List (Int × Bool × List Nat)) (ga : Bool) (Ba : Option Addr) (ma da : Nat) (ka : List Nat) (ha : LList W (.slice Aa na ca) la) (ia : Num W W.heap.size (.slice Ba ma da) ka) (Ab : Option Addr) (nb cb : Nat) (lb : List (Int × Bool × List Nat)) (gb : Bool) (Bb : Option Addr) (mb db : Nat) (kb : List Nat) (hb : LList W (.slice Ab nb cb) lb) (ib : Num W W.heap.size (.slice Bb mb db) kb) (gc : Bool) (Ac : Option Addr) (nc cc : Nat) (lc : List Nat) (hc : Num W W.heap.size (.slice Ac nc cc) lc) (v : Int) (Ax : Option Addr) (nx cx : Nat) (lx : List (Bool × List Nat)) (hx : ZList W (.slice Ax nx cx) lx) (fa : Hid (M.fewL la ka = false)) :
 Calls Tryz.prog 3 #[.agg #[.slice Aa na ca, .bool ga, .slice Ba ma da], .agg #[.slice Ab nb cb, .bool gb, .slice Bb mb db], .agg #[.bool gc, .slice Ac nc cc], .int .i64 v, .slice Ax nx cx] W (fun e w' => e = .returned (.bool true) ∧ Ext W w') := by
 have HLa := hid ha
 have HKa := hid ia
 clear ha ia
 clear hb ib
 have HNc := hid hc.cnt
 have hn9c : nc ≤ 9223372036854775807 := hc.cnt.2
 clear hc
 have HPCx := hid hx.count
 have hb9x : nx ≤ 9223372036854775807 := hx.count.2.2
 clear hx
 go_enter Tryz.func3, Tryz.ntmps3
 go_upto_region 1 with (fail)
 obtain ⟨E, BX0, -, -⟩ := open3 W #[.slice Aa na ca, .bool ga, .slice Ba ma da] 27 #[.slice Ab nb cb, .bool gb, .slice Bb mb db] 27 #[.bool gc, .slice Ac nc cc] 25
 refine wp_region_S [(0, 1), (1, 0)] fun wd hb => ?_
 replace E := hid (E.out.trans hb)
 replace BX0 := hid (BX0.out.up hb)
 clear hb
 have EY := hid (Ext.refl wd)
 refine WE.cc 12 ((known6 _).mono ?_)
 rintro e wn ⟨rfl, hb⟩
 refine ⟨_, rfl, hb, ?_⟩
 replace EY := hid (EY.out.trans hb)
 clear hb
 refine WE.pp 13 (.bool false) ?_
 simp only [Act.put, pA, pB, pC]
 refine WE.done ?_
 go_upto_region 3 with (fail)
 refine wp_region_S [(0, 0), (1, 1), (2, 0), (3, 0), (4, 0), (5, 1), (6, 0), (7, 0), (8, 0), (9, 0), (10, 0), (11, 0), (12, 0), (13, 0), (14, 0), (15, 0), (16, 1), (17, 0), (18, 0)] fun wd hb => ?_
 replace EY := hid (EY.out.trans hb)
 clear hb
 refine WE.qq 14 (.agg #[.slice Aa na ca, .bool ga, .slice Ba ma da]) rfl (fun w' hk => by obtain ⟨ce0, ce1, ce2⟩ := ((BX0.out.up EY.out).up hk).c3; go_simp) ?_
 refine WE.cc 15 ((fewL_any (g1 := ga) (HLa.out.up (E.out.trans EY.out)) (HKa.out.up (E.out.trans EY.out)) fa.out).mono ?_)
 rintro e wn ⟨rfl, hb⟩
 refine ⟨_, rfl, hb, ?_⟩
 replace EY := hid (EY.out.trans hb)
 clear hb
 refine WE.pp 16 (.bool true) ?_
 refine WE.pp 17 (.bool true) ?_
 refine WE.ss 18 ?_
 refine WE.tt 19 ?_
 simp only [Act.put, pA, pB, pC]
 refine WE.ss 20 ?_
 refine WE.pp 21 (.bool true) ?_
 refine WE.pp 22 (.bool true) ?_
 refine WE.ss 23 ?_
 refine WE.ss 24 ?_
 refine WE.ss 25 ?_
 simp only [Act.put, pA, pB, pC]
 refine WE.ss 26 ?_
 refine WE.pp 27 (.bool true) ?_
 refine WE.pp 28 (.bool true) ?_
 refine WE.ss 29 ?_
 refine WE.tt 30 ?_
 refine WE.ss 31 ?_
 simp only [Act.put, pA, pB, pC]
 refine WE.pp 32 (.bool true) ?_
 simp only [Act.put, pA, pB, pC]
 refine WE.done ?_
 go_upto_region 4 with (fail)
 refine wp_region_S [(0, 0)] fun wd hb => ?_
 replace EY := hid (EY.out.trans hb)
 clear hb
 refine WE.pp 10 (.bool true) ?_
 simp only [Act.put, pA, pB, pC]
 refine WE.done ?_
 repeat go_step
 go_ret
 exact ⟨rfl, (E.out.trans EY.out)⟩

set_option maxRecDepth 100000 in
set_option maxHeartbeats 2000000 in
theorem linTells_skip1 (W : World) (Aa : Option Addr) (na ca : Nat) (la : List (Int × Bool × List Nat)) (ga : Bool) (Ba : Option Addr) (ma da : Nat) (ka : List Nat) (ha : LList W (.slice Aa na ca) la) (ia : Num W W.heap.size (.slice Ba ma da) ka) (Ab : Option Addr) (nb cb : Nat) (lb : List (Int × Bool × List Nat)) (gb : Bool) (Bb : Option Addr) (mb db : Nat) (kb : List Nat) (hb : LList W (.slice Ab nb cb) lb) (ib : Num W W.heap.size (.slice Bb mb db) kb) (gc : Bool) (Ac : Option Addr) (nc cc : Nat) (lc : List Nat) (hc : Num W W.heap.size (.slice Ac nc cc) lc) (v : Int) (Ax : Option Addr) (nx cx : Nat) (lx : List (Bool × List Nat)) (hx : ZList W (.slice Ax nx cx) lx) (fa : Hid (M.fewL la ka = true)) (fb : Hid (M.fewL lb kb = false)) :
 Calls Tryz.prog 3 #[.agg #[.slice Aa na ca, .bool ga, .slice Ba ma da], .agg #[.slice Ab nb cb, .bool gb, .slice Bb mb db], .agg #[.bool gc, .slice Ac nc cc], .int .i64 v, .slice Ax nx cx] W (fun e w' => e = .returned (.bool true) ∧ Ext W w') := by
 have HLa := hid ha
 have HKa := hid ia
 clear ha ia
 have HLb := hid hb
 have HKb := hid ib
 clear hb ib
 have HNc := hid hc.cnt
 have hn9c : nc ≤ 9223372036854775807 := hc.cnt.2
 clear hc
 have HPCx := hid hx.count
 have hb9x : nx ≤ 9223372036854775807 := hx.count.2.2
 clear hx
 go_enter Tryz.func3, Tryz.ntmps3
 go_upto_region 1 with (fail)
 obtain ⟨E, BX0, BX1, -⟩ := open3 W #[.slice Aa na ca, .bool ga, .slice Ba ma da] 27 #[.slice Ab nb cb, .bool gb, .slice Bb mb db] 27 #[.bool gc, .slice Ac nc cc] 25
 refine wp_region_S [(0, 1), (1, 0)] fun wd hb => ?_
 replace E := hid (E.out.trans hb)
 replace BX0 := hid (BX0.out.up hb)
 replace BX1 := hid (BX1.out.up hb)
 clear hb
 have EY := hid (Ext.refl wd)
 refine WE.cc 12 ((known6 _).mono ?_)
 rintro e wn ⟨rfl, hb⟩
 refine ⟨_, rfl, hb, ?_⟩
 replace EY := hid (EY.out.trans hb)
 clear hb
 refine WE.pp 13 (.bool false) ?_
 simp only [Act.put, pA, pB, pC]
 refine WE.done ?_
 go_upto_region 3 with (fail)
 refine wp_region_S [(0, 0), (1, 1), (2, 0), (3, 0), (4, 0), (5, 1), (6, 0), (7, 0), (8, 0), (9, 0), (10, 0), (11, 0), (12, 0), (13, 0), (14, 0), (15, 0), (16, 1), (17, 0), (18, 0)] fun wd hb => ?_
 replace EY := hid (EY.out.trans hb)
 clear hb
 refine WE.qq 14 (.agg #[.slice Aa na ca, .bool ga, .slice Ba ma da]) rfl (fun w' hk => by obtain ⟨ce0, ce1, ce2⟩ := ((BX0.out.up EY.out).up hk).c3; go_simp) ?_
 refine WE.cc 15 ((fewL_any (g1 := ga) (HLa.out.up (E.out.trans EY.out)) (HKa.out.up (E.out.trans EY.out)) fa.out).mono ?_)
 rintro e wn ⟨rfl, hb⟩
 refine ⟨_, rfl, hb, ?_⟩
 replace EY := hid (EY.out.trans hb)
 clear hb
 refine WE.pp 16 (.bool false) ?_
 refine WE.pp 17 (.bool false) ?_
 refine WE.qq 18 (.agg #[.slice Ab nb cb, .bool gb, .slice Bb mb db]) rfl (fun w' hk => by obtain ⟨ce0, ce1, ce2⟩ := ((BX1.out.up EY.out).up hk).c3; go_simp) ?_
 refine WE.cc 19 ((fewL_any (g1 := gb) (HLb.out.up (E.out.trans EY.out)) (HKb.out.up (E.out.trans EY.out)) fb.out).mono ?_)
 rintro e wn ⟨rfl, hb⟩
 refine ⟨_, rfl, hb, ?_⟩
 replace EY := hid (EY.out.trans hb)
 clear hb
 simp only [Act.put, pA, pB, pC]
 refine WE.pp 20 (.bool true) ?_
 refine WE.pp 21 (.bool true) ?_
 refine WE.pp 22 (.bool true) ?_
 refine WE.ss 23 ?_
 refine WE.ss 24 ?_
 refine WE.ss 25 ?_
 simp only [Act.put, pA, pB, pC]
 refine WE.ss 26 ?_
 refine WE.pp 27 (.bool true) ?_
 refine WE.pp 28 (.bool true) ?_
 refine WE.ss 29 ?_
 refine WE.tt 30 ?_
 refine WE.ss 31 ?_
 simp only [Act.put, pA, pB, pC]
 refine WE.pp 32 (.bool true) ?_
 simp only [Act.put, pA, pB, pC]
 refine WE.done ?_
 go_upto_region 4 with (fail)
 refine wp_region_S [(0, 0)] fun wd hb => ?_
 replace EY := hid (EY.out.trans hb)
 clear hb
 refine WE.pp 10 (.bool true) ?_
 simp only [Act.put, pA, pB, pC]
 refine WE.done ?_
 repeat go_step
 go_ret
 exact ⟨rfl, (E.out.trans EY.out)⟩

set_option maxRecDepth 100000 in
set_option maxHeartbeats 2000000 in
theorem linTells_skip2 (W : World) (Aa : Option Addr) (na ca : Nat) (la : List (Int × Bool × List Nat)) (ga : Bool) (Ba : Option Addr) (ma da : Nat) (ka : List Nat) (ha : LList W (.slice Aa na ca) la) (ia : Num W W.heap.size (.slice Ba ma da) ka) (Ab : Option Addr) (nb cb : Nat) (lb : List (Int × Bool × List Nat)) (gb : Bool) (Bb : Option Addr) (mb db : Nat) (kb : List Nat) (hb : LList W (.slice Ab nb cb) lb) (ib : Num W W.heap.size (.slice Bb mb db) kb) (gc : Bool) (Ac : Option Addr) (nc cc : Nat) (lc : List Nat) (hc : Num W W.heap.size (.slice Ac nc cc) lc) (v : Int) (Ax : Option Addr) (nx cx : Nat) (lx : List (Bool × List Nat)) (hx : ZList W (.slice Ax nx cx) lx) (fa : Hid (M.fewL la ka = true)) (fb : Hid (M.fewL lb kb = true)) (fc : Hid ((!decide ((4 : Int) < (nc : Int))) = false)) :
 Calls Tryz.prog 3 #[.agg #[.slice Aa na ca, .bool ga, .slice Ba ma da], .agg #[.slice Ab nb cb, .bool gb, .slice Bb mb db], .agg #[.bool gc, .slice Ac nc cc], .int .i64 v, .slice Ax nx cx] W (fun e w' => e = .returned (.bool true) ∧ Ext W w') := by
 have HLa := hid ha
 have HKa := hid ia
 clear ha ia
 have HLb := hid hb
 have HKb := hid ib
 clear hb ib
 have HNc := hid hc.cnt
 have hn9c : nc ≤ 9223372036854775807 := hc.cnt.2
 clear hc
 have HPCx := hid hx.count
 have hb9x : nx ≤ 9223372036854775807 := hx.count.2.2
 clear hx
 have hcd : decide ((4 : Int) < (nc : Int)) = true := by have := fc.out; simpa using this
 go_enter Tryz.func3, Tryz.ntmps3
 go_upto_region 1 with (fail)
 obtain ⟨E, BX0, BX1, BX2⟩ := open3 W #[.slice Aa na ca, .bool ga, .slice Ba ma da] 27 #[.slice Ab nb cb, .bool gb, .slice Bb mb db] 27 #[.bool gc, .slice Ac nc cc] 25
 refine wp_region_S [(0, 1), (1, 0)] fun wd hb => ?_
 replace E := hid (E.out.trans hb)
 replace BX0 := hid (BX0.out.up hb)
 replace BX1 := hid (BX1.out.up hb)
 replace BX2 := hid (BX2.out.up hb)
 clear hb
 have EY := hid (Ext.refl wd)
 refine WE.cc 12 ((known6 _).mono ?_)
 rintro e wn ⟨rfl, hb⟩
 refine ⟨_, rfl, hb, ?_⟩
 replace EY := hid (EY.out.trans hb)
 clear hb
 refine WE.pp 13 (.bool false) ?_
 simp only [Act.put, pA, pB, pC]
 refine WE.done ?_
 go_upto_region 3 with (fail)
 refine wp_region_S [(0, 0), (1, 1), (2, 0), (3, 0), (4, 0), (5, 1), (6, 0), (7, 0), (8, 0), (9, 0), (10, 0), (11, 0), (12, 0), (13, 0), (14, 0), (15, 0), (16, 1), (17, 0), (18, 0)] fun wd hb => ?_
 replace EY := hid (EY.out.trans hb)
 clear hb
 refine WE.qq 14 (.agg #[.slice Aa na ca, .bool ga, .slice Ba ma da]) rfl (fun w' hk => by obtain ⟨ce0, ce1, ce2⟩ := ((BX0.out.up EY.out).up hk).c3; go_simp) ?_
 refine WE.cc 15 ((fewL_any (g1 := ga) (HLa.out.up (E.out.trans EY.out)) (HKa.out.up (E.out.trans EY.out)) fa.out).mono ?_)
 rintro e wn ⟨rfl, hb⟩
 refine ⟨_, rfl, hb, ?_⟩
 replace EY := hid (EY.out.trans hb)
 clear hb
 refine WE.pp 16 (.bool false) ?_
 refine WE.pp 17 (.bool false) ?_
 refine WE.qq 18 (.agg #[.slice Ab nb cb, .bool gb, .slice Bb mb db]) rfl (fun w' hk => by obtain ⟨ce0, ce1, ce2⟩ := ((BX1.out.up EY.out).up hk).c3; go_simp) ?_
 refine WE.cc 19 ((fewL_any (g1 := gb) (HLb.out.up (E.out.trans EY.out)) (HKb.out.up (E.out.trans EY.out)) fb.out).mono ?_)
 rintro e wn ⟨rfl, hb⟩
 refine ⟨_, rfl, hb, ?_⟩
 replace EY := hid (EY.out.trans hb)
 clear hb
 simp only [Act.put, pA, pB, pC]
 refine WE.pp 20 (.bool false) ?_
 refine WE.pp 21 (.bool false) ?_
 refine WE.pp 22 (.bool false) ?_
 refine WE.pp 23 (.pointer (some ⟨(W.heap.size + 2), 1, none⟩)) ?_
 refine WE.qq 24 (.slice Ac nc cc) rfl (fun w' hk => by have ce1 := ((BX2.out.up EY.out).up hk).k 1; go_simp) ?_
 refine WE.pp 25 (.int .i64 (nc : Int)) ?_
 simp only [Act.put, pA, pB, pC]
 refine WE.pp 26 (.bool true) ?_
 refine WE.pp 27 (.bool true) ?_
 refine WE.pp 28 (.bool true) ?_
 refine WE.ss 29 ?_
 refine WE.tt 30 ?_
 refine WE.ss 31 ?_
 simp only [Act.put, pA, pB, pC]
 refine WE.pp 32 (.bool true) ?_
 simp only [Act.put, pA, pB, pC]
 refine WE.done ?_
 go_upto_region 4 with (fail)
 refine wp_region_S [(0, 0)] fun wd hb => ?_
 replace EY := hid (EY.out.trans hb)
 clear hb
 refine WE.pp 10 (.bool true) ?_
 simp only [Act.put, pA, pB, pC]
 refine WE.done ?_
 repeat go_step
 go_ret
 exact ⟨rfl, (E.out.trans EY.out)⟩

set_option maxRecDepth 100000 in
set_option maxHeartbeats 2000000 in
theorem linTells_skip3 (W : World) (Aa : Option Addr) (na ca : Nat) (la : List (Int × Bool × List Nat)) (ga : Bool) (Ba : Option Addr) (ma da : Nat) (ka : List Nat) (ha : LList W (.slice Aa na ca) la) (ia : Num W W.heap.size (.slice Ba ma da) ka) (Ab : Option Addr) (nb cb : Nat) (lb : List (Int × Bool × List Nat)) (gb : Bool) (Bb : Option Addr) (mb db : Nat) (kb : List Nat) (hb : LList W (.slice Ab nb cb) lb) (ib : Num W W.heap.size (.slice Bb mb db) kb) (gc : Bool) (Ac : Option Addr) (nc cc : Nat) (lc : List Nat) (hc : Num W W.heap.size (.slice Ac nc cc) lc) (v : Int) (Ax : Option Addr) (nx cx : Nat) (lx : List (Bool × List Nat)) (hx : ZList W (.slice Ax nx cx) lx) (fa : Hid (M.fewL la ka = true)) (fb : Hid (M.fewL lb kb = true)) (fc : Hid ((!decide ((4 : Int) < (nc : Int))) = true)) (fx : Hid (M.fewP lx = false)) :
 Calls Tryz.prog 3 #[.agg #[.slice Aa na ca, .bool ga, .slice Ba ma da], .agg #[.slice Ab nb cb, .bool gb, .slice Bb mb db], .agg #[.bool gc, .slice Ac nc cc], .int .i64 v, .slice Ax nx cx] W (fun e w' => e = .returned (.bool true) ∧ Ext W w') := by
 have HLa := hid ha
 have HKa := hid ia
 clear ha ia
 have HLb := hid hb
 have HKb := hid ib
 clear hb ib
 have HNc := hid hc.cnt
 have hn9c : nc ≤ 9223372036854775807 := hc.cnt.2
 clear hc
 have HPx := hid hx
 have HPCx := hid hx.count
 have hb9x : nx ≤ 9223372036854775807 := hx.count.2.2
 clear hx
 have hcd : decide ((4 : Int) < (nc : Int)) = false := by have := fc.out; simpa using this
 go_enter Tryz.func3, Tryz.ntmps3
 go_upto_region 1 with (fail)
 obtain ⟨E, BX0, BX1, BX2⟩ := open3 W #[.slice Aa na ca, .bool ga, .slice Ba ma da] 27 #[.slice Ab nb cb, .bool gb, .slice Bb mb db] 27 #[.bool gc, .slice Ac nc cc] 25
 refine wp_region_S [(0, 1), (1, 0)] fun wd hb => ?_
 replace E := hid (E.out.trans hb)
 replace BX0 := hid (BX0.out.up hb)
 replace BX1 := hid (BX1.out.up hb)
 replace BX2 := hid (BX2.out.up hb)
 clear hb
 have EY := hid (Ext.refl wd)
 refine WE.cc 12 ((known6 _).mono ?_)
 rintro e wn ⟨rfl, hb⟩
 refine ⟨_, rfl, hb, ?_⟩
 replace EY := hid (EY.out.trans hb)
 clear hb
 refine WE.pp 13 (.bool false) ?_
 simp only [Act.put, pA, pB, pC]
 refine WE.done ?_
 go_upto_region 3 with (fail)
 refine wp_region_S [(0, 0), (1, 1), (2, 0), (3, 0), (4, 0), (5, 1), (6, 0), (7, 0), (8, 0), (9, 0), (10, 0), (11, 0), (12, 0), (13, 0), (14, 0), (15, 0), (16, 1), (17, 0), (18, 0)] fun wd hb => ?_
 replace EY := hid (EY.out.trans hb)
 clear hb
 refine WE.qq 14 (.agg #[.slice Aa na ca, .bool ga, .slice Ba ma da]) rfl (fun w' hk => by obtain ⟨ce0, ce1, ce2⟩ := ((BX0.out.up EY.out).up hk).c3; go_simp) ?_
 refine WE.cc 15 ((fewL_any (g1 := ga) (HLa.out.up (E.out.trans EY.out)) (HKa.out.up (E.out.trans EY.out)) fa.out).mono ?_)
 rintro e wn ⟨rfl, hb⟩
 refine ⟨_, rfl, hb, ?_⟩
 replace EY := hid (EY.out.trans hb)
 clear hb
 refine WE.pp 16 (.bool false) ?_
 refine WE.pp 17 (.bool false) ?_
 refine WE.qq 18 (.agg #[.slice Ab nb cb, .bool gb, .slice Bb mb db]) rfl (fun w' hk => by obtain ⟨ce0, ce1, ce2⟩ := ((BX1.out.up EY.out).up hk).c3; go_simp) ?_
 refine WE.cc 19 ((fewL_any (g1 := gb) (HLb.out.up (E.out.trans EY.out)) (HKb.out.up (E.out.trans EY.out)) fb.out).mono ?_)
 rintro e wn ⟨rfl, hb⟩
 refine ⟨_, rfl, hb, ?_⟩
 replace EY := hid (EY.out.trans hb)
 clear hb
 simp only [Act.put, pA, pB, pC]
 refine WE.pp 20 (.bool false) ?_
 refine WE.pp 21 (.bool false) ?_
 refine WE.pp 22 (.bool false) ?_
 refine WE.pp 23 (.pointer (some ⟨(W.heap.size + 2), 1, none⟩)) ?_
 refine WE.qq 24 (.slice Ac nc cc) rfl (fun w' hk => by have ce1 := ((BX2.out.up EY.out).up hk).k 1; go_simp) ?_
 refine WE.pp 25 (.int .i64 (nc : Int)) ?_
 simp only [Act.put, pA, pB, pC]
 refine WE.pp 26 (.bool false) ?_
 refine WE.pp 27 (.bool false) ?_
 refine WE.pp 28 (.bool false) ?_
 refine WE.pp 29 (.slice Ax nx cx) ?_
 refine WE.cc 30 ((fewP_any (HPx.out.up (E.out.trans EY.out)) fx.out).mono ?_)
 rintro e wn ⟨rfl, hb⟩
 refine ⟨_, rfl, hb, ?_⟩
 replace EY := hid (EY.out.trans hb)
 clear hb
 refine WE.pp 31 (.bool true) ?_
 simp only [Act.put, pA, pB, pC]
 refine WE.pp 32 (.bool true) ?_
 simp only [Act.put, pA, pB, pC]
 refine WE.done ?_
 go_upto_region 4 with (fail)
 refine wp_region_S [(0, 0)] fun wd hb => ?_
 replace EY := hid (EY.out.trans hb)
 clear hb
 refine WE.pp 10 (.bool true) ?_
 simp only [Act.put, pA, pB, pC]
 refine WE.done ?_
 repeat go_step
 go_ret
 exact ⟨rfl, (E.out.trans EY.out)⟩

set_option maxRecDepth 100000 in
set_option maxHeartbeats 16000000 in
theorem linTells_main (W : World) (Aa : Option Addr) (na ca : Nat) (la : List (Int × Bool × List Nat)) (ga : Bool) (Ba : Option Addr) (ma da : Nat) (ka : List Nat) (ha : LList W (.slice Aa na ca) la) (ia : Num W W.heap.size (.slice Ba ma da) ka) (Ab : Option Addr) (nb cb : Nat) (lb : List (Int × Bool × List Nat)) (gb : Bool) (Bb : Option Addr) (mb db : Nat) (kb : List Nat) (hb : LList W (.slice Ab nb cb) lb) (ib : Num W W.heap.size (.slice Bb mb db) kb) (gc : Bool) (Ac : Option Addr) (nc cc : Nat) (lc : List Nat) (hc : Num W W.heap.size (.slice Ac nc cc) lc) (v : Int) (Ax : Option Addr) (nx cx : Nat) (lx : List (Bool × List Nat)) (hx : ZList W (.slice Ax nx cx) lx) (fa : Hid (M.fewL la ka = true)) (fb : Hid (M.fewL lb kb = true)) (fc : Hid ((!decide ((4 : Int) < (nc : Int))) = true)) (fx : Hid (M.fewP lx = true)) :
 Calls Tryz.prog 3 #[.agg #[.slice Aa na ca, .bool ga, .slice Ba ma da], .agg #[.slice Ab nb cb, .bool gb, .slice Bb mb db], .agg #[.bool gc, .slice Ac nc cc], .int .i64 v, .slice Ax nx cx] W (fun e w' => e = .returned (.bool true) ∧ Ext W w') := by
 have HLa := hid ha
 have HKa := hid ia
 obtain ⟨qa, qb, qc⟩ := M.fewL_parts fa.out
 obtain ⟨t, hta⟩ : ∃ t, t = M.ft la ga ka := ⟨_, rfl⟩
 obtain ⟨κ, hka⟩ : ∃ k, k = M.fk la ga ka := ⟨_, rfl⟩
 have HAa := hid (worthL_of ha ia qa qc hta hka)
 have NAa := hid (show t.length ≤ 8 by rw [hta]; exact Nat.le_trans (M.ft_len _ _ _) qb)
 clear qa qb qc hta hka
 clear ha ia
 have HLb := hid hb
 have HKb := hid ib
 obtain ⟨qa, qb, qc⟩ := M.fewL_parts fb.out
 obtain ⟨s, htb⟩ : ∃ t, t = M.ft lb gb kb := ⟨_, rfl⟩
 obtain ⟨μ, hkb⟩ : ∃ k, k = M.fk lb gb kb := ⟨_, rfl⟩
 have HAb := hid (worthL_of hb ib qa qc htb hkb)
 have NAb := hid (show s.length ≤ 8 by rw [htb]; exact Nat.le_trans (M.ft_len _ _ _) qb)
 clear qa qb qc htb hkb
 clear hb ib
 have HNc := hid hc.cnt
 have hn9c : nc ≤ 9223372036854775807 := hc.cnt.2
 obtain ⟨z, hzc⟩ : ∃ z : Int, z = M.zv gc lc := ⟨_, rfl⟩
 have Rc := hid (worth_of (g := gc) (k := 4) hc (by have := hc.cnt.1; have := fc.out; simp at this; omega) hzc)
 clear hzc
 clear hc
 have HPx := hid hx
 have HPCx := hid hx.count
 have hb9x : nx ≤ 9223372036854775807 := hx.count.2.2
 have HPSx := hid (M.fewP_parts fx.out)
 clear hx
 have hcd : decide ((4 : Int) < (nc : Int)) = false := by have := fc.out; simpa using this
 obtain ⟨sm, hsm⟩ : ∃ b : Bool, decide (t = s ∧ κ = μ) = b := ⟨_, rfl⟩
 have HSM := hid hsm
 obtain ⟨ia, hia⟩ : ∃ b : Bool, M.isL la ga ka = b := ⟨_, rfl⟩
 have HIA := hid hia
 clear hsm hia
 go_enter Tryz.func3, Tryz.ntmps3
 go_upto_region 1 with (fail)
 obtain ⟨E, BX0, BX1, BX2⟩ := open3 W #[.slice Aa na ca, .bool ga, .slice Ba ma da] 27 #[.slice Ab nb cb, .bool gb, .slice Bb mb db] 27 #[.bool gc, .slice Ac nc cc] 25
 replace Rc := hid (Rc.out.up E.out)
 refine wp_region_S [(0, 1), (1, 0)] fun wd hb => ?_
 replace E := hid (E.out.trans hb)
 replace BX0 := hid (BX0.out.up hb)
 replace BX1 := hid (BX1.out.up hb)
 replace BX2 := hid (BX2.out.up hb)
 replace Rc := hid (Rc.out.up hb)
 clear hb
 have EY := hid (Ext.refl wd)
 refine WE.cc 12 ((known6 _).mono ?_)
 rintro e wn ⟨rfl, hb⟩
 refine ⟨_, rfl, hb, ?_⟩
 replace EY := hid (EY.out.trans hb)
 clear hb
 refine WE.pp 13 (.bool false) ?_
 simp only [Act.put, pA, pB, pC]
 refine WE.done ?_
 go_upto_region 3 with (fail)
 refine wp_region_S [(0, 0), (1, 1), (2, 0), (3, 0), (4, 0), (5, 1), (6, 0), (7, 0), (8, 0), (9, 0), (10, 0), (11, 0), (12, 0), (13, 0), (14, 0), (15, 0), (16, 1), (17, 0), (18, 0)] fun wd hb => ?_
 replace EY := hid (EY.out.trans hb)
 clear hb
 refine WE.qq 14 (.agg #[.slice Aa na ca, .bool ga, .slice Ba ma da]) rfl (fun w' hk => by obtain ⟨ce0, ce1, ce2⟩ := ((BX0.out.up EY.out).up hk).c3; go_simp) ?_
 refine WE.cc 15 ((fewL_any (g1 := ga) (HLa.out.up (E.out.trans EY.out)) (HKa.out.up (E.out.trans EY.out)) fa.out).mono ?_)
 rintro e wn ⟨rfl, hb⟩
 refine ⟨_, rfl, hb, ?_⟩
 replace EY := hid (EY.out.trans hb)
 clear hb
 refine WE.pp 16 (.bool false) ?_
 refine WE.pp 17 (.bool false) ?_
 refine WE.qq 18 (.agg #[.slice Ab nb cb, .bool gb, .slice Bb mb db]) rfl (fun w' hk => by obtain ⟨ce0, ce1, ce2⟩ := ((BX1.out.up EY.out).up hk).c3; go_simp) ?_
 refine WE.cc 19 ((fewL_any (g1 := gb) (HLb.out.up (E.out.trans EY.out)) (HKb.out.up (E.out.trans EY.out)) fb.out).mono ?_)
 rintro e wn ⟨rfl, hb⟩
 refine ⟨_, rfl, hb, ?_⟩
 replace EY := hid (EY.out.trans hb)
 clear hb
 simp only [Act.put, pA, pB, pC]
 refine WE.pp 20 (.bool false) ?_
 refine WE.pp 21 (.bool false) ?_
 refine WE.pp 22 (.bool false) ?_
 refine WE.pp 23 (.pointer (some ⟨(W.heap.size + 2), 1, none⟩)) ?_
 refine WE.qq 24 (.slice Ac nc cc) rfl (fun w' hk => by have ce1 := ((BX2.out.up EY.out).up hk).k 1; go_simp) ?_
 refine WE.pp 25 (.int .i64 (nc : Int)) ?_
 simp only [Act.put, pA, pB, pC]
 refine WE.pp 26 (.bool false) ?_
 refine WE.pp 27 (.bool false) ?_
 refine WE.pp 28 (.bool false) ?_
 refine WE.pp 29 (.slice Ax nx cx) ?_
 refine WE.cc 30 ((fewP_any (HPx.out.up (E.out.trans EY.out)) fx.out).mono ?_)
 rintro e wn ⟨rfl, hb⟩
 refine ⟨_, rfl, hb, ?_⟩
 replace EY := hid (EY.out.trans hb)
 clear hb
 refine WE.pp 31 (.bool false) ?_
 simp only [Act.put, pA, pB, pC]
 refine WE.pp 32 (.bool false) ?_
 simp only [Act.put, pA, pB, pC]
 refine WE.done ?_
 go_upto_region 5 with (fail)
 refine wp_region_D [(0, 0), (2, 0), (1, 1), (3, 1), (4, 1), (5, 0)] fun wd hb => ?_
 replace EY := hid (EY.out.trans hb)
 clear hb
 refine WE.qq 33 (.agg #[.slice Aa na ca, .bool ga, .slice Ba ma da]) rfl (fun w' hk => by obtain ⟨ce0, ce1, ce2⟩ := ((BX0.out.up EY.out).up hk).c3; go_simp) ?_
 refine WE.qq 35 (.agg #[.slice Ab nb cb, .bool gb, .slice Bb mb db]) rfl (fun w' hk => by obtain ⟨ce0, ce1, ce2⟩ := ((BX1.out.up EY.out).up hk).c3; go_simp) ?_
 refine WE.cc 34 ((rMayL_l (WorthL.wide (HAa.out.up (E.out.trans EY.out)) (U := 4) (by omega))).mono ?_)
 rintro e wn ⟨v1, rfl, x1, hb⟩
 obtain ⟨A11, n11, c11, g11, B11, m11, d11, rfl⟩ := x1.shape
 refine ⟨_, rfl, hb, ?_⟩
 replace EY := hid (EY.out.trans hb)
 have S11 := hid x1
 clear hb x1
 refine WE.cc 36 ((rMayL_l (WorthL.wide (HAb.out.up (E.out.trans EY.out)) (U := 4) (by omega))).mono ?_)
 rintro e wn ⟨v1, rfl, x1, hb⟩
 obtain ⟨A12, n12, c12, g12, B12, m12, d12, rfl⟩ := x1.shape
 refine ⟨_, rfl, hb, ?_⟩
 replace EY := hid (EY.out.trans hb)
 replace S11 := hid (S11.out.up hb)
 have S12 := hid x1
 clear hb x1
 refine WE.cc 37 ((rEqualL_l S11.out S12.out (b := sm) (HSM.out)).mono ?_)
 rintro e wn ⟨rfl, hb⟩
 refine ⟨_, rfl, hb, ?_⟩
 replace EY := hid (EY.out.trans hb)
 clear hb
 simp only [Act.put, pA, pB, pC]
 clear S11
 clear S12
 refine WE.pp 11 (.bool sm) ?_
 simp only [Act.put, pA, pB, pC]
 refine WE.done ?_
 go_upto_region 6 with (fail)
 refine wp_region_D [(0, 0), (2, 0), (1, 1), (3, 1), (4, 0), (5, 0), (6, 0), (7, 0), (9, 0), (8, 1), (10, 0), (11, 0), (12, 0), (13, 0), (15, 0), (14, 1), (16, 1), (17, 1), (18, 0), (19, 0), (20, 0), (21, 0), (23, 0), (22, 1), (24, 1), (25, 1), (26, 0), (27, 0), (28, 0), (29, 0), (30, 0), (32, 0), (33, 0), (31, 1), (34, 1), (35, 1), (36, 0), (37, 0), (38, 0), (39, 0), (40, 0), (42, 0), (43, 0), (41, 1), (44, 1), (45, 1), (46, 0), (47, 0)] fun wd hb => ?_
 replace EY := hid (EY.out.trans hb)
 clear hb
 refine WE.qq 38 (.agg #[.slice Aa na ca, .bool ga, .slice Ba ma da]) rfl (fun w' hk => by obtain ⟨ce0, ce1, ce2⟩ := ((BX0.out.up EY.out).up hk).c3; go_simp) ?_
 refine WE.qq 40 (.agg #[.slice Aa na ca, .bool ga, .slice Ba ma da]) rfl (fun w' hk => by obtain ⟨ce0, ce1, ce2⟩ := ((BX0.out.up EY.out).up hk).c3; go_simp) ?_
 refine WE.cc 39 ((isL_any (HLa.out.up (E.out.trans EY.out)) (HKa.out.up (E.out.trans EY.out)) HIA.out).mono ?_)
 rintro e wn ⟨rfl, hb⟩
 refine ⟨_, rfl, hb, ?_⟩
 replace EY := hid (EY.out.trans hb)
 clear hb
 refine WE.cc 41 ((rIsL_any (HLa.out.up (E.out.trans EY.out)) (HKa.out.up (E.out.trans EY.out)) HIA.out).mono ?_)
 rintro e wn ⟨rfl, hb⟩
 refine ⟨_, rfl, hb, ?_⟩
 replace EY := hid (EY.out.trans hb)
 clear hb
 refine WE.pp 42 (.bool false) ?_
 refine WE.pp 43 (.bool false) ?_
 simp only [Act.put, pA, pB, pC]
 refine WE.qq 44 (.agg #[.slice Aa na ca, .bool ga, .slice Ba ma da]) rfl (fun w' hk => by obtain ⟨ce0, ce1, ce2⟩ := ((BX0.out.up EY.out).up hk).c3; go_simp) ?_
 refine WE.qq 45 (.agg #[.slice Ab nb cb, .bool gb, .slice Bb mb db]) rfl (fun w' hk => by obtain ⟨ce0, ce1, ce2⟩ := ((BX1.out.up EY.out).up hk).c3; go_simp) ?_
 refine WE.pp 47 (.bool sm) ?_
 refine WE.cc 46 ((sameL_l (WorthL.wide (HAa.out.up (E.out.trans EY.out)) (U := 4) (by omega)) (WorthL.wide (HAb.out.up (E.out.trans EY.out)) (U := 4) (by omega)) (b := sm) (HSM.out)).mono ?_)
 rintro e wn ⟨rfl, hb⟩
 refine ⟨_, rfl, hb, ?_⟩
 replace EY := hid (EY.out.trans hb)
 clear hb
 refine WE.pp 48 (.bool false) ?_
 refine WE.pp 49 (.bool false) ?_
 simp only [Act.put, pA, pB, pC]
 refine WE.pp 50 (.bool false) ?_
 refine WE.qq 51 (.agg #[.bool gc, .slice Ac nc cc]) rfl (fun w' hk => by obtain ⟨ce0, ce1⟩ := ((BX2.out.up EY.out).up hk).c2; go_simp) ?_
 refine WE.qq 53 (.agg #[.bool gc, .slice Ac nc cc]) rfl (fun w' hk => by obtain ⟨ce0, ce1⟩ := ((BX2.out.up EY.out).up hk).c2; go_simp) ?_
 refine WE.cc 52 ((constL_l (Worth.wide (Rc.out.up EY.out) (k := 4) (by omega)) (by decide)).mono ?_)
 rintro e wn ⟨v1, rfl, x1, hb⟩
 obtain ⟨A13, n13, c13, g13, B13, m13, d13, rfl⟩ := x1.shape
 refine ⟨_, rfl, hb, ?_⟩
 replace EY := hid (EY.out.trans hb)
 have S13 := hid x1
 clear hb x1
 refine WE.cc 54 ((rConstL_l (Worth.wide (Rc.out.up EY.out) (k := 4) (by omega))).mono ?_)
 rintro e wn ⟨v1, rfl, x1, hb⟩
 obtain ⟨A14, n14, c14, g14, B14, m14, d14, rfl⟩ := x1.shape
 refine ⟨_, rfl, hb, ?_⟩
 replace EY := hid (EY.out.trans hb)
 replace S13 := hid (S13.out.up hb)
 have S14 := hid x1
 clear hb x1
 refine WE.cc 55 ((rEqualL_l S13.out S14.out (b := true) (decide_eq_true ⟨rfl, rfl⟩)).mono ?_)
 rintro e wn ⟨rfl, hb⟩
 refine ⟨_, rfl, hb, ?_⟩
 replace EY := hid (EY.out.trans hb)
 clear hb
 simp only [Act.put, pA, pB, pC]
 clear S13
 clear S14
 refine WE.pp 56 (.bool false) ?_
 refine WE.pp 57 (.bool false) ?_
 refine WE.pp 58 (.bool false) ?_
 refine WE.pp 59 (.int .i64 v) ?_
 refine WE.pp 61 (.int .i64 v) ?_
 refine WE.cc 60 ((varL_l (v := v)).mono ?_)
 rintro e wn ⟨v1, rfl, x1, hb⟩
 obtain ⟨A15, n15, c15, g15, B15, m15, d15, rfl⟩ := x1.shape
 refine ⟨_, rfl, hb, ?_⟩
 replace EY := hid (EY.out.trans hb)
 have S15 := hid x1
 clear hb x1
 simp only [Act.put, pA, pB, pC]
 refine WE.cc 62 ((rVarL_l (v := v)).mono ?_)
 rintro e wn ⟨v1, rfl, x1, hb⟩
 obtain ⟨A16, n16, c16, g16, B16, m16, d16, rfl⟩ := x1.shape
 refine ⟨_, rfl, hb, ?_⟩
 replace EY := hid (EY.out.trans hb)
 replace S15 := hid (S15.out.up hb)
 have S16 := hid x1
 clear hb x1
 refine WE.cc 63 ((rEqualL_l S15.out S16.out (b := true) (decide_eq_true ⟨rfl, rfl⟩)).mono ?_)
 rintro e wn ⟨rfl, hb⟩
 refine ⟨_, rfl, hb, ?_⟩
 replace EY := hid (EY.out.trans hb)
 clear hb
 simp only [Act.put, pA, pB, pC]
 clear S15
 clear S16
 refine WE.pp 64 (.bool false) ?_
 refine WE.pp 65 (.bool false) ?_
 refine WE.pp 66 (.bool false) ?_
 refine WE.qq 67 (.agg #[.slice Aa na ca, .bool ga, .slice Ba ma da]) rfl (fun w' hk => by obtain ⟨ce0, ce1, ce2⟩ := ((BX0.out.up EY.out).up hk).c3; go_simp) ?_
 refine WE.qq 68 (.agg #[.slice Ab nb cb, .bool gb, .slice Bb mb db]) rfl (fun w' hk => by obtain ⟨ce0, ce1, ce2⟩ := ((BX1.out.up EY.out).up hk).c3; go_simp) ?_
 refine WE.qq 70 (.agg #[.slice Aa na ca, .bool ga, .slice Ba ma da]) rfl (fun w' hk => by obtain ⟨ce0, ce1, ce2⟩ := ((BX0.out.up EY.out).up hk).c3; go_simp) ?_
 simp only [Act.put, pA, pB, pC]
 refine WE.qq 71 (.agg #[.slice Ab nb cb, .bool gb, .slice Bb mb db]) rfl (fun w' hk => by obtain ⟨ce0, ce1, ce2⟩ := ((BX1.out.up EY.out).up hk).c3; go_simp) ?_
 refine WE.cc 69 ((addL_l (WorthL.wide (HAa.out.up (E.out.trans EY.out)) (U := 4) (by omega)) (WorthL.wide (HAb.out.up (E.out.trans EY.out)) (U := 4) (by omega)) (by omega) (Nat.le_trans NAa.out (by decide)) (Nat.le_trans NAb.out (by decide))).mono ?_)
 rintro e wn ⟨v1, rfl, x1, hb⟩
 obtain ⟨A17, n17, c17, g17, B17, m17, d17, rfl⟩ := x1.shape
 refine ⟨_, rfl, hb, ?_⟩
 replace EY := hid (EY.out.trans hb)
 have S17 := hid x1
 clear hb x1
 refine WE.cc 72 ((rAddL_l (WorthL.wide (HAa.out.up (E.out.trans EY.out)) (U := 4) (by omega)) (WorthL.wide (HAb.out.up (E.out.trans EY.out)) (U := 4) (by omega)) (by omega) (Nat.le_trans NAa.out (by decide)) (Nat.le_trans NAb.out (by decide))).mono ?_)
 rintro e wn ⟨v1, rfl, x1, hb⟩
 obtain ⟨A18, n18, c18, g18, B18, m18, d18, rfl⟩ := x1.shape
 refine ⟨_, rfl, hb, ?_⟩
 replace EY := hid (EY.out.trans hb)
 replace S17 := hid (S17.out.up hb)
 have S18 := hid x1
 clear hb x1
 refine WE.cc 73 ((rEqualL_l S17.out S18.out (b := true) (decide_eq_true ⟨rfl, rfl⟩)).mono ?_)
 rintro e wn ⟨rfl, hb⟩
 refine ⟨_, rfl, hb, ?_⟩
 replace EY := hid (EY.out.trans hb)
 clear hb
 simp only [Act.put, pA, pB, pC]
 clear S17
 clear S18
 refine WE.pp 74 (.bool false) ?_
 refine WE.pp 75 (.bool false) ?_
 refine WE.pp 76 (.bool false) ?_
 refine WE.qq 77 (.agg #[.slice Aa na ca, .bool ga, .slice Ba ma da]) rfl (fun w' hk => by obtain ⟨ce0, ce1, ce2⟩ := ((BX0.out.up EY.out).up hk).c3; go_simp) ?_
 refine WE.qq 78 (.agg #[.slice Ab nb cb, .bool gb, .slice Bb mb db]) rfl (fun w' hk => by obtain ⟨ce0, ce1, ce2⟩ := ((BX1.out.up EY.out).up hk).c3; go_simp) ?_
 refine WE.qq 80 (.agg #[.slice Aa na ca, .bool ga, .slice Ba ma da]) rfl (fun w' hk => by obtain ⟨ce0, ce1, ce2⟩ := ((BX0.out.up EY.out).up hk).c3; go_simp) ?_
 simp only [Act.put, pA, pB, pC]
 refine WE.qq 81 (.agg #[.slice Ab nb cb, .bool gb, .slice Bb mb db]) rfl (fun w' hk => by obtain ⟨ce0, ce1, ce2⟩ := ((BX1.out.up EY.out).up hk).c3; go_simp) ?_
 refine WE.cc 79 ((subL_l (WorthL.wide (HAa.out.up (E.out.trans EY.out)) (U := 4) (by omega)) (WorthL.wide (HAb.out.up (E.out.trans EY.out)) (U := 4) (by omega)) (by omega) (Nat.le_trans NAa.out (by decide)) (Nat.le_trans NAb.out (by decide))).mono ?_)
 rintro e wn ⟨v1, rfl, x1, hb⟩
 obtain ⟨A19, n19, c19, g19, B19, m19, d19, rfl⟩ := x1.shape
 refine ⟨_, rfl, hb, ?_⟩
 replace EY := hid (EY.out.trans hb)
 have S19 := hid x1
 clear hb x1
 refine WE.cc 82 ((rSubL_l (WorthL.wide (HAa.out.up (E.out.trans EY.out)) (U := 4) (by omega)) (WorthL.wide (HAb.out.up (E.out.trans EY.out)) (U := 4) (by omega)) (by omega) (Nat.le_trans NAa.out (by decide)) (Nat.le_trans NAb.out (by decide))).mono ?_)
 rintro e wn ⟨v1, rfl, x1, hb⟩
 obtain ⟨A20, n20, c20, g20, B20, m20, d20, rfl⟩ := x1.shape
 refine ⟨_, rfl, hb, ?_⟩
 replace EY := hid (EY.out.trans hb)
 replace S19 := hid (S19.out.up hb)
 have S20 := hid x1
 clear hb x1
 refine WE.cc 83 ((rEqualL_l S19.out S20.out (b := true) (decide_eq_true ⟨rfl, rfl⟩)).mono ?_)
 rintro e wn ⟨rfl, hb⟩
 refine ⟨_, rfl, hb, ?_⟩
 replace EY := hid (EY.out.trans hb)
 clear hb
 simp only [Act.put, pA, pB, pC]
 clear S19
 clear S20
 refine WE.pp 84 (.bool false) ?_
 refine WE.pp 85 (.bool false) ?_
 simp only [Act.put, pA, pB, pC]
 refine WE.done ?_
 go_upto_region 8 with (fail)
 refine wp_region_D [(0, 0), (1, 0), (3, 0), (4, 0), (2, 1), (5, 1), (6, 1), (7, 0), (8, 0), (9, 0), (11, 0), (12, 0), (10, 1), (13, 1), (14, 1), (15, 0), (16, 0), (17, 0), (18, 0), (19, 0), (21, 0), (22, 0), (23, 0), (20, 1), (24, 1), (25, 1), (26, 0), (27, 0), (28, 0), (29, 0), (31, 0), (32, 0), (30, 1), (33, 1), (34, 1), (35, 0), (36, 0), (37, 0), (39, 0), (38, 1), (40, 1), (41, 1), (42, 0), (43, 0)] fun wd hb => ?_
 replace EY := hid (EY.out.trans hb)
 clear hb
 refine WE.qq 86 (.agg #[.slice Aa na ca, .bool ga, .slice Ba ma da]) rfl (fun w' hk => by obtain ⟨ce0, ce1, ce2⟩ := ((BX0.out.up EY.out).up hk).c3; go_simp) ?_
 refine WE.qq 87 (.agg #[.bool gc, .slice Ac nc cc]) rfl (fun w' hk => by obtain ⟨ce0, ce1⟩ := ((BX2.out.up EY.out).up hk).c2; go_simp) ?_
 refine WE.qq 89 (.agg #[.slice Aa na ca, .bool ga, .slice Ba ma da]) rfl (fun w' hk => by obtain ⟨ce0, ce1, ce2⟩ := ((BX0.out.up EY.out).up hk).c3; go_simp) ?_
 refine WE.qq 90 (.agg #[.bool gc, .slice Ac nc cc]) rfl (fun w' hk => by obtain ⟨ce0, ce1⟩ := ((BX2.out.up EY.out).up hk).c2; go_simp) ?_
 refine WE.cc 88 ((scaleL_l (WorthL.wide (HAa.out.up (E.out.trans EY.out)) (U := 4) (by omega)) (Worth.wide (Rc.out.up EY.out) (k := 4) (by omega)) (by omega) (Nat.le_trans NAa.out (by decide))).mono ?_)
 rintro e wn ⟨v1, rfl, x1, hb⟩
 obtain ⟨A21, n21, c21, g21, B21, m21, d21, rfl⟩ := x1.shape
 refine ⟨_, rfl, hb, ?_⟩
 replace EY := hid (EY.out.trans hb)
 have S21 := hid x1
 clear hb x1
 refine WE.cc 91 ((rScaleL_l (WorthL.wide (HAa.out.up (E.out.trans EY.out)) (U := 4) (by omega)) (Worth.wide (Rc.out.up EY.out) (k := 4) (by omega)) (by omega) (Nat.le_trans NAa.out (by decide))).mono ?_)
 rintro e wn ⟨v1, rfl, x1, hb⟩
 obtain ⟨A22, n22, c22, g22, B22, m22, d22, rfl⟩ := x1.shape
 refine ⟨_, rfl, hb, ?_⟩
 replace EY := hid (EY.out.trans hb)
 replace S21 := hid (S21.out.up hb)
 have S22 := hid x1
 clear hb x1
 simp only [Act.put, pA, pB, pC]
 refine WE.cc 92 ((rEqualL_l S21.out S22.out (b := true) (decide_eq_true ⟨rfl, rfl⟩)).mono ?_)
 rintro e wn ⟨rfl, hb⟩
 refine ⟨_, rfl, hb, ?_⟩
 replace EY := hid (EY.out.trans hb)
 clear hb
 simp only [Act.put, pA, pB, pC]
 clear S21
 clear S22
 refine WE.pp 93 (.bool true) ?_
 refine WE.qq 94 (.agg #[.slice Aa na ca, .bool ga, .slice Ba ma da]) rfl (fun w' hk => by obtain ⟨ce0, ce1, ce2⟩ := ((BX0.out.up EY.out).up hk).c3; go_simp) ?_
 refine WE.pp 95 (.int .i64 v) ?_
 refine WE.qq 97 (.agg #[.slice Aa na ca, .bool ga, .slice Ba ma da]) rfl (fun w' hk => by obtain ⟨ce0, ce1, ce2⟩ := ((BX0.out.up EY.out).up hk).c3; go_simp) ?_
 refine WE.pp 98 (.int .i64 v) ?_
 refine WE.cc 96 ((coefL_l (WorthL.wide (HAa.out.up (E.out.trans EY.out)) (U := 4) (by omega)) (Nat.le_trans NAa.out (by decide)) (by omega) (v := v)).mono ?_)
 rintro e wn ⟨v1, rfl, x1, hb⟩
 obtain ⟨g23, A23, n23, c23, rfl⟩ := x1.shape
 refine ⟨_, rfl, hb, ?_⟩
 replace EY := hid (EY.out.trans hb)
 have Q23 := hid x1
 clear hb x1
 simp only [Act.put, pA, pB, pC]
 refine WE.cc 99 ((rCoef_l (WorthL.wide (HAa.out.up (E.out.trans EY.out)) (U := 4) (by omega)) v).mono ?_)
 rintro e wn ⟨v1, rfl, x1, hb⟩
 obtain ⟨g24, A24, n24, c24, rfl⟩ := x1.shape
 refine ⟨_, rfl, hb, ?_⟩
 replace EY := hid (EY.out.trans hb)
 replace Q23 := hid (Q23.out.up hb)
 have Q24 := hid x1
 clear hb x1
 refine WE.cc 100 ((rEqual_any Q23.out Q24.out (b := true) (decide_eq_true rfl)).mono ?_)
 rintro e wn ⟨rfl, hb⟩
 refine ⟨_, rfl, hb, ?_⟩
 replace EY := hid (EY.out.trans hb)
 clear hb
 simp only [Act.put, pA, pB, pC]
 clear Q23
 clear Q24
 refine WE.pp 101 (.bool true) ?_
 refine WE.pp 102 (.bool true) ?_
 refine WE.qq 103 (.agg #[.slice Aa na ca, .bool ga, .slice Ba ma da]) rfl (fun w' hk => by obtain ⟨ce0, ce1, ce2⟩ := ((BX0.out.up EY.out).up hk).c3; go_simp) ?_
 refine WE.pp 104 (.int .i64 v) ?_
 refine WE.qq 105 (.agg #[.slice Ab nb cb, .bool gb, .slice Bb mb db]) rfl (fun w' hk => by obtain ⟨ce0, ce1, ce2⟩ := ((BX1.out.up EY.out).up hk).c3; go_simp) ?_
 refine WE.qq 107 (.agg #[.slice Aa na ca, .bool ga, .slice Ba ma da]) rfl (fun w' hk => by obtain ⟨ce0, ce1, ce2⟩ := ((BX0.out.up EY.out).up hk).c3; go_simp) ?_
 simp only [Act.put, pA, pB, pC]
 refine WE.pp 108 (.int .i64 v) ?_
 refine WE.qq 109 (.agg #[.slice Ab nb cb, .bool gb, .slice Bb mb db]) rfl (fun w' hk => by obtain ⟨ce0, ce1, ce2⟩ := ((BX1.out.up EY.out).up hk).c3; go_simp) ?_
 refine WE.cc 106 ((putL_l (WorthL.wide (HAa.out.up (E.out.trans EY.out)) (U := 4) (by omega)) (WorthL.wide (HAb.out.up (E.out.trans EY.out)) (U := 4) (by omega)) (by omega) (Nat.le_trans NAa.out (by decide)) (Nat.le_trans NAb.out (by decide)) (v := v)).mono ?_)
 rintro e wn ⟨v1, rfl, x1, hb⟩
 obtain ⟨A25, n25, c25, g25, B25, m25, d25, rfl⟩ := x1.shape
 refine ⟨_, rfl, hb, ?_⟩
 replace EY := hid (EY.out.trans hb)
 have S25 := hid x1
 clear hb x1
 refine WE.cc 110 ((rPutL_l (WorthL.wide (HAa.out.up (E.out.trans EY.out)) (U := 4) (by omega)) (WorthL.wide (HAb.out.up (E.out.trans EY.out)) (U := 4) (by omega)) (by omega) (Nat.le_trans NAa.out (by decide)) (Nat.le_trans NAb.out (by decide)) v).mono ?_)
 rintro e wn ⟨v1, rfl, x1, hb⟩
 obtain ⟨A26, n26, c26, g26, B26, m26, d26, rfl⟩ := x1.shape
 refine ⟨_, rfl, hb, ?_⟩
 replace EY := hid (EY.out.trans hb)
 replace S25 := hid (S25.out.up hb)
 have S26 := hid x1
 clear hb x1
 refine WE.cc 111 ((rEqualL_l S25.out S26.out (b := true) (decide_eq_true ⟨rfl, rfl⟩)).mono ?_)
 rintro e wn ⟨rfl, hb⟩
 refine ⟨_, rfl, hb, ?_⟩
 replace EY := hid (EY.out.trans hb)
 clear hb
 simp only [Act.put, pA, pB, pC]
 clear S25
 clear S26
 refine WE.pp 112 (.bool true) ?_
 refine WE.pp 113 (.bool true) ?_
 refine WE.qq 114 (.agg #[.slice Aa na ca, .bool ga, .slice Ba ma da]) rfl (fun w' hk => by obtain ⟨ce0, ce1, ce2⟩ := ((BX0.out.up EY.out).up hk).c3; go_simp) ?_
 refine WE.pp 115 (.slice Ax nx cx) ?_
 refine WE.qq 117 (.agg #[.slice Aa na ca, .bool ga, .slice Ba ma da]) rfl (fun w' hk => by obtain ⟨ce0, ce1, ce2⟩ := ((BX0.out.up EY.out).up hk).c3; go_simp) ?_
 refine WE.pp 118 (.slice Ax nx cx) ?_
 simp only [Act.put, pA, pB, pC]
 refine WE.cc 116 ((atL_l (WorthL.wide (HAa.out.up (E.out.trans EY.out)) (U := 4) (by omega)) (hp := HPx.out.up (E.out.trans EY.out)) (fun x hx => Nat.le_trans (HPSx.out.1 x hx) (by decide)) (by omega) (Nat.le_trans NAa.out (by decide))).mono ?_)
 rintro e wn ⟨v1, rfl, x1, hb⟩
 obtain ⟨g27, A27, n27, c27, rfl⟩ := x1.shape
 replace x1 := x1.wide (k := 17) (by have := NAa.out; omega)
 refine ⟨_, rfl, hb, ?_⟩
 replace EY := hid (EY.out.trans hb)
 have Q27 := hid x1
 clear hb x1
 refine WE.cc 119 ((rAtL_l (WorthL.wide (HAa.out.up (E.out.trans EY.out)) (U := 4) (by omega)) (hp := HPx.out.up (E.out.trans EY.out)) (fun x hx => Nat.le_trans (HPSx.out.1 x hx) (by decide)) (by omega) (Nat.le_trans NAa.out (by decide))).mono ?_)
 rintro e wn ⟨v1, rfl, x1, hb⟩
 obtain ⟨g28, A28, n28, c28, rfl⟩ := x1.shape
 replace x1 := x1.wide (k := 16) (by have := NAa.out; omega)
 refine ⟨_, rfl, hb, ?_⟩
 replace EY := hid (EY.out.trans hb)
 replace Q27 := hid (Q27.out.up hb)
 have Q28 := hid x1
 clear hb x1
 refine WE.cc 120 ((rEqual_any Q27.out Q28.out (b := true) (decide_eq_true rfl)).mono ?_)
 rintro e wn ⟨rfl, hb⟩
 refine ⟨_, rfl, hb, ?_⟩
 replace EY := hid (EY.out.trans hb)
 clear hb
 simp only [Act.put, pA, pB, pC]
 clear Q27
 clear Q28
 refine WE.pp 121 (.bool true) ?_
 refine WE.pp 122 (.bool true) ?_
 refine WE.qq 123 (.agg #[.slice Aa na ca, .bool ga, .slice Ba ma da]) rfl (fun w' hk => by obtain ⟨ce0, ce1, ce2⟩ := ((BX0.out.up EY.out).up hk).c3; go_simp) ?_
 refine WE.qq 125 (.agg #[.slice Aa na ca, .bool ga, .slice Ba ma da]) rfl (fun w' hk => by obtain ⟨ce0, ce1, ce2⟩ := ((BX0.out.up EY.out).up hk).c3; go_simp) ?_
 refine WE.cc 124 ((gcdL_l (WorthL.wide (HAa.out.up (E.out.trans EY.out)) (U := 4) (by omega)) (by omega) (Nat.le_trans NAa.out (by decide))).mono ?_)
 rintro e wn ⟨v1, rfl, x1, hb⟩
 obtain ⟨g29, A29, n29, c29, rfl⟩ := x1.shape
 refine ⟨_, rfl, hb, ?_⟩
 replace EY := hid (EY.out.trans hb)
 have Q29 := hid x1
 clear hb x1
 refine WE.cc 126 ((rGcdL_l (WorthL.wide (HAa.out.up (E.out.trans EY.out)) (U := 4) (by omega)) (by omega)).mono ?_)
 rintro e wn ⟨v1, rfl, x1, hb⟩
 obtain ⟨g30, A30, n30, c30, rfl⟩ := x1.shape
 refine ⟨_, rfl, hb, ?_⟩
 replace EY := hid (EY.out.trans hb)
 replace Q29 := hid (Q29.out.up hb)
 have Q30 := hid x1
 clear hb x1
 simp only [Act.put, pA, pB, pC]
 refine WE.cc 127 ((rEqual_any Q29.out Q30.out (b := true) (decide_eq_true rfl)).mono ?_)
 rintro e wn ⟨rfl, hb⟩
 refine ⟨_, rfl, hb, ?_⟩
 replace EY := hid (EY.out.trans hb)
 clear hb
 simp only [Act.put, pA, pB, pC]
 clear Q29
 clear Q30
 refine WE.pp 128 (.bool true) ?_
 refine WE.pp 10 (.bool true) ?_
 simp only [Act.put, pA, pB, pC]
 refine WE.done ?_
 repeat go_step
 go_ret
 exact ⟨rfl, (E.out.trans EY.out)⟩

theorem linTells_walk (W : World) (Aa : Option Addr) (na ca : Nat) (la : List (Int × Bool × List Nat)) (ga : Bool) (Ba : Option Addr) (ma da : Nat) (ka : List Nat) (ha : LList W (.slice Aa na ca) la) (ia : Num W W.heap.size (.slice Ba ma da) ka) (Ab : Option Addr) (nb cb : Nat) (lb : List (Int × Bool × List Nat)) (gb : Bool) (Bb : Option Addr) (mb db : Nat) (kb : List Nat) (hb : LList W (.slice Ab nb cb) lb) (ib : Num W W.heap.size (.slice Bb mb db) kb) (gc : Bool) (Ac : Option Addr) (nc cc : Nat) (lc : List Nat) (hc : Num W W.heap.size (.slice Ac nc cc) lc) (v : Int) (Ax : Option Addr) (nx cx : Nat) (lx : List (Bool × List Nat)) (hx : ZList W (.slice Ax nx cx) lx) :
 Calls Tryz.prog 3 #[.agg #[.slice Aa na ca, .bool ga, .slice Ba ma da], .agg #[.slice Ab nb cb, .bool gb, .slice Bb mb db], .agg #[.bool gc, .slice Ac nc cc], .int .i64 v, .slice Ax nx cx] W (fun e w' => e = .returned (.bool true) ∧ Ext W w') := by
 rcases fa : (M.fewL la ka) with _ | _
 ·exact linTells_skip0 W Aa na ca la ga Ba ma da ka ha ia Ab nb cb lb gb Bb mb db kb hb ib gc Ac nc cc lc hc v Ax nx cx lx hx (hid fa)
 rcases fb : (M.fewL lb kb) with _ | _
 ·exact linTells_skip1 W Aa na ca la ga Ba ma da ka ha ia Ab nb cb lb gb Bb mb db kb hb ib gc Ac nc cc lc hc v Ax nx cx lx hx (hid fa) (hid fb)
 rcases fc : ((!decide ((4 : Int) < (nc : Int)))) with _ | _
 ·exact linTells_skip2 W Aa na ca la ga Ba ma da ka ha ia Ab nb cb lb gb Bb mb db kb hb ib gc Ac nc cc lc hc v Ax nx cx lx hx (hid fa) (hid fb) (hid fc)
 rcases fx : (M.fewP lx) with _ | _
 ·exact linTells_skip3 W Aa na ca la ga Ba ma da ka ha ia Ab nb cb lb gb Bb mb db kb hb ib gc Ac nc cc lc hc v Ax nx cx lx hx (hid fa) (hid fb) (hid fc) (hid fx)
 exact linTells_main W Aa na ca la ga Ba ma da ka ha ia Ab nb cb lb gb Bb mb db kb hb ib gc Ac nc cc lc hc v Ax nx cx lx hx (hid fa) (hid fb) (hid fc) (hid fx)

set_option maxRecDepth 100000 in
theorem linTells_lifted (os : Os) (started : os.Started) (H : Type) (enc : TypeId × Value → H) :
 ReturnsInHanded {} Tryz.checked os 3 .any (Rows.linTellsSpec.pre6 enc Tryz.prog Tryz.f3 Rows.linTellsRow.domain false) (Rows.linTellsSpec.post enc Tryz.prog Tryz.f3 false true false false) := by
 refine returnsInHanded_of_change (C := Tryz.checked) own started (by kernel_rfl) Tryz.func3
  (ChangeSpec.witness6 (enc := enc) (C := Tryz.checked) false ⟨#[], #[.agg #[.slice none 0 0, .bool false, .slice none 0 0], .agg #[.slice none 0 0, .bool false, .slice none 0 0], .agg #[.bool false, .slice none 0 0], .int .i64 0, .slice none 0 0], []⟩ 8 (by kernel_rfl) (by kernel_rfl) (by kernel_rfl) (by kernel_rfl)) ?_
 intro W base args ds gs before hval0 hW _ _
 have hval : ∀ (j : Nat) t v, Tryz.f3.params[j]? = some t → args[j]? = some v → Value.okWide Tryz.prog W .any base t v := hval0
 have hW' := hW
 obtain ⟨p, q, hA0, hV, rfl, hfz, hnd⟩ := hW
 have hA : DataW.TrodAll enc Tryz.prog W 0 (fun _ => true) true Tryz.f3.params.toList args.toList ds p := hA0
 rw [Tryz.params3] at hA hval
 obtain ⟨v0, vs0, d0, ds0, p0, q0, hargs, rfl, rfl, h0, r0⟩ := trodAll_cons hA
 obtain ⟨v1, vs1, d1, ds1, p1, q1, rfl, rfl, rfl, h1, r1⟩ := trodAll_cons r0
 obtain ⟨v2, vs2, d2, ds2, p2, q2, rfl, rfl, rfl, h2, r2⟩ := trodAll_cons r1
 obtain ⟨v3, vs3, d3, ds3, p3, q3, rfl, rfl, rfl, h3, r3⟩ := trodAll_cons r2
 obtain ⟨v4, vs4, d4, ds4, p4, q4, rfl, rfl, rfl, h4, r4⟩ := trodAll_cons r3
 obtain ⟨rfl, rfl, rfl⟩ := trodAll_nil r4
 obtain rfl : args = #[v0, v1, v2, v3, v4] := by cases args; simp_all
 obtain ⟨rfl, rfl⟩ := trodVars_none hV
 obtain ⟨A0, n0, c0, l0, g0, B0, m0, q0, t0, rfl, e0, f0⟩ := open_L (hval 0 27 _ rfl rfl) h0
 obtain ⟨A1, n1, c1, l1, g1, B1, m1, q1, t1, rfl, e1, f1⟩ := open_L (hval 1 27 _ rfl rfl) h1
 obtain ⟨g2, A2, n2, c2, l2, rfl, e2⟩ := open_Z (hval 2 25 _ rfl rfl) h2
 obtain ⟨a3, rfl, -, -, w3⟩ := open_int Tryz.underlying3 (hval 3 3 v3 rfl rfl) h3
 obtain ⟨A4, n4, c4, l4, rfl, e4⟩ := open_ZL (hval 4 28 _ rfl rfl) h4
 clear hA0 hval0
 refine (linTells_walk W A0 n0 c0 l0 g0 B0 m0 q0 t0 e0 f0 A1 n1 c1 l1 g1 B1 m1 q1 t1 e1 f1 g2 A2 n2 c2 l2 e2 a3  A4 n4 c4 l4 e4).mono fun e W' ⟨he, hg⟩ => ?_
 subst he
 exact ⟨_, rfl, law_post hW' rfl rfl (by kernel_rfl) (by kernel_rfl) hg⟩

theorem linTells_over : Rows.linTellsRow.holds Tryz.pinned (OpenSpec.ofChange Rows.linTellsSpec) :=
 OpenClaim.holds_of_wide 3 Tryz.f3 rfl rfl rfl rfl rfl rfl rfl ⟨rfl, rfl, rfl, rfl, rfl⟩ rfl rfl rfl rfl rfl (by kernel_rfl) Tryz.func3 (by kernel_rfl)
  (of_decide_eq_true (by kernel_rfl)) (by unfold Func.isWrapper; first | (rw [if_pos (by decide +kernel)]; kernel_rfl) | (rw [if_neg (by decide +kernel)]; exact ⟨rfl, rfl⟩))
  (fun os started H enc _ => linTells_lifted os started H enc)

theorem linTells_proved : Rows.LinTellsSaid := linTells_over

end Go.Proofs.YtklmnmkmpkobhaaGreat
