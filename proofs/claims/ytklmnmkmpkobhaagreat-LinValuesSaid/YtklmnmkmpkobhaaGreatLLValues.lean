/-
  LinValues: whatever two forms (or what is none), whatever integer, variable and point: true. No conditions.
-/
import Derived.Test.YtklmnmkmpkobhaaGreatLKnown
import Derived.Test.YtklmnmkmpkobhaaGreatJSet
namespace Go.Proofs.YtklmnmkmpkobhaaGreat
open Go.ChangeShapes Go.WideShapes Go.ChangeAt Go.RowKit
set_option linter.unusedSimpArgs false
set_option linter.unusedVariables false

theorem u8_of_wf {n : Int} (h : (Lit.int .u8 n).wf = true) : 0 ≤ n ∧ n ≤ 255 := by
 simpa [Lit.wf, IntKind.min, IntKind.max, IntKind.signed, IntKind.bits] using h

theorem M.put_none {t s : M.Tm} {v : Int} (ot : M.okT (-1) t) (os : M.okT (-1) s) (h : M.coef t v = 0) : M.putT t v s = t := M.putT_none ot os h
theorem M.at_put {t s : M.Tm} {f f' : Int → Int} {k : Nat} {κ μ : Int} (ot : M.okT (-1) t) (h : ∀ v, 0 ≤ v → f' v = if v = (k : Int) then μ + M.atT f s else f v) :
 (κ + μ * M.coef t k) + M.atT f (M.putT t k s) = κ + M.atT f' t := by
 rw [M.atT_putT f ot, M.atT_upd ot (Int.le_refl _) h, Int.mul_add, Int.mul_comm μ, Int.mul_comm (M.atT f s)]; omega

set_option maxRecDepth 100000 in
set_option maxHeartbeats 2000000 in
theorem linValues_skip0 (W : World) (Aa : Option Addr) (na ca : Nat) (la : List (Int × Bool × List Nat)) (ga : Bool) (Ba : Option Addr) (ma da : Nat) (ka : List Nat) (ha : LList W (.slice Aa na ca) la) (ia : Num W W.heap.size (.slice Ba ma da) ka) (Ab : Option Addr) (nb cb : Nat) (lb : List (Int × Bool × List Nat)) (gb : Bool) (Bb : Option Addr) (mb db : Nat) (kb : List Nat) (hb : LList W (.slice Ab nb cb) lb) (ib : Num W W.heap.size (.slice Bb mb db) kb) (gc : Bool) (Ac : Option Addr) (nc cc : Nat) (lc : List Nat) (hc : Num W W.heap.size (.slice Ac nc cc) lc) (v : Int) (hv : 0 ≤ v ∧ v ≤ 255) (Ax : Option Addr) (nx cx : Nat) (lx : List (Bool × List Nat)) (hx : ZList W (.slice Ax nx cx) lx) (fa : Hid (M.fewL la ka = false)) :
 Calls Tryz.prog 4 #[.agg #[.slice Aa na ca, .bool ga, .slice Ba ma da], .agg #[.slice Ab nb cb, .bool gb, .slice Bb mb db], .agg #[.bool gc, .slice Ac nc cc], .int .u8 v, .slice Ax nx cx] W (fun e w' => e = .returned (.bool true) ∧ Ext W w') := by
 have HLa := hid ha
 have HKa := hid ia
 clear ha ia
 clear hb ib
 have HNc := hid hc.cnt
 have hn9c : nc ≤ 9223372036854775807 := hc.cnt.2
 clear hc
 have HPCx := hid hx.count
 have hb9x : nx ≤ 9223372036854775807 := hx.count.2.2
 clear hx
 clear hv
 go_enter Tryz.func4, Tryz.ntmps4
 go_upto_region 1 with (fail)
 obtain ⟨E, BX0, -, -⟩ := open3 W #[.slice Aa na ca, .bool ga, .slice Ba ma da] 27 #[.slice Ab nb cb, .bool gb, .slice Bb mb db] 27 #[.bool gc, .slice Ac nc cc] 25
 refine wp_region_S [(0, 1), (1, 0)] fun wd hb => ?_
 replace E := hid (E.out.trans hb)
 replace BX0 := hid (BX0.out.up hb)
 clear hb
 have EY := hid (Ext.refl wd)
 refine WE.cc 17 ((known6 _).mono ?_)
 rintro e wn ⟨rfl, hb⟩
 refine ⟨_, rfl, hb, ?_⟩
 replace EY := hid (EY.out.trans hb)
 clear hb
 refine WE.pp 18 (.bool false) ?_
 simp only [Act.put, pA, pB, pC]
 refine WE.done ?_
 go_upto_region 3 with (fail)
 refine wp_region_S [(0, 0), (1, 1), (2, 0), (3, 0), (4, 0), (5, 1), (6, 0), (7, 0), (8, 0), (9, 0), (10, 0), (11, 0), (12, 0), (13, 0), (14, 0), (15, 0), (16, 1), (17, 0), (18, 0)] fun wd hb => ?_
 replace EY := hid (EY.out.trans hb)
 clear hb
 refine WE.qq 19 (.agg #[.slice Aa na ca, .bool ga, .slice Ba ma da]) rfl (fun w' hk => by obtain ⟨ce0, ce1, ce2⟩ := ((BX0.out.up EY.out).up hk).c3; go_simp) ?_
 refine WE.cc 20 ((fewL_any (g1 := ga) (HLa.out.up (E.out.trans EY.out)) (HKa.out.up (E.out.trans EY.out)) fa.out).mono ?_)
 rintro e wn ⟨rfl, hb⟩
 refine ⟨_, rfl, hb, ?_⟩
 replace EY := hid (EY.out.trans hb)
 clear hb
 refine WE.pp 21 (.bool true) ?_
 refine WE.pp 22 (.bool true) ?_
 refine WE.ss 23 ?_
 refine WE.tt 24 ?_
 simp only [Act.put, pA, pB, pC]
 refine WE.ss 25 ?_
 refine WE.pp 26 (.bool true) ?_
 refine WE.pp 27 (.bool true) ?_
 refine WE.ss 28 ?_
 refine WE.ss 29 ?_
 refine WE.ss 30 ?_
 simp only [Act.put, pA, pB, pC]
 refine WE.ss 31 ?_
 refine WE.pp 32 (.bool true) ?_
 refine WE.pp 33 (.bool true) ?_
 refine WE.ss 34 ?_
 refine WE.tt 35 ?_
 refine WE.ss 36 ?_
 simp only [Act.put, pA, pB, pC]
 refine WE.pp 37 (.bool true) ?_
 simp only [Act.put, pA, pB, pC]
 refine WE.done ?_
 go_upto_region 4 with (fail)
 refine wp_region_S [(0, 0)] fun wd hb => ?_
 replace EY := hid (EY.out.trans hb)
 clear hb
 refine WE.pp 10 (.bool true) ?_
 simp only [Act.put, pA, pB, pC]
 refine WE.done ?_
 repeat go_step
 go_ret
 exact ⟨rfl, (E.out.trans EY.out)⟩

set_option maxRecDepth 100000 in
set_option maxHeartbeats 2000000 in
theorem linValues_skip1 (W : World) (Aa : Option Addr) (na ca : Nat) (la : List (Int × Bool × List Nat)) (ga : Bool) (Ba : Option Addr) (ma da : Nat) (ka : List Nat) (ha : LList W (.slice Aa na ca) la) (ia : Num W W.heap.size (.slice Ba ma da) ka) (Ab : Option Addr) (nb cb : Nat) (lb : List (Int × Bool × List Nat)) (gb : Bool) (Bb : Option Addr) (mb db : Nat) (kb : List Nat) (hb : LList W (.slice Ab nb cb) lb) (ib : Num W W.heap.size (.slice Bb mb db) kb) (gc : Bool) (Ac : Option Addr) (nc cc : Nat) (lc : List Nat) (hc : Num W W.heap.size (.slice Ac nc cc) lc) (v : Int) (hv : 0 ≤ v ∧ v ≤ 255) (Ax : Option Addr) (nx cx : Nat) (lx : List (Bool × List Nat)) (hx : ZList W (.slice Ax nx cx) lx) (fa : Hid (M.fewL la ka = true)) (fb : Hid (M.fewL lb kb = false)) :
 Calls Tryz.prog 4 #[.agg #[.slice Aa na ca, .bool ga, .slice Ba ma da], .agg #[.slice Ab nb cb, .bool gb, .slice Bb mb db], .agg #[.bool gc, .slice Ac nc cc], .int .u8 v, .slice Ax nx cx] W (fun e w' => e = .returned (.bool true) ∧ Ext W w') := by
 have HLa := hid ha
 have HKa := hid ia
 clear ha ia
 have HLb := hid hb
 have HKb := hid ib
 clear hb ib
 have HNc := hid hc.cnt
 have hn9c : nc ≤ 9223372036854775807 := hc.cnt.2
 clear hc
 have HPCx := hid hx.count
 have hb9x : nx ≤ 9223372036854775807 := hx.count.2.2
 clear hx
 clear hv
 go_enter Tryz.func4, Tryz.ntmps4
 go_upto_region 1 with (fail)
 obtain ⟨E, BX0, BX1, -⟩ := open3 W #[.slice Aa na ca, .bool ga, .slice Ba ma da] 27 #[.slice Ab nb cb, .bool gb, .slice Bb mb db] 27 #[.bool gc, .slice Ac nc cc] 25
 refine wp_region_S [(0, 1), (1, 0)] fun wd hb => ?_
 replace E := hid (E.out.trans hb)
 replace BX0 := hid (BX0.out.up hb)
 replace BX1 := hid (BX1.out.up hb)
 clear hb
 have EY := hid (Ext.refl wd)
 refine WE.cc 17 ((known6 _).mono ?_)
 rintro e wn ⟨rfl, hb⟩
 refine ⟨_, rfl, hb, ?_⟩
 replace EY := hid (EY.out.trans hb)
 clear hb
 refine WE.pp 18 (.bool false) ?_
 simp only [Act.put, pA, pB, pC]
 refine WE.done ?_
 go_upto_region 3 with (fail)
 refine wp_region_S [(0, 0), (1, 1), (2, 0), (3, 0), (4, 0), (5, 1), (6, 0), (7, 0), (8, 0), (9, 0), (10, 0), (11, 0), (12, 0), (13, 0), (14, 0), (15, 0), (16, 1), (17, 0), (18, 0)] fun wd hb => ?_
 replace EY := hid (EY.out.trans hb)
 clear hb
 refine WE.qq 19 (.agg #[.slice Aa na ca, .bool ga, .slice Ba ma da]) rfl (fun w' hk => by obtain ⟨ce0, ce1, ce2⟩ := ((BX0.out.up EY.out).up hk).c3; go_simp) ?_
 refine WE.cc 20 ((fewL_any (g1 := ga) (HLa.out.up (E.out.trans EY.out)) (HKa.out.up (E.out.trans EY.out)) fa.out).mono ?_)
 rintro e wn ⟨rfl, hb⟩
 refine ⟨_, rfl, hb, ?_⟩
 replace EY := hid (EY.out.trans hb)
 clear hb
 refine WE.pp 21 (.bool false) ?_
 refine WE.pp 22 (.bool false) ?_
 refine WE.qq 23 (.agg #[.slice Ab nb cb, .bool gb, .slice Bb mb db]) rfl (fun w' hk => by obtain ⟨ce0, ce1, ce2⟩ := ((BX1.out.up EY.out).up hk).c3; go_simp) ?_
 refine WE.cc 24 ((fewL_any (g1 := gb) (HLb.out.up (E.out.trans EY.out)) (HKb.out.up (E.out.trans EY.out)) fb.out).mono ?_)
 rintro e wn ⟨rfl, hb⟩
 refine ⟨_, rfl, hb, ?_⟩
 replace EY := hid (EY.out.trans hb)
 clear hb
 simp only [Act.put, pA, pB, pC]
 refine WE.pp 25 (.bool true) ?_
 refine WE.pp 26 (.bool true) ?_
 refine WE.pp 27 (.bool true) ?_
 refine WE.ss 28 ?_
 refine WE.ss 29 ?_
 refine WE.ss 30 ?_
 simp only [Act.put, pA, pB, pC]
 refine WE.ss 31 ?_
 refine WE.pp 32 (.bool true) ?_
 refine WE.pp 33 (.bool true) ?_
 refine WE.ss 34 ?_
 refine WE.tt 35 ?_
 refine WE.ss 36 ?_
 simp only [Act.put, pA, pB, pC]
 refine WE.pp 37 (.bool true) ?_
 simp only [Act.put, pA, pB, pC]
 refine WE.done ?_
 go_upto_region 4 with (fail)
 refine wp_region_S [(0, 0)] fun wd hb => ?_
 replace EY := hid (EY.out.trans hb)
 clear hb
 refine WE.pp 10 (.bool true) ?_
 simp only [Act.put, pA, pB, pC]
 refine WE.done ?_
 repeat go_step
 go_ret
 exact ⟨rfl, (E.out.trans EY.out)⟩

set_option maxRecDepth 100000 in
set_option maxHeartbeats 2000000 in
theorem linValues_skip2 (W : World) (Aa : Option Addr) (na ca : Nat) (la : List (Int × Bool × List Nat)) (ga : Bool) (Ba : Option Addr) (ma da : Nat) (ka : List Nat) (ha : LList W (.slice Aa na ca) la) (ia : Num W W.heap.size (.slice Ba ma da) ka) (Ab : Option Addr) (nb cb : Nat) (lb : List (Int × Bool × List Nat)) (gb : Bool) (Bb : Option Addr) (mb db : Nat) (kb : List Nat) (hb : LList W (.slice Ab nb cb) lb) (ib : Num W W.heap.size (.slice Bb mb db) kb) (gc : Bool) (Ac : Option Addr) (nc cc : Nat) (lc : List Nat) (hc : Num W W.heap.size (.slice Ac nc cc) lc) (v : Int) (hv : 0 ≤ v ∧ v ≤ 255) (Ax : Option Addr) (nx cx : Nat) (lx : List (Bool × List Nat)) (hx : ZList W (.slice Ax nx cx) lx) (fa : Hid (M.fewL la ka = true)) (fb : Hid (M.fewL lb kb = true)) (fc : Hid ((!decide ((4 : Int) < (nc : Int))) = false)) :
 Calls Tryz.prog 4 #[.agg #[.slice Aa na ca, .bool ga, .slice Ba ma da], .agg #[.slice Ab nb cb, .bool gb, .slice Bb mb db], .agg #[.bool gc, .slice Ac nc cc], .int .u8 v, .slice Ax nx cx] W (fun e w' => e = .returned (.bool true) ∧ Ext W w') := by
 have HLa := hid ha
 have HKa := hid ia
 clear ha ia
 have HLb := hid hb
 have HKb := hid ib
 clear hb ib
 have HNc := hid hc.cnt
 have hn9c : nc ≤ 9223372036854775807 := hc.cnt.2
 clear hc
 have HPCx := hid hx.count
 have hb9x : nx ≤ 9223372036854775807 := hx.count.2.2
 clear hx
 clear hv
 have hcd : decide ((4 : Int) < (nc : Int)) = true := by have := fc.out; simpa using this
 go_enter Tryz.func4, Tryz.ntmps4
 go_upto_region 1 with (fail)
 obtain ⟨E, BX0, BX1, BX2⟩ := open3 W #[.slice Aa na ca, .bool ga, .slice Ba ma da] 27 #[.slice Ab nb cb, .bool gb, .slice Bb mb db] 27 #[.bool gc, .slice Ac nc cc] 25
 refine wp_region_S [(0, 1), (1, 0)] fun wd hb => ?_
 replace E := hid (E.out.trans hb)
 replace BX0 := hid (BX0.out.up hb)
 replace BX1 := hid (BX1.out.up hb)
 replace BX2 := hid (BX2.out.up hb)
 clear hb
 have EY := hid (Ext.refl wd)
 refine WE.cc 17 ((known6 _).mono ?_)
 rintro e wn ⟨rfl, hb⟩
 refine ⟨_, rfl, hb, ?_⟩
 replace EY := hid (EY.out.trans hb)
 clear hb
 refine WE.pp 18 (.bool false) ?_
 simp only [Act.put, pA, pB, pC]
 refine WE.done ?_
 go_upto_region 3 with (fail)
 refine wp_region_S [(0, 0), (1, 1), (2, 0), (3, 0), (4, 0), (5, 1), (6, 0), (7, 0), (8, 0), (9, 0), (10, 0), (11, 0), (12, 0), (13, 0), (14, 0), (15, 0), (16, 1), (17, 0), (18, 0)] fun wd hb => ?_
 replace EY := hid (EY.out.trans hb)
 clear hb
 refine WE.qq 19 (.agg #[.slice Aa na ca, .bool ga, .slice Ba ma da]) rfl (fun w' hk => by obtain ⟨ce0, ce1, ce2⟩ := ((BX0.out.up EY.out).up hk).c3; go_simp) ?_
 refine WE.cc 20 ((fewL_any (g1 := ga) (HLa.out.up (E.out.trans EY.out)) (HKa.out.up (E.out.trans EY.out)) fa.out).mono ?_)
 rintro e wn ⟨rfl, hb⟩
 refine ⟨_, rfl, hb, ?_⟩
 replace EY := hid (EY.out.trans hb)
 clear hb
 refine WE.pp 21 (.bool false) ?_
 refine WE.pp 22 (.bool false) ?_
 refine WE.qq 23 (.agg #[.slice Ab nb cb, .bool gb, .slice Bb mb db]) rfl (fun w' hk => by obtain ⟨ce0, ce1, ce2⟩ := ((BX1.out.up EY.out).up hk).c3; go_simp) ?_
 refine WE.cc 24 ((fewL_any (g1 := gb) (HLb.out.up (E.out.trans EY.out)) (HKb.out.up (E.out.trans EY.out)) fb.out).mono ?_)
 rintro e wn ⟨rfl, hb⟩
 refine ⟨_, rfl, hb, ?_⟩
 replace EY := hid (EY.out.trans hb)
 clear hb
 simp only [Act.put, pA, pB, pC]
 refine WE.pp 25 (.bool false) ?_
 refine WE.pp 26 (.bool false) ?_
 refine WE.pp 27 (.bool false) ?_
 refine WE.pp 28 (.pointer (some ⟨(W.heap.size + 2), 1, none⟩)) ?_
 refine WE.qq 29 (.slice Ac nc cc) rfl (fun w' hk => by have ce1 := ((BX2.out.up EY.out).up hk).k 1; go_simp) ?_
 refine WE.pp 30 (.int .i64 (nc : Int)) ?_
 simp only [Act.put, pA, pB, pC]
 refine WE.pp 31 (.bool true) ?_
 refine WE.pp 32 (.bool true) ?_
 refine WE.pp 33 (.bool true) ?_
 refine WE.ss 34 ?_
 refine WE.tt 35 ?_
 refine WE.ss 36 ?_
 simp only [Act.put, pA, pB, pC]
 refine WE.pp 37 (.bool true) ?_
 simp only [Act.put, pA, pB, pC]
 refine WE.done ?_
 go_upto_region 4 with (fail)
 refine wp_region_S [(0, 0)] fun wd hb => ?_
 replace EY := hid (EY.out.trans hb)
 clear hb
 refine WE.pp 10 (.bool true) ?_
 simp only [Act.put, pA, pB, pC]
 refine WE.done ?_
 repeat go_step
 go_ret
 exact ⟨rfl, (E.out.trans EY.out)⟩

set_option maxRecDepth 100000 in
set_option maxHeartbeats 2000000 in
theorem linValues_skip3 (W : World) (Aa : Option Addr) (na ca : Nat) (la : List (Int × Bool × List Nat)) (ga : Bool) (Ba : Option Addr) (ma da : Nat) (ka : List Nat) (ha : LList W (.slice Aa na ca) la) (ia : Num W W.heap.size (.slice Ba ma da) ka) (Ab : Option Addr) (nb cb : Nat) (lb : List (Int × Bool × List Nat)) (gb : Bool) (Bb : Option Addr) (mb db : Nat) (kb : List Nat) (hb : LList W (.slice Ab nb cb) lb) (ib : Num W W.heap.size (.slice Bb mb db) kb) (gc : Bool) (Ac : Option Addr) (nc cc : Nat) (lc : List Nat) (hc : Num W W.heap.size (.slice Ac nc cc) lc) (v : Int) (hv : 0 ≤ v ∧ v ≤ 255) (Ax : Option Addr) (nx cx : Nat) (lx : List (Bool × List Nat)) (hx : ZList W (.slice Ax nx cx) lx) (fa : Hid (M.fewL la ka = true)) (fb : Hid (M.fewL lb kb = true)) (fc : Hid ((!decide ((4 : Int) < (nc : Int))) = true)) (fx : Hid (M.fewP lx = false)) :
 Calls Tryz.prog 4 #[.agg #[.slice Aa na ca, .bool ga, .slice Ba ma da], .agg #[.slice Ab nb cb, .bool gb, .slice Bb mb db], .agg #[.bool gc, .slice Ac nc cc], .int .u8 v, .slice Ax nx cx] W (fun e w' => e = .returned (.bool true) ∧ Ext W w') := by
 have HLa := hid ha
 have HKa := hid ia
 clear ha ia
 have HLb := hid hb
 have HKb := hid ib
 clear hb ib
 have HNc := hid hc.cnt
 have hn9c : nc ≤ 9223372036854775807 := hc.cnt.2
 clear hc
 have HPx := hid hx
 have HPCx := hid hx.count
 have hb9x : nx ≤ 9223372036854775807 := hx.count.2.2
 clear hx
 clear hv
 have hcd : decide ((4 : Int) < (nc : Int)) = false := by have := fc.out; simpa using this
 go_enter Tryz.func4, Tryz.ntmps4
 go_upto_region 1 with (fail)
 obtain ⟨E, BX0, BX1, BX2⟩ := open3 W #[.slice Aa na ca, .bool ga, .slice Ba ma da] 27 #[.slice Ab nb cb, .bool gb, .slice Bb mb db] 27 #[.bool gc, .slice Ac nc cc] 25
 refine wp_region_S [(0, 1), (1, 0)] fun wd hb => ?_
 replace E := hid (E.out.trans hb)
 replace BX0 := hid (BX0.out.up hb)
 replace BX1 := hid (BX1.out.up hb)
 replace BX2 := hid (BX2.out.up hb)
 clear hb
 have EY := hid (Ext.refl wd)
 refine WE.cc 17 ((known6 _).mono ?_)
 rintro e wn ⟨rfl, hb⟩
 refine ⟨_, rfl, hb, ?_⟩
 replace EY := hid (EY.out.trans hb)
 clear hb
 refine WE.pp 18 (.bool false) ?_
 simp only [Act.put, pA, pB, pC]
 refine WE.done ?_
 go_upto_region 3 with (fail)
 refine wp_region_S [(0, 0), (1, 1), (2, 0), (3, 0), (4, 0), (5, 1), (6, 0), (7, 0), (8, 0), (9, 0), (10, 0), (11, 0), (12, 0), (13, 0), (14, 0), (15, 0), (16, 1), (17, 0), (18, 0)] fun wd hb => ?_
 replace EY := hid (EY.out.trans hb)
 clear hb
 refine WE.qq 19 (.agg #[.slice Aa na ca, .bool ga, .slice Ba ma da]) rfl (fun w' hk => by obtain ⟨ce0, ce1, ce2⟩ := ((BX0.out.up EY.out).up hk).c3; go_simp) ?_
 refine WE.cc 20 ((fewL_any (g1 := ga) (HLa.out.up (E.out.trans EY.out)) (HKa.out.up (E.out.trans EY.out)) fa.out).mono ?_)
 rintro e wn ⟨rfl, hb⟩
 refine ⟨_, rfl, hb, ?_⟩
 replace EY := hid (EY.out.trans hb)
 clear hb
 refine WE.pp 21 (.bool false) ?_
 refine WE.pp 22 (.bool false) ?_
 refine WE.qq 23 (.agg #[.slice Ab nb cb, .bool gb, .slice Bb mb db]) rfl (fun w' hk => by obtain ⟨ce0, ce1, ce2⟩ := ((BX1.out.up EY.out).up hk).c3; go_simp) ?_
 refine WE.cc 24 ((fewL_any (g1 := gb) (HLb.out.up (E.out.trans EY.out)) (HKb.out.up (E.out.trans EY.out)) fb.out).mono ?_)
 rintro e wn ⟨rfl, hb⟩
 refine ⟨_, rfl, hb, ?_⟩
 replace EY := hid (EY.out.trans hb)
 clear hb
 simp only [Act.put, pA, pB, pC]
 refine WE.pp 25 (.bool false) ?_
 refine WE.pp 26 (.bool false) ?_
 refine WE.pp 27 (.bool false) ?_
 refine WE.pp 28 (.pointer (some ⟨(W.heap.size + 2), 1, none⟩)) ?_
 refine WE.qq 29 (.slice Ac nc cc) rfl (fun w' hk => by have ce1 := ((BX2.out.up EY.out).up hk).k 1; go_simp) ?_
 refine WE.pp 30 (.int .i64 (nc : Int)) ?_
 simp only [Act.put, pA, pB, pC]
 refine WE.pp 31 (.bool false) ?_
 refine WE.pp 32 (.bool false) ?_
 refine WE.pp 33 (.bool false) ?_
 refine WE.pp 34 (.slice Ax nx cx) ?_
 refine WE.cc 35 ((fewP_any (HPx.out.up (E.out.trans EY.out)) fx.out).mono ?_)
 rintro e wn ⟨rfl, hb⟩
 refine ⟨_, rfl, hb, ?_⟩
 replace EY := hid (EY.out.trans hb)
 clear hb
 refine WE.pp 36 (.bool true) ?_
 simp only [Act.put, pA, pB, pC]
 refine WE.pp 37 (.bool true) ?_
 simp only [Act.put, pA, pB, pC]
 refine WE.done ?_
 go_upto_region 4 with (fail)
 refine wp_region_S [(0, 0)] fun wd hb => ?_
 replace EY := hid (EY.out.trans hb)
 clear hb
 refine WE.pp 10 (.bool true) ?_
 simp only [Act.put, pA, pB, pC]
 refine WE.done ?_
 repeat go_step
 go_ret
 exact ⟨rfl, (E.out.trans EY.out)⟩

set_option maxRecDepth 100000 in
set_option maxHeartbeats 16000000 in
theorem linValues_main (W : World) (Aa : Option Addr) (na ca : Nat) (la : List (Int × Bool × List Nat)) (ga : Bool) (Ba : Option Addr) (ma da : Nat) (ka : List Nat) (ha : LList W (.slice Aa na ca) la) (ia : Num W W.heap.size (.slice Ba ma da) ka) (Ab : Option Addr) (nb cb : Nat) (lb : List (Int × Bool × List Nat)) (gb : Bool) (Bb : Option Addr) (mb db : Nat) (kb : List Nat) (hb : LList W (.slice Ab nb cb) lb) (ib : Num W W.heap.size (.slice Bb mb db) kb) (gc : Bool) (Ac : Option Addr) (nc cc : Nat) (lc : List Nat) (hc : Num W W.heap.size (.slice Ac nc cc) lc) (v : Int) (hv : 0 ≤ v ∧ v ≤ 255) (Ax : Option Addr) (nx cx : Nat) (lx : List (Bool × List Nat)) (hx : ZList W (.slice Ax nx cx) lx) (fa : Hid (M.fewL la ka = true)) (fb : Hid (M.fewL lb kb = true)) (fc : Hid ((!decide ((4 : Int) < (nc : Int))) = true)) (fx : Hid (M.fewP lx = true)) (k : Nat) (hk1 : Hid (v.tmod 12 = (k : Int))) (hk2 : Hid (k < 12)) :
 Calls Tryz.prog 4 #[.agg #[.slice Aa na ca, .bool ga, .slice Ba ma da], .agg #[.slice Ab nb cb, .bool gb, .slice Bb mb db], .agg #[.bool gc, .slice Ac nc cc], .int .u8 v, .slice Ax nx cx] W (fun e w' => e = .returned (.bool true) ∧ Ext W w') := by
 have HLa := hid ha
 have HKa := hid ia
 obtain ⟨qa, qb, qc⟩ := M.fewL_parts fa.out
 obtain ⟨t, hta⟩ : ∃ t, t = M.ft la ga ka := ⟨_, rfl⟩
 obtain ⟨κ, hka⟩ : ∃ k, k = M.fk la ga ka := ⟨_, rfl⟩
 have HAa := hid (worthL_of ha ia qa qc hta hka)
 have NAa := hid (show t.length ≤ 8 by rw [hta]; exact Nat.le_trans (M.ft_len _ _ _) qb)
 clear qa qb qc hta hka
 clear ha ia
 have HLb := hid hb
 have HKb := hid ib
 obtain ⟨qa, qb, qc⟩ := M.fewL_parts fb.out
 obtain ⟨s, htb⟩ : ∃ t, t = M.ft lb gb kb := ⟨_, rfl⟩
 obtain ⟨μ, hkb⟩ : ∃ k, k = M.fk lb gb kb := ⟨_, rfl⟩
 have HAb := hid (worthL_of hb ib qa qc htb hkb)
 have NAb := hid (show s.length ≤ 8 by rw [htb]; exact Nat.le_trans (M.ft_len _ _ _) qb)
 clear qa qb qc htb hkb
 clear hb ib
 have HNc := hid hc.cnt
 have hn9c : nc ≤ 9223372036854775807 := hc.cnt.2
 obtain ⟨z, hzc⟩ : ∃ z : Int, z = M.zv gc lc := ⟨_, rfl⟩
 have Rc := hid (worth_of (g := gc) (k := 4) hc (by have := hc.cnt.1; have := fc.out; simp at this; omega) hzc)
 clear hzc
 clear hc
 have HPx := hid hx
 have HPCx := hid hx.count
 have hb9x : nx ≤ 9223372036854775807 := hx.count.2.2
 have HPSx := hid (M.fewP_parts fx.out)
 clear hx
 have hcd : decide ((4 : Int) < (nc : Int)) = false := by have := fc.out; simpa using this
 have hk12 : k < 12 := hk2.out
 have hq : v.tmod 12 = (k : Int) := hk1.out
 have hwk : IntKind.i64.wrap (k : Int) = (k : Int) := by rw [IntKind.wrap_i64]; omega
 have hwu : IntKind.u8.wrap (k : Int) = (k : Int) := by simp [IntKind.wrap, IntKind.bits, IntKind.signed]; omega
 have hwk1 : IntKind.i64.wrap ((k : Int) + 1) = (k : Int) + 1 := by rw [IntKind.wrap_i64]; omega
 have hnx : nx ≤ 12 := by have h1 := HPSx.out.2; have h2 := HPCx.out.1; omega
 obtain ⟨mm, hmm⟩ : ∃ m : Nat, max nx (k + 1) = m := ⟨_, rfl⟩
 have hmi : max (nx : Int) ((k : Int) + 1) = (mm : Int) := by omega
 have hmx : nx ≤ mm := by omega
 have hkm : k < mm := by omega
 have hm20 : mm ≤ 20 := by omega
 have HMK := hid (make_J mm (by omega))
 have OA := hid (show M.okT (-1) t from HAa.out.ok)
 have OB := hid (show M.okT (-1) s from HAb.out.ok)
 clear hmm hv
 go_enter Tryz.func4, Tryz.ntmps4
 go_upto_region 1 with (fail)
 obtain ⟨E, BX0, BX1, BX2⟩ := open3 W #[.slice Aa na ca, .bool ga, .slice Ba ma da] 27 #[.slice Ab nb cb, .bool gb, .slice Bb mb db] 27 #[.bool gc, .slice Ac nc cc] 25
 replace Rc := hid (Rc.out.up E.out)
 refine wp_region_S [(0, 1), (1, 0)] fun wd hb => ?_
 replace E := hid (E.out.trans hb)
 replace BX0 := hid (BX0.out.up hb)
 replace BX1 := hid (BX1.out.up hb)
 replace BX2 := hid (BX2.out.up hb)
 replace Rc := hid (Rc.out.up hb)
 clear hb
 have EY := hid (Ext.refl wd)
 refine WE.cc 17 ((known6 _).mono ?_)
 rintro e wn ⟨rfl, hb⟩
 refine ⟨_, rfl, hb, ?_⟩
 replace EY := hid (EY.out.trans hb)
 clear hb
 refine WE.pp 18 (.bool false) ?_
 simp only [Act.put, pA, pB, pC]
 refine WE.done ?_
 go_upto_region 3 with (fail)
 refine wp_region_S [(0, 0), (1, 1), (2, 0), (3, 0), (4, 0), (5, 1), (6, 0), (7, 0), (8, 0), (9, 0), (10, 0), (11, 0), (12, 0), (13, 0), (14, 0), (15, 0), (16, 1), (17, 0), (18, 0)] fun wd hb => ?_
 replace EY := hid (EY.out.trans hb)
 clear hb
 refine WE.qq 19 (.agg #[.slice Aa na ca, .bool ga, .slice Ba ma da]) rfl (fun w' hk => by obtain ⟨ce0, ce1, ce2⟩ := ((BX0.out.up EY.out).up hk).c3; go_simp) ?_
 refine WE.cc 20 ((fewL_any (g1 := ga) (HLa.out.up (E.out.trans EY.out)) (HKa.out.up (E.out.trans EY.out)) fa.out).mono ?_)
 rintro e wn ⟨rfl, hb⟩
 refine ⟨_, rfl, hb, ?_⟩
 replace EY := hid (EY.out.trans hb)
 clear hb
 refine WE.pp 21 (.bool false) ?_
 refine WE.pp 22 (.bool false) ?_
 refine WE.qq 23 (.agg #[.slice Ab nb cb, .bool gb, .slice Bb mb db]) rfl (fun w' hk => by obtain ⟨ce0, ce1, ce2⟩ := ((BX1.out.up EY.out).up hk).c3; go_simp) ?_
 refine WE.cc 24 ((fewL_any (g1 := gb) (HLb.out.up (E.out.trans EY.out)) (HKb.out.up (E.out.trans EY.out)) fb.out).mono ?_)
 rintro e wn ⟨rfl, hb⟩
 refine ⟨_, rfl, hb, ?_⟩
 replace EY := hid (EY.out.trans hb)
 clear hb
 simp only [Act.put, pA, pB, pC]
 refine WE.pp 25 (.bool false) ?_
 refine WE.pp 26 (.bool false) ?_
 refine WE.pp 27 (.bool false) ?_
 refine WE.pp 28 (.pointer (some ⟨(W.heap.size + 2), 1, none⟩)) ?_
 refine WE.qq 29 (.slice Ac nc cc) rfl (fun w' hk => by have ce1 := ((BX2.out.up EY.out).up hk).k 1; go_simp) ?_
 refine WE.pp 30 (.int .i64 (nc : Int)) ?_
 simp only [Act.put, pA, pB, pC]
 refine WE.pp 31 (.bool false) ?_
 refine WE.pp 32 (.bool false) ?_
 refine WE.pp 33 (.bool false) ?_
 refine WE.pp 34 (.slice Ax nx cx) ?_
 refine WE.cc 35 ((fewP_any (HPx.out.up (E.out.trans EY.out)) fx.out).mono ?_)
 rintro e wn ⟨rfl, hb⟩
 refine ⟨_, rfl, hb, ?_⟩
 replace EY := hid (EY.out.trans hb)
 clear hb
 refine WE.pp 36 (.bool false) ?_
 simp only [Act.put, pA, pB, pC]
 refine WE.pp 37 (.bool false) ?_
 simp only [Act.put, pA, pB, pC]
 refine WE.done ?_
 go_upto_region 5 with (fail)
 refine wp_region_S [(0, 0), (1, 0), (2, 0), (3, 0)] fun wd hb => ?_
 replace EY := hid (EY.out.trans hb)
 clear hb
 refine WE.pp 38 (.int .u8 v) ?_
 refine WE.pp 39 (.int .u8 (k : Int)) ?_
 refine WE.pp 40 (.int .i64 (k : Int)) ?_
 refine WE.pp 11 (.int .i64 (k : Int)) ?_
 simp only [Act.put, pA, pB, pC]
 refine WE.done ?_
 go_upto_region 6 with (fail)
 refine wp_region_L [(0, 0), (1, 0), (3, 0), (4, 0), (2, 2), (5, 2), (6, 3), (7, 3), (8, 4), (9, 4)] 25 #[.bool false, .slice none 0 0] fun wd hb => ?_
 replace EY := hid (EY.out.trans hb)
 clear hb
 have HL1BX0 := hid (BX0.out.up EY.out).lt
 have HL1BX1 := hid (BX1.out.up EY.out).lt
 have HL1BX2 := hid (BX2.out.up EY.out).lt
 have HW1 := hid (show W.heap.size ≤ wd.heap.size from (E.out.trans EY.out).size)
 refine WE.qq 41 (.agg #[.slice Aa na ca, .bool ga, .slice Ba ma da]) rfl (fun w' hk => by obtain ⟨ce0, ce1, ce2⟩ := ((BX0.out.up EY.out).up hk).c3; go_simp) ?_
 refine WE.pp 42 (.slice Ax nx cx) ?_
 refine WE.qq 44 (.agg #[.slice Ab nb cb, .bool gb, .slice Bb mb db]) rfl (fun w' hk => by obtain ⟨ce0, ce1, ce2⟩ := ((BX1.out.up EY.out).up hk).c3; go_simp) ?_
 refine WE.pp 45 (.slice Ax nx cx) ?_
 simp only [Act.put, pA, pB, pC]
 refine WE.callR (d := some 43) rfl rfl (by rfl) (f := 32) (args := #[(.agg #[.slice Aa na ca, .bool ga, .slice Ba ma da]), (.slice Ax nx cx)]) (fun w => by go_simp) (fun wx hx0 => ?_)
 replace EY := hid (EY.out.trans hx0)
 clear hx0
 refine (atL_l (WorthL.wide (HAa.out.up (E.out.trans EY.out)) (U := 4) (by omega)) (hp := HPx.out.up (E.out.trans EY.out)) (fun x hx => Nat.le_trans (HPSx.out.1 x hx) (by decide)) (by omega) (Nat.le_trans NAa.out (by decide))).mono ?_
 rintro e wn ⟨v1, rfl, x1, hb⟩
 obtain ⟨g11, A11, n11, c11, rfl⟩ := x1.shape
 replace x1 := x1.wide (k := 17) (by have : t.length ≤ 8 := NAa.out; omega)
 refine ⟨_, rfl, hb, ?_⟩
 replace EY := hid (EY.out.trans hb)
 have Q11 := hid x1
 clear hb x1
 simp only [Act.put, pA, pB, pC]
 refine WE.callR (d := some 46) rfl rfl (by rfl) (f := 32) (args := #[(.agg #[.slice Ab nb cb, .bool gb, .slice Bb mb db]), (.slice Ax nx cx)]) (fun w => by go_simp) (fun wx hx0 => ?_)
 replace EY := hid (EY.out.trans hx0)
 replace Q11 := hid (Q11.out.up hx0)
 clear hx0
 refine (atL_l (WorthL.wide (HAb.out.up (E.out.trans EY.out)) (U := 4) (by omega)) (hp := HPx.out.up (E.out.trans EY.out)) (fun x hx => Nat.le_trans (HPSx.out.1 x hx) (by decide)) (by omega) (Nat.le_trans NAb.out (by decide))).mono ?_
 rintro e wn ⟨v1, rfl, x1, hb⟩
 obtain ⟨g12, A12, n12, c12, rfl⟩ := x1.shape
 replace x1 := x1.wide (k := 17) (by have : s.length ≤ 8 := NAb.out; omega)
 refine ⟨_, rfl, hb, ?_⟩
 replace EY := hid (EY.out.trans hb)
 replace Q11 := hid (Q11.out.up hb)
 have Q12 := hid x1
 clear hb x1
 simp only [Act.put, pA, pB, pC]
 refine WE.var (d := some 12) rfl fun gV12 wv hx0 hbox hge hng => ?_
 have HNV12BX0 := hid (show gV12 ≠ (W.heap.size) by have := HL1BX0.out; omega)
 have HNV12BX1 := hid (show gV12 ≠ (W.heap.size + 1) by have := HL1BX1.out; omega)
 have HNV12BX2 := hid (show gV12 ≠ (W.heap.size + 2) by have := HL1BX2.out; omega)
 have HGV12 := hid (show W.heap.size ≤ gV12 by have := HW1.out; omega)
 replace EY := hid (EY.out.trans hx0)
 replace Q11 := hid (Q11.out.up hx0)
 replace Q12 := hid (Q12.out.up hx0)
 have V12 : Hid (Box wv gV12 #[.bool false, .slice none 0 0] 25) := hid hbox
 clear hx0 hbox hge hng
 simp only [Act.put, pA, pB, pC]
 refine WE.var (d := some 13) rfl fun gV13 wv hx0 hbox hge hng => ?_
 have HNV13BX0 := hid (show gV13 ≠ (W.heap.size) by have := HL1BX0.out; omega)
 have HNV13BX1 := hid (show gV13 ≠ (W.heap.size + 1) by have := HL1BX1.out; omega)
 have HNV13BX2 := hid (show gV13 ≠ (W.heap.size + 2) by have := HL1BX2.out; omega)
 have HNV13V12 := hid (show gV13 ≠ gV12 by intro e; exact hng (by simp [e]))
 have HGV13 := hid (show W.heap.size ≤ gV13 by have := HW1.out; omega)
 replace EY := hid (EY.out.trans hx0)
 replace V12 := hid (V12.out.up hx0)
 replace Q11 := hid (Q11.out.up hx0)
 replace Q12 := hid (Q12.out.up hx0)
 have V13 : Hid (Box wv gV13 #[.bool false, .slice none 0 0] 25) := hid hbox
 clear hx0 hbox hge hng
 simp only [Act.put, pA, pB, pC]
 refine WE.store2 (g := gV12) (x := .bool g11) (y := .slice A11 n11 c11) (t := 25) rfl rfl (by rfl) (fun w hb => ?_) V12.out (by rfl) fun ws hk hs => ?_
 ·obtain ⟨ce0, ce1⟩ := hb.c2; obtain ⟨f0, f1⟩ := hb.f2; go_simp
 intro hbx
 replace E := hid ((E.out.trans EY.out).keptG hk HGV12.out)
 replace BX0 := hid ((BX0.out.up EY.out).kept hk (by simpa using HNV12BX0.out.symm))
 replace BX1 := hid ((BX1.out.up EY.out).kept hk (by simpa using HNV12BX1.out.symm))
 replace BX2 := hid ((BX2.out.up EY.out).kept hk (by simpa using HNV12BX2.out.symm))
 replace V12 := hid hbx
 replace V13 := hid (V13.out.kept hk (by simpa using HNV13V12.out))
 replace Rc := hid ((Rc.out.up EY.out).kz hs)
 replace Q11 := hid (Q11.out.kz hs)
 replace Q12 := hid (Q12.out.kz hs)
 clear hk hs hbx
 replace EY := hid (Ext.refl ws)
 refine WE.store2 (g := gV13) (x := .bool g12) (y := .slice A12 n12 c12) (t := 25) rfl rfl (by rfl) (fun w hb => ?_) (V13.out.up EY.out) (by rfl) fun ws hk hs => ?_
 ·obtain ⟨ce0, ce1⟩ := hb.c2; obtain ⟨f0, f1⟩ := hb.f2; go_simp
 intro hbx
 replace E := hid ((E.out.trans EY.out).keptG hk HGV13.out)
 replace BX0 := hid ((BX0.out.up EY.out).kept hk (by simpa using HNV13BX0.out.symm))
 replace BX1 := hid ((BX1.out.up EY.out).kept hk (by simpa using HNV13BX1.out.symm))
 replace BX2 := hid ((BX2.out.up EY.out).kept hk (by simpa using HNV13BX2.out.symm))
 replace V12 := hid ((V12.out.up EY.out).kept hk (by simpa using HNV13V12.out.symm))
 replace V13 := hid hbx
 replace Rc := hid ((Rc.out.up EY.out).kz hs)
 replace Q11 := hid ((Q11.out.up EY.out).kz hs)
 replace Q12 := hid ((Q12.out.up EY.out).kz hs)
 clear hk hs hbx
 replace EY := hid (Ext.refl ws)
 refine WE.done ?_
 go_upto_region 7 with (fail)
 refine wp_region_D [(0, 0), (1, 0), (3, 0), (5, 0), (6, 0), (2, 1), (4, 1), (7, 1), (8, 1), (9, 0), (10, 0), (11, 0), (12, 0), (14, 0), (16, 0), (17, 0), (13, 1), (15, 1), (18, 1), (19, 1), (20, 0), (21, 0), (22, 0), (23, 0), (24, 0), (26, 0), (28, 0), (29, 0), (25, 1), (27, 1), (30, 1), (31, 1), (32, 0), (33, 0)] fun wd hb => ?_
 replace EY := hid (EY.out.trans hb)
 clear hb
 refine WE.qq 47 (.agg #[.slice Aa na ca, .bool ga, .slice Ba ma da]) rfl (fun w' hk => by obtain ⟨ce0, ce1, ce2⟩ := ((BX0.out.up EY.out).up hk).c3; go_simp) ?_
 refine WE.qq 48 (.agg #[.slice Ab nb cb, .bool gb, .slice Bb mb db]) rfl (fun w' hk => by obtain ⟨ce0, ce1, ce2⟩ := ((BX1.out.up EY.out).up hk).c3; go_simp) ?_
 refine WE.pp 50 (.slice Ax nx cx) ?_
 refine WE.qq 52 (.agg #[.bool g11, .slice A11 n11 c11]) rfl (fun w' hk => by obtain ⟨ce0, ce1⟩ := ((V12.out.up EY.out).up hk).c2; go_simp) ?_
 refine WE.qq 53 (.agg #[.bool g12, .slice A12 n12 c12]) rfl (fun w' hk => by obtain ⟨ce0, ce1⟩ := ((V13.out.up EY.out).up hk).c2; go_simp) ?_
 refine WE.cc 49 ((addL_l (WorthL.wide (HAa.out.up (E.out.trans EY.out)) (U := 4) (by omega)) (WorthL.wide (HAb.out.up (E.out.trans EY.out)) (U := 4) (by omega)) (by omega) (Nat.le_trans NAa.out (by decide)) (Nat.le_trans NAb.out (by decide))).mono ?_)
 rintro e wn ⟨v1, rfl, x1, hb⟩
 obtain ⟨A13, n13, c13, g13, B13, m13, d13, rfl⟩ := x1.shape
 refine ⟨_, rfl, hb, ?_⟩
 replace EY := hid (EY.out.trans hb)
 have S13 := hid x1
 clear hb x1
 simp only [Act.put, pA, pB, pC]
 refine WE.cc 51 ((atL_l (WorthL.wide S13.out.worth (U := 5) (by omega)) (hp := HPx.out.up (E.out.trans EY.out)) (fun x hx => Nat.le_trans (HPSx.out.1 x hx) (by decide)) (by omega) (Nat.le_trans (Nat.le_trans (M.addT_len _ _) (Nat.add_le_add NAa.out NAb.out)) (by decide))).mono ?_)
 rintro e wn ⟨v1, rfl, x1, hb⟩
 obtain ⟨g14, A14, n14, c14, rfl⟩ := x1.shape
 replace x1 := x1.wide (k := 27) (by have : (M.addT t s).length ≤ 16 := (Nat.le_trans (M.addT_len _ _) (Nat.add_le_add NAa.out NAb.out)); omega)
 refine ⟨_, rfl, hb, ?_⟩
 replace EY := hid (EY.out.trans hb)
 have Q14 := hid x1
 clear hb x1
 refine WE.cc 54 ((rAdd_w (Worth.wide (Q11.out.up EY.out).worth (k := 17) (by omega)) (Worth.wide (Q12.out.up EY.out).worth (k := 17) (by omega)) (by omega) (by omega)).mono ?_)
 rintro e wn ⟨v1, rfl, x1, hb⟩
 obtain ⟨g15, A15, n15, c15, rfl⟩ := x1.shape
 refine ⟨_, rfl, hb, ?_⟩
 replace EY := hid (EY.out.trans hb)
 replace Q14 := hid (Q14.out.up hb)
 have Q15 := hid x1
 clear hb x1
 refine WE.cc 55 ((rEqual_any Q14.out Q15.out (b := true) (decide_eq_true (by rw [M.atT_addT]; omega))).mono ?_)
 rintro e wn ⟨rfl, hb⟩
 refine ⟨_, rfl, hb, ?_⟩
 replace EY := hid (EY.out.trans hb)
 clear hb
 refine WE.pp 56 (.bool false) ?_
 refine WE.pp 57 (.bool false) ?_
 refine WE.qq 58 (.agg #[.slice Aa na ca, .bool ga, .slice Ba ma da]) rfl (fun w' hk => by obtain ⟨ce0, ce1, ce2⟩ := ((BX0.out.up EY.out).up hk).c3; go_simp) ?_
 simp only [Act.put, pA, pB, pC]
 refine WE.qq 59 (.agg #[.slice Ab nb cb, .bool gb, .slice Bb mb db]) rfl (fun w' hk => by obtain ⟨ce0, ce1, ce2⟩ := ((BX1.out.up EY.out).up hk).c3; go_simp) ?_
 refine WE.pp 61 (.slice Ax nx cx) ?_
 refine WE.qq 63 (.agg #[.bool g11, .slice A11 n11 c11]) rfl (fun w' hk => by obtain ⟨ce0, ce1⟩ := ((V12.out.up EY.out).up hk).c2; go_simp) ?_
 refine WE.qq 64 (.agg #[.bool g12, .slice A12 n12 c12]) rfl (fun w' hk => by obtain ⟨ce0, ce1⟩ := ((V13.out.up EY.out).up hk).c2; go_simp) ?_
 refine WE.cc 60 ((subL_l (WorthL.wide (HAa.out.up (E.out.trans EY.out)) (U := 4) (by omega)) (WorthL.wide (HAb.out.up (E.out.trans EY.out)) (U := 4) (by omega)) (by omega) (Nat.le_trans NAa.out (by decide)) (Nat.le_trans NAb.out (by decide))).mono ?_)
 rintro e wn ⟨v1, rfl, x1, hb⟩
 obtain ⟨A16, n16, c16, g16, B16, m16, d16, rfl⟩ := x1.shape
 refine ⟨_, rfl, hb, ?_⟩
 replace EY := hid (EY.out.trans hb)
 have S16 := hid x1
 clear hb x1
 refine WE.cc 62 ((atL_l (WorthL.wide S16.out.worth (U := 5) (by omega)) (hp := HPx.out.up (E.out.trans EY.out)) (fun x hx => Nat.le_trans (HPSx.out.1 x hx) (by decide)) (by omega) (Nat.le_trans (Nat.le_trans (M.addT_len _ _) (Nat.add_le_add NAa.out (Nat.le_trans (M.scaleT_len _ _) NAb.out))) (by decide))).mono ?_)
 rintro e wn ⟨v1, rfl, x1, hb⟩
 obtain ⟨g17, A17, n17, c17, rfl⟩ := x1.shape
 replace x1 := x1.wide (k := 27) (by have : (M.addT t (M.scaleT s (-1))).length ≤ 16 := (Nat.le_trans (M.addT_len _ _) (Nat.add_le_add NAa.out (Nat.le_trans (M.scaleT_len _ _) NAb.out))); omega)
 refine ⟨_, rfl, hb, ?_⟩
 replace EY := hid (EY.out.trans hb)
 have Q17 := hid x1
 clear hb x1
 simp only [Act.put, pA, pB, pC]
 refine WE.cc 65 ((rSub_w (Worth.wide (Q11.out.up EY.out).worth (k := 17) (by omega)) (Worth.wide (Q12.out.up EY.out).worth (k := 17) (by omega)) (by omega) (by omega)).mono ?_)
 rintro e wn ⟨v1, rfl, x1, hb⟩
 obtain ⟨g18, A18, n18, c18, rfl⟩ := x1.shape
 refine ⟨_, rfl, hb, ?_⟩
 replace EY := hid (EY.out.trans hb)
 replace Q17 := hid (Q17.out.up hb)
 have Q18 := hid x1
 clear hb x1
 refine WE.cc 66 ((rEqual_any Q17.out Q18.out (b := true) (decide_eq_true (by rw [M.atT_addT, M.atT_scaleT]; omega))).mono ?_)
 rintro e wn ⟨rfl, hb⟩
 refine ⟨_, rfl, hb, ?_⟩
 replace EY := hid (EY.out.trans hb)
 clear hb
 refine WE.pp 67 (.bool false) ?_
 refine WE.pp 68 (.bool false) ?_
 refine WE.pp 69 (.bool false) ?_
 refine WE.qq 70 (.agg #[.slice Aa na ca, .bool ga, .slice Ba ma da]) rfl (fun w' hk => by obtain ⟨ce0, ce1, ce2⟩ := ((BX0.out.up EY.out).up hk).c3; go_simp) ?_
 simp only [Act.put, pA, pB, pC]
 refine WE.qq 71 (.agg #[.bool gc, .slice Ac nc cc]) rfl (fun w' hk => by obtain ⟨ce0, ce1⟩ := ((BX2.out.up EY.out).up hk).c2; go_simp) ?_
 refine WE.pp 73 (.slice Ax nx cx) ?_
 refine WE.qq 75 (.agg #[.bool g11, .slice A11 n11 c11]) rfl (fun w' hk => by obtain ⟨ce0, ce1⟩ := ((V12.out.up EY.out).up hk).c2; go_simp) ?_
 refine WE.qq 76 (.agg #[.bool gc, .slice Ac nc cc]) rfl (fun w' hk => by obtain ⟨ce0, ce1⟩ := ((BX2.out.up EY.out).up hk).c2; go_simp) ?_
 refine WE.cc 72 ((scaleL_l (WorthL.wide (HAa.out.up (E.out.trans EY.out)) (U := 4) (by omega)) (Worth.wide (Rc.out.up EY.out) (k := 4) (by omega)) (by omega) (Nat.le_trans NAa.out (by decide))).mono ?_)
 rintro e wn ⟨v1, rfl, x1, hb⟩
 obtain ⟨A19, n19, c19, g19, B19, m19, d19, rfl⟩ := x1.shape
 refine ⟨_, rfl, hb, ?_⟩
 replace EY := hid (EY.out.trans hb)
 have S19 := hid x1
 clear hb x1
 refine WE.cc 74 ((atL_l (WorthL.wide S19.out.worth (U := 8) (by omega)) (hp := HPx.out.up (E.out.trans EY.out)) (fun x hx => Nat.le_trans (HPSx.out.1 x hx) (by decide)) (by omega) (Nat.le_trans (Nat.le_trans (M.scaleT_len _ _) NAa.out) (by decide))).mono ?_)
 rintro e wn ⟨v1, rfl, x1, hb⟩
 obtain ⟨g20, A20, n20, c20, rfl⟩ := x1.shape
 replace x1 := x1.wide (k := 25) (by have : (M.scaleT t z).length ≤ 8 := (Nat.le_trans (M.scaleT_len _ _) NAa.out); omega)
 refine ⟨_, rfl, hb, ?_⟩
 replace EY := hid (EY.out.trans hb)
 have Q20 := hid x1
 clear hb x1
 simp only [Act.put, pA, pB, pC]
 refine WE.cc 77 ((rMul_w (Worth.wide (Q11.out.up EY.out).worth (k := 17) (by omega)) (Worth.wide (Rc.out.up EY.out) (k := 17) (by omega)) (by omega) (by omega)).mono ?_)
 rintro e wn ⟨v1, rfl, x1, hb⟩
 obtain ⟨g21, A21, n21, c21, rfl⟩ := x1.shape
 refine ⟨_, rfl, hb, ?_⟩
 replace EY := hid (EY.out.trans hb)
 replace Q20 := hid (Q20.out.up hb)
 have Q21 := hid x1
 clear hb x1
 refine WE.cc 78 ((rEqual_any Q20.out Q21.out (b := true) (decide_eq_true (by rw [M.atT_scaleT, Int.add_mul]))).mono ?_)
 rintro e wn ⟨rfl, hb⟩
 refine ⟨_, rfl, hb, ?_⟩
 replace EY := hid (EY.out.trans hb)
 clear hb
 refine WE.pp 79 (.bool false) ?_
 refine WE.pp 80 (.bool false) ?_
 simp only [Act.put, pA, pB, pC]
 refine WE.done ?_
 clear Q11
 clear S13
 clear Q14
 clear Q15
 clear S16
 clear Q17
 clear Q18
 clear S19
 clear Q20
 clear Q21
 go_upto_region 9 with (fail)
 refine wp_region_S [(0, 0), (1, 0), (2, 0), (3, 0), (4, 0), (5, 1), (6, 0)] fun wd hb => ?_
 replace EY := hid (EY.out.trans hb)
 clear hb
 refine WE.pp 81 (.slice Ax nx cx) ?_
 refine WE.pp 82 (.int .i64 (nx : Int)) ?_
 refine WE.pp 83 (.int .i64 (k : Int)) ?_
 refine WE.pp 84 (.int .i64 ((k : Int) + 1)) ?_
 refine WE.pp 85 (.int .i64 (mm : Int)) ?_
 simp only [Act.put, pA, pB, pC]
 refine WE.new (d := some 86) (cs := zerosJ mm) (t := 25) (v := fun g => (.slice (some ⟨g, 0, none⟩) mm mm)) rfl rfl (by rfl) (fun w => by have hmk := HMK.out w; go_simp) fun gY wv hx0 hbox hge => ?_
 have HNYBX0 := hid (show (W.heap.size) < gY by have := (BX0.out.up EY.out).lt; omega)
 have HNYBX1 := hid (show (W.heap.size + 1) < gY by have := (BX1.out.up EY.out).lt; omega)
 have HNYV13 := hid (show gV13 < gY by have := (V13.out.up EY.out).lt; omega)
 have HWY := hid (show W.heap.size ≤ gY by have := (E.out.trans EY.out).size; omega)
 replace EY := hid (EY.out.trans hx0)
 have OWN := hid (JOwn.made hbox (by omega))
 clear hx0 hbox hge
 refine WE.pp 14 (.slice (some ⟨gY, 0, none⟩) mm mm) ?_
 simp only [Act.put, pA, pB, pC]
 refine WE.done ?_
 go_upto_region 10 with (fail)
 refine wp_region_S [(0, 0)] fun wd hb => ?_
 replace EY := hid (EY.out.trans hb)
 replace OWN := hid (OWN.out.up hb)
 clear hb
 refine WE.pp 15 (.int .i64 (0)) ?_
 simp only [Act.put, pA, pB, pC]
 refine WE.done ?_
 go_wp2
 go_loopw [15] (fun x15 wr => ∃ (i : Nat), x15 = .int .i64 (i : Int) ∧ i ≤ nx ∧ Ext W wr ∧ Box wr (W.heap.size) #[.slice Aa na ca, .bool ga, .slice Ba ma da] 27 ∧ Box wr (W.heap.size + 1) #[.slice Ab nb cb, .bool gb, .slice Bb mb db] 27 ∧ Box wr gV13 #[.bool g12, .slice A12 n12 c12] 25 ∧ IsZ wr (.agg #[.bool g12, .slice A12 n12 c12]) (μ + M.atT (M.valAt lx) s) 17 ∧ JOwn gY wr (.slice (some ⟨gY, 0, none⟩) mm mm) (M.fillY lx i mm)) (fun x15 _ => nx - (intOf x15).toNat)
 case atStart => exact ⟨0, rfl, Nat.zero_le _, (E.out.trans EY.out), (BX0.out.up EY.out), (BX1.out.up EY.out), (V13.out.up EY.out), (Q12.out.up EY.out), by rw [M.fillY_zero]; exact OWN.out⟩
 case round =>
  clear E EY BX0 BX1 BX2 V12 V13 Q12 OWN
  obtain ⟨i, rfl, hr0, hr1, hr2, hr3, hr4, hr5, hr6⟩ := hrel
  have E := hid hr1
  have BX0 := hid hr2
  have BX1 := hid hr3
  have V13 := hid hr4
  have Q12 := hid hr5
  have OWN := hid hr6
  clear hr1 hr2 hr3 hr4 hr5 hr6
  have EY := hid (Ext.refl wr)
  have hi9 := hr0
  by_cases hlt : i < nx
  ·have hlt' : decide ((i : Int) < (nx : Int)) = true := decide_eq_true (by omega)
   obtain ⟨x, hx⟩ : ∃ x, lx[i]? = some x := ⟨_, List.getElem?_eq_getElem (by rw [← HPCx.out.1]; exact hlt)⟩
   obtain ⟨ap, Az, nz, cz, rfl, ja, jb, jz⟩ := HPx.out.get hx
   obtain ⟨gz, lz⟩ := x
   have HX := hid hx
   have JA := hid ja
   have JB := hid jb
   have JZ := hid (jz.up E.out)
   have him : i < mm := by omega
   clear hx ja jb jz
   go_upto_region 11 with (fail)
   refine wp_region_S [(0, 0), (1, 0), (2, 0), (3, 0)] fun wd hb => ?_
   replace EY := hid (EY.out.trans hb)
   clear hb
   refine WE.pp 87 (.int .i64 (i : Int)) ?_
   refine WE.pp 88 (.slice (some ap) nx cx) ?_
   refine WE.pp 89 (.int .i64 (nx : Int)) ?_
   refine WE.pp 90 (.bool true) ?_
   simp only [Act.put, pA, pB, pC]
   refine WE.done ?_
   go_upto_region 13 with (fail)
   refine wp_region_S [(0, 0), (1, 0), (2, 0), (3, 0), (4, 0), (5, 0), (6, 0), (7, 4)] fun wd hb => ?_
   replace EY := hid (EY.out.trans hb)
   clear hb
   refine WE.pp 93 (.slice (some ⟨gY, 0, none⟩) mm mm) ?_
   refine WE.pp 94 (.int .i64 (i : Int)) ?_
   refine WE.pp 95 (.slice (some ap) nx cx) ?_
   refine WE.pp 96 (.int .i64 (i : Int)) ?_
   refine WE.pp 97 (.pointer (some (ap.add (i * 2)))) ?_
   refine WE.qq 98 (.agg #[.bool gz, .slice Az nz cz]) rfl (fun w' hk => by have ce0 : w'.cell? (ap.add (i * 2)) = some (.bool gz) := (JA.out.up (E.out.trans EY.out)).up hk; have ce1 : w'.cell? ⟨(ap.add (i * 2)).block, (ap.add (i * 2)).off + 1, none⟩ = some (.slice Az nz cz) := (JB.out.up (E.out.trans EY.out)).up hk; go_simp) ?_
   simp only [Act.put, pA, pB, pC]
   refine WE.pp 99 (.pointer (some ⟨gY, i * 2, none⟩)) ?_
   simp only [Act.put, pA, pB, pC]
   obtain ⟨b0, A0, n0, c0, ce0, ce1, f0, f1, hk, hs, ho⟩ := ((OWN.out.up EY.out)).setJ (i := i) (b := gz) (by omega) (JZ.out.up EY.out)
   refine WE.store (w' := _) rfl rfl (by rfl) ?he (show _ ≤ _ from hk.1.size) ?_
   case he => go_simp
   replace E := hid ((E.out.trans EY.out).keptG hk HWY.out)
   replace BX0 := hid ((BX0.out.up EY.out).kept hk (by have := HNYBX0.out; simp; omega))
   replace BX1 := hid ((BX1.out.up EY.out).kept hk (by have := HNYBX1.out; simp; omega))
   replace V13 := hid ((V13.out.up EY.out).kept hk (by have := HNYV13.out; simp; omega))
   replace Q12 := hid ((Q12.out.up EY.out).kz hs)
   replace OWN := hid ho
   clear ce0 ce1 f0 f1 hk hs ho EY
   have EY := hid (Ext.same E.out)
   refine WE.done ?_
   go_wp2
   go_roundw
   case rel => exact ⟨i + 1, by go_num, by omega, (E.out.trans EY.out), (BX0.out.up EY.out), (BX1.out.up EY.out), (V13.out.up EY.out), (Q12.out.up EY.out), by rw [← M.fillY_set HX.out him]; exact (OWN.out.up EY.out)⟩
   case measure => simp [intOf]; all_goals omega
  ·obtain rfl : i = nx := by omega
   have hlt' : decide ((i : Int) < (i : Int)) = false := by simp
   go_upto_region 11 with (fail)
   refine wp_region_S [(0, 0), (1, 0), (2, 0), (3, 0)] fun wd hb => ?_
   replace EY := hid (EY.out.trans hb)
   clear hb
   refine WE.pp 87 (.int .i64 (i : Int)) ?_
   refine WE.pp 88 (.slice Ax i cx) ?_
   refine WE.pp 89 (.int .i64 (i : Int)) ?_
   refine WE.pp 90 (.bool false) ?_
   simp only [Act.put, pA, pB, pC]
   refine WE.done ?_
   go_upto_region 14 with (fail)
   refine wp_region_S [(0, 0), (1, 0), (2, 0), (3, 0), (4, 4)] fun wd hb => ?_
   replace EY := hid (EY.out.trans hb)
   clear hb
   refine WE.pp 100 (.slice (some ⟨gY, 0, none⟩) mm mm) ?_
   refine WE.pp 101 (.int .i64 (k : Int)) ?_
   refine WE.qq 102 (.agg #[.bool g12, .slice A12 n12 c12]) rfl (fun w' hk => by obtain ⟨ce0, ce1⟩ := ((V13.out.up EY.out).up hk).c2; go_simp) ?_
   refine WE.pp 103 (.pointer (some ⟨gY, k * 2, none⟩)) ?_
   simp only [Act.put, pA, pB, pC]
   obtain ⟨b0, A0, n0, c0, ce0, ce1, f0, f1, hk, hs, ho⟩ := ((OWN.out.up EY.out)).setJ (i := k) (b := g12) (by omega) (Q12.out.up EY.out).fields.2.1
   refine WE.store (w' := _) rfl rfl (by rfl) ?he (show _ ≤ _ from hk.1.size) ?_
   case he => go_simp
   replace E := hid ((E.out.trans EY.out).keptG hk HWY.out)
   replace BX0 := hid ((BX0.out.up EY.out).kept hk (by have := HNYBX0.out; simp; omega))
   replace BX1 := hid ((BX1.out.up EY.out).kept hk (by have := HNYBX1.out; simp; omega))
   replace Q12 := hid ((Q12.out.up EY.out).kz hs)
   replace OWN := hid ho
   clear ce0 ce1 f0 f1 hk hs ho EY
   have EY := hid (Ext.same E.out)
   refine WE.done ?_
   have HQF := hid Q12.out.fields
   have HYW := hid (show ∀ x ∈ ((M.fillY lx i mm).set k (g12, M.limbs (μ + M.atT (M.valAt lx) s).natAbs)), x.2.length ≤ 17 from fun x hx => by rcases List.mem_or_eq_of_mem_set hx with hx | rfl; (unfold M.fillY at hx; rcases List.mem_append.1 hx with hx | hx; exact Nat.le_trans (HPSx.out.1 x (List.mem_of_mem_take hx)) (by decide); rw [List.mem_replicate] at hx; rw [hx.2]; exact Nat.zero_le _); exact HQF.out.2.2)
   have HVA := hid (show ∀ v, 0 ≤ v → M.valAt ((M.fillY lx i mm).set k (g12, M.limbs (μ + M.atT (M.valAt lx) s).natAbs)) v = if v = (k : Int) then μ + M.atT (M.valAt lx) s else M.valAt lx v from fun v hv => by rw [M.valAt_set (by rw [M.fillY_len (by have := HPCx.out.1; omega) (by omega)]; omega) _ _ hv]; split; (rw [HQF.out.1]; exact M.zv_of _); (rw [HPCx.out.1]; exact M.valAt_fill lx (by have := HPCx.out.1; omega) v))
   go_upto_region 15 with (fail)
   refine wp_region_S [(0, 0), (1, 0), (2, 0), (3, 1), (4, 1), (5, 4)] fun wd hb => ?_
   replace EY := hid (EY.out.trans hb)
   clear hb
   refine WE.qq 104 (.agg #[.slice Aa na ca, .bool ga, .slice Ba ma da]) rfl (fun w' hk => by obtain ⟨ce0, ce1, ce2⟩ := ((BX0.out.up EY.out).up hk).c3; go_simp) ?_
   refine WE.pp 105 (.int .i64 (k : Int)) ?_
   refine WE.qq 106 (.agg #[.slice Ab nb cb, .bool gb, .slice Bb mb db]) rfl (fun w' hk => by obtain ⟨ce0, ce1, ce2⟩ := ((BX1.out.up EY.out).up hk).c3; go_simp) ?_
   refine WE.cc 107 ((putL_l (WorthL.wide (HAa.out.up (E.out.trans EY.out)) (U := 4) (by omega)) (WorthL.wide (HAb.out.up (E.out.trans EY.out)) (U := 4) (by omega)) (by omega) (Nat.le_trans NAa.out (by decide)) (Nat.le_trans NAb.out (by decide)) (v := (k : Int))).mono ?_)
   rintro e wn ⟨v1, rfl, x1, hb⟩
   obtain ⟨A22, n22, c22, g22, B22, m22, d22, rfl⟩ := x1.shape
   refine ⟨_, rfl, hb, ?_⟩
   replace EY := hid (EY.out.trans hb)
   have S22 := hid x1
   clear hb x1
   simp only [Act.put, pA, pB, pC]
   refine WE.new (d := some 16) (cs := #[.slice none 0 0, .bool false, .slice none 0 0]) (t := 27) (v := fun g => (.pointer (some ⟨g, 0, none⟩))) rfl rfl (by rfl) (fun w => by go_simp) fun gV16 wv hx0 hbox hge => ?_
   have HNV16BX0 := hid (show gV16 ≠ (W.heap.size) by have := (BX0.out.up EY.out).lt; omega)
   have HNV16BX1 := hid (show gV16 ≠ (W.heap.size + 1) by have := (BX1.out.up EY.out).lt; omega)
   have HGV16 := hid (show W.heap.size ≤ gV16 by have := (E.out.trans EY.out).size; omega)
   have HOOWNV16 := hid ((OWN.out.up EY.out).ne hge)
   replace EY := hid (EY.out.trans hx0)
   replace S22 := hid (S22.out.up hx0)
   have V16 : Hid (Box wv gV16 #[.slice none 0 0, .bool false, .slice none 0 0] 27) := hid hbox
   clear hx0 hbox hge
   simp only [Act.put, pA, pB, pC]
   refine WE.store3 (g := gV16) (x := .slice A22 n22 c22) (y := .bool g22) (z := .slice B22 m22 d22) (t := 27) rfl rfl (by rfl) (fun w hb => ?_) V16.out (by rfl) fun ws hk hs => ?_
   ·obtain ⟨ce0, ce1, ce2⟩ := hb.c3; obtain ⟨f0, f1, f2⟩ := hb.f3; go_simp
   intro hbx
   replace S22 := hid (S22.out.kb V16.out (by rfl) hk hs)
   replace OWN := hid ((OWN.out.up EY.out).keptF hk hs HOOWNV16.out)
   replace E := hid ((E.out.trans EY.out).keptG hk HGV16.out)
   replace BX0 := hid ((BX0.out.up EY.out).kept hk (by simpa using HNV16BX0.out.symm))
   replace BX1 := hid ((BX1.out.up EY.out).kept hk (by simpa using HNV16BX1.out.symm))
   replace V16 := hid hbx
   clear hk hs hbx
   replace EY := hid (Ext.refl ws)
   refine WE.done ?_
   obtain ⟨sg, hsg⟩ : ∃ g : Int, (M.coef t (k : Int)).sign = g := ⟨_, rfl⟩
   have HSG := hid hsg
   by_cases hcf : M.coef t (k : Int) = 0
   ·have HCF := hid hcf
    have hsd : (sg != 0) = false := by rw [← hsg]; rw [hcf]; rfl
    clear hsg hcf
    go_upto_region 16 with (fail)
    refine wp_region_D [(0, 0), (1, 0), (3, 0), (4, 0), (2, 1), (5, 1), (6, 1), (7, 0), (8, 0), (9, 1), (10, 0), (11, 0), (12, 0), (13, 0), (14, 1), (15, 1), (16, 0), (17, 0), (18, 0), (19, 0), (20, 1), (21, 1), (22, 0), (23, 0), (24, 0), (25, 0), (26, 1), (27, 0), (28, 0), (29, 0)] fun wd hb => ?_
    replace EY := hid (EY.out.trans hb)
    clear hb
    refine WE.qq 108 (.agg #[.slice A22 n22 c22, .bool g22, .slice B22 m22 d22]) rfl (fun w' hk => by obtain ⟨ce0, ce1, ce2⟩ := ((V16.out.up EY.out).up hk).c3; go_simp) ?_
    refine WE.pp 109 (.slice Ax i cx) ?_
    refine WE.qq 111 (.agg #[.slice Aa na ca, .bool ga, .slice Ba ma da]) rfl (fun w' hk => by obtain ⟨ce0, ce1, ce2⟩ := ((BX0.out.up EY.out).up hk).c3; go_simp) ?_
    refine WE.pp 112 (.slice (some ⟨gY, 0, none⟩) mm mm) ?_
    refine WE.cc 110 ((atL_l (WorthL.wide (S22.out.up EY.out).worth (U := 9) (by omega)) (hp := HPx.out.up (E.out.trans EY.out)) (fun x hx => Nat.le_trans (HPSx.out.1 x hx) (by decide)) (by omega) (Nat.le_trans (Nat.le_trans (M.putT_len _ _ _) (Nat.add_le_add NAa.out NAb.out)) (by decide))).mono ?_)
    rintro e wn ⟨v1, rfl, x1, hb⟩
    obtain ⟨g23, A23, n23, c23, rfl⟩ := x1.shape
    replace x1 := x1.wide (k := 35) (by have : (M.putT t (k : Int) s).length ≤ 16 := (Nat.le_trans (M.putT_len _ _ _) (Nat.add_le_add NAa.out NAb.out)); omega)
    refine ⟨_, rfl, hb, ?_⟩
    replace EY := hid (EY.out.trans hb)
    have Q23 := hid x1
    clear hb x1
    refine WE.cc 113 ((atL_l (WorthL.wide (HAa.out.up (E.out.trans EY.out)) (U := 17) (by omega)) (hp := (OWN.out.up EY.out).list) (fun x hx => Nat.le_trans (HYW.out x hx) (by decide)) (by omega) (Nat.le_trans NAa.out (by decide))).mono ?_)
    rintro e wn ⟨v1, rfl, x1, hb⟩
    obtain ⟨g24, A24, n24, c24, rfl⟩ := x1.shape
    replace x1 := x1.wide (k := 43) (by have : t.length ≤ 8 := NAa.out; omega)
    refine ⟨_, rfl, hb, ?_⟩
    replace EY := hid (EY.out.trans hb)
    replace Q23 := hid (Q23.out.up hb)
    have Q24 := hid x1
    clear hb x1
    simp only [Act.put, pA, pB, pC]
    refine WE.cc 114 ((rEqual_any Q23.out Q24.out (b := true) (decide_eq_true (M.at_put OA.out HVA.out))).mono ?_)
    rintro e wn ⟨rfl, hb⟩
    refine ⟨_, rfl, hb, ?_⟩
    replace EY := hid (EY.out.trans hb)
    replace Q23 := hid (Q23.out.up hb)
    replace Q24 := hid (Q24.out.up hb)
    clear hb
    refine WE.pp 115 (.bool true) ?_
    refine WE.qq 116 (.agg #[.slice A22 n22 c22, .bool g22, .slice B22 m22 d22]) rfl (fun w' hk => by obtain ⟨ce0, ce1, ce2⟩ := ((V16.out.up EY.out).up hk).c3; go_simp) ?_
    refine WE.cc 117 (((S22.out.up EY.out).is_yes).mono ?_)
    rintro e wn ⟨rfl, hb⟩
    refine ⟨_, rfl, hb, ?_⟩
    replace EY := hid (EY.out.trans hb)
    replace Q23 := hid (Q23.out.up hb)
    replace Q24 := hid (Q24.out.up hb)
    clear hb
    refine WE.pp 118 (.bool true) ?_
    refine WE.pp 119 (.bool true) ?_
    simp only [Act.put, pA, pB, pC]
    refine WE.qq 120 (.agg #[.slice Aa na ca, .bool ga, .slice Ba ma da]) rfl (fun w' hk => by obtain ⟨ce0, ce1, ce2⟩ := ((BX0.out.up EY.out).up hk).c3; go_simp) ?_
    refine WE.qq 121 (.agg #[.slice Ab nb cb, .bool gb, .slice Bb mb db]) rfl (fun w' hk => by obtain ⟨ce0, ce1, ce2⟩ := ((BX1.out.up EY.out).up hk).c3; go_simp) ?_
    refine WE.cc 122 ((addL_l (WorthL.wide (HAa.out.up (E.out.trans EY.out)) (U := 4) (by omega)) (WorthL.wide (HAb.out.up (E.out.trans EY.out)) (U := 4) (by omega)) (by omega) (Nat.le_trans NAa.out (by decide)) (Nat.le_trans NAb.out (by decide))).mono ?_)
    rintro e wn ⟨v1, rfl, x1, hb⟩
    obtain ⟨A25, n25, c25, g25, B25, m25, d25, rfl⟩ := x1.shape
    refine ⟨_, rfl, hb, ?_⟩
    replace EY := hid (EY.out.trans hb)
    replace Q23 := hid (Q23.out.up hb)
    replace Q24 := hid (Q24.out.up hb)
    have S25 := hid x1
    clear hb x1
    refine WE.cc 123 ((S25.out.is_yes).mono ?_)
    rintro e wn ⟨rfl, hb⟩
    refine ⟨_, rfl, hb, ?_⟩
    replace EY := hid (EY.out.trans hb)
    replace Q23 := hid (Q23.out.up hb)
    replace Q24 := hid (Q24.out.up hb)
    replace S25 := hid (S25.out.up hb)
    clear hb
    refine WE.pp 124 (.bool true) ?_
    refine WE.pp 125 (.bool true) ?_
    simp only [Act.put, pA, pB, pC]
    refine WE.qq 126 (.agg #[.slice Aa na ca, .bool ga, .slice Ba ma da]) rfl (fun w' hk => by obtain ⟨ce0, ce1, ce2⟩ := ((BX0.out.up EY.out).up hk).c3; go_simp) ?_
    refine WE.pp 127 (.int .i64 (k : Int)) ?_
    refine WE.cc 128 ((coefL_l (WorthL.wide (HAa.out.up (E.out.trans EY.out)) (U := 4) (by omega)) (Nat.le_trans NAa.out (by decide)) (by omega) (v := (k : Int))).mono ?_)
    rintro e wn ⟨v1, rfl, x1, hb⟩
    obtain ⟨g26, A26, n26, c26, rfl⟩ := x1.shape
    refine ⟨_, rfl, hb, ?_⟩
    replace EY := hid (EY.out.trans hb)
    replace Q23 := hid (Q23.out.up hb)
    replace Q24 := hid (Q24.out.up hb)
    replace S25 := hid (S25.out.up hb)
    have Q26 := hid x1
    clear hb x1
    refine WE.cc 129 ((rSign_w Q26.out.worth (s := sg) (HSG.out)).mono ?_)
    rintro e wn ⟨rfl, hb⟩
    refine ⟨_, rfl, hb, ?_⟩
    replace EY := hid (EY.out.trans hb)
    replace Q23 := hid (Q23.out.up hb)
    replace Q24 := hid (Q24.out.up hb)
    replace S25 := hid (S25.out.up hb)
    replace Q26 := hid (Q26.out.up hb)
    clear hb
    refine WE.pp 130 (.bool false) ?_
    refine WE.pp 131 (.bool false) ?_
    simp only [Act.put, pA, pB, pC]
    refine WE.qq 132 (.agg #[.slice A22 n22 c22, .bool g22, .slice B22 m22 d22]) rfl (fun w' hk => by obtain ⟨ce0, ce1, ce2⟩ := ((V16.out.up EY.out).up hk).c3; go_simp) ?_
    refine WE.qq 133 (.agg #[.slice Aa na ca, .bool ga, .slice Ba ma da]) rfl (fun w' hk => by obtain ⟨ce0, ce1, ce2⟩ := ((BX0.out.up EY.out).up hk).c3; go_simp) ?_
    refine WE.cc 134 ((sameL_l (WorthL.wide (S22.out.up EY.out).worth (U := 9) (by omega)) (WorthL.wide (HAa.out.up (E.out.trans EY.out)) (U := 9) (by omega)) (b := true) (decide_eq_true (⟨M.putT_none OA.out OB.out HCF.out, by rw [HCF.out, Int.mul_zero, Int.add_zero]⟩))).mono ?_)
    rintro e wn ⟨rfl, hb⟩
    refine ⟨_, rfl, hb, ?_⟩
    replace EY := hid (EY.out.trans hb)
    replace Q23 := hid (Q23.out.up hb)
    replace Q24 := hid (Q24.out.up hb)
    replace S25 := hid (S25.out.up hb)
    replace Q26 := hid (Q26.out.up hb)
    clear hb
    refine WE.pp 135 (.bool true) ?_
    refine WE.pp 136 (.bool true) ?_
    refine WE.pp 10 (.bool true) ?_
    simp only [Act.put, pA, pB, pC]
    refine WE.done ?_
    repeat go_step
    go_ret
    exact ⟨rfl, (E.out.trans EY.out)⟩
   ·have HCF := hid hcf
    have hsd : (sg != 0) = true := by rw [← hsg]; rw [bne_iff_ne]; exact fun e => hcf (Int.sign_eq_zero_iff_zero.1 e)
    clear hsg hcf
    go_upto_region 16 with (fail)
    refine wp_region_D [(0, 0), (1, 0), (3, 0), (4, 0), (2, 1), (5, 1), (6, 1), (7, 0), (8, 0), (9, 1), (10, 0), (11, 0), (12, 0), (13, 0), (14, 1), (15, 1), (16, 0), (17, 0), (18, 0), (19, 0), (20, 1), (21, 1), (22, 0), (23, 0), (24, 0), (25, 0), (26, 1), (27, 0), (28, 0), (29, 0)] fun wd hb => ?_
    replace EY := hid (EY.out.trans hb)
    clear hb
    refine WE.qq 108 (.agg #[.slice A22 n22 c22, .bool g22, .slice B22 m22 d22]) rfl (fun w' hk => by obtain ⟨ce0, ce1, ce2⟩ := ((V16.out.up EY.out).up hk).c3; go_simp) ?_
    refine WE.pp 109 (.slice Ax i cx) ?_
    refine WE.qq 111 (.agg #[.slice Aa na ca, .bool ga, .slice Ba ma da]) rfl (fun w' hk => by obtain ⟨ce0, ce1, ce2⟩ := ((BX0.out.up EY.out).up hk).c3; go_simp) ?_
    refine WE.pp 112 (.slice (some ⟨gY, 0, none⟩) mm mm) ?_
    refine WE.cc 110 ((atL_l (WorthL.wide (S22.out.up EY.out).worth (U := 9) (by omega)) (hp := HPx.out.up (E.out.trans EY.out)) (fun x hx => Nat.le_trans (HPSx.out.1 x hx) (by decide)) (by omega) (Nat.le_trans (Nat.le_trans (M.putT_len _ _ _) (Nat.add_le_add NAa.out NAb.out)) (by decide))).mono ?_)
    rintro e wn ⟨v1, rfl, x1, hb⟩
    obtain ⟨g23, A23, n23, c23, rfl⟩ := x1.shape
    replace x1 := x1.wide (k := 35) (by have : (M.putT t (k : Int) s).length ≤ 16 := (Nat.le_trans (M.putT_len _ _ _) (Nat.add_le_add NAa.out NAb.out)); omega)
    refine ⟨_, rfl, hb, ?_⟩
    replace EY := hid (EY.out.trans hb)
    have Q23 := hid x1
    clear hb x1
    refine WE.cc 113 ((atL_l (WorthL.wide (HAa.out.up (E.out.trans EY.out)) (U := 17) (by omega)) (hp := (OWN.out.up EY.out).list) (fun x hx => Nat.le_trans (HYW.out x hx) (by decide)) (by omega) (Nat.le_trans NAa.out (by decide))).mono ?_)
    rintro e wn ⟨v1, rfl, x1, hb⟩
    obtain ⟨g24, A24, n24, c24, rfl⟩ := x1.shape
    replace x1 := x1.wide (k := 43) (by have : t.length ≤ 8 := NAa.out; omega)
    refine ⟨_, rfl, hb, ?_⟩
    replace EY := hid (EY.out.trans hb)
    replace Q23 := hid (Q23.out.up hb)
    have Q24 := hid x1
    clear hb x1
    simp only [Act.put, pA, pB, pC]
    refine WE.cc 114 ((rEqual_any Q23.out Q24.out (b := true) (decide_eq_true (M.at_put OA.out HVA.out))).mono ?_)
    rintro e wn ⟨rfl, hb⟩
    refine ⟨_, rfl, hb, ?_⟩
    replace EY := hid (EY.out.trans hb)
    clear hb
    refine WE.pp 115 (.bool true) ?_
    refine WE.qq 116 (.agg #[.slice A22 n22 c22, .bool g22, .slice B22 m22 d22]) rfl (fun w' hk => by obtain ⟨ce0, ce1, ce2⟩ := ((V16.out.up EY.out).up hk).c3; go_simp) ?_
    refine WE.cc 117 (((S22.out.up EY.out).is_yes).mono ?_)
    rintro e wn ⟨rfl, hb⟩
    refine ⟨_, rfl, hb, ?_⟩
    replace EY := hid (EY.out.trans hb)
    clear hb
    refine WE.pp 118 (.bool true) ?_
    refine WE.pp 119 (.bool true) ?_
    simp only [Act.put, pA, pB, pC]
    refine WE.qq 120 (.agg #[.slice Aa na ca, .bool ga, .slice Ba ma da]) rfl (fun w' hk => by obtain ⟨ce0, ce1, ce2⟩ := ((BX0.out.up EY.out).up hk).c3; go_simp) ?_
    refine WE.qq 121 (.agg #[.slice Ab nb cb, .bool gb, .slice Bb mb db]) rfl (fun w' hk => by obtain ⟨ce0, ce1, ce2⟩ := ((BX1.out.up EY.out).up hk).c3; go_simp) ?_
    refine WE.cc 122 ((addL_l (WorthL.wide (HAa.out.up (E.out.trans EY.out)) (U := 4) (by omega)) (WorthL.wide (HAb.out.up (E.out.trans EY.out)) (U := 4) (by omega)) (by omega) (Nat.le_trans NAa.out (by decide)) (Nat.le_trans NAb.out (by decide))).mono ?_)
    rintro e wn ⟨v1, rfl, x1, hb⟩
    obtain ⟨A25, n25, c25, g25, B25, m25, d25, rfl⟩ := x1.shape
    refine ⟨_, rfl, hb, ?_⟩
    replace EY := hid (EY.out.trans hb)
    have S25 := hid x1
    clear hb x1
    refine WE.cc 123 ((S25.out.is_yes).mono ?_)
    rintro e wn ⟨rfl, hb⟩
    refine ⟨_, rfl, hb, ?_⟩
    replace EY := hid (EY.out.trans hb)
    clear hb
    refine WE.pp 124 (.bool true) ?_
    refine WE.pp 125 (.bool true) ?_
    simp only [Act.put, pA, pB, pC]
    refine WE.qq 126 (.agg #[.slice Aa na ca, .bool ga, .slice Ba ma da]) rfl (fun w' hk => by obtain ⟨ce0, ce1, ce2⟩ := ((BX0.out.up EY.out).up hk).c3; go_simp) ?_
    refine WE.pp 127 (.int .i64 (k : Int)) ?_
    refine WE.cc 128 ((coefL_l (WorthL.wide (HAa.out.up (E.out.trans EY.out)) (U := 4) (by omega)) (Nat.le_trans NAa.out (by decide)) (by omega) (v := (k : Int))).mono ?_)
    rintro e wn ⟨v1, rfl, x1, hb⟩
    obtain ⟨g26, A26, n26, c26, rfl⟩ := x1.shape
    refine ⟨_, rfl, hb, ?_⟩
    replace EY := hid (EY.out.trans hb)
    have Q26 := hid x1
    clear hb x1
    refine WE.cc 129 ((rSign_w Q26.out.worth (s := sg) (HSG.out)).mono ?_)
    rintro e wn ⟨rfl, hb⟩
    refine ⟨_, rfl, hb, ?_⟩
    replace EY := hid (EY.out.trans hb)
    clear hb
    refine WE.pp 130 (.bool true) ?_
    refine WE.pp 131 (.bool true) ?_
    simp only [Act.put, pA, pB, pC]
    refine WE.ss 132 ?_
    refine WE.ss 133 ?_
    refine WE.tt 134 ?_
    refine WE.pp 135 (.bool true) ?_
    refine WE.pp 136 (.bool true) ?_
    refine WE.pp 10 (.bool true) ?_
    simp only [Act.put, pA, pB, pC]
    refine WE.done ?_
    repeat go_step
    go_ret
    exact ⟨rfl, (E.out.trans EY.out)⟩

theorem linValues_walk (W : World) (Aa : Option Addr) (na ca : Nat) (la : List (Int × Bool × List Nat)) (ga : Bool) (Ba : Option Addr) (ma da : Nat) (ka : List Nat) (ha : LList W (.slice Aa na ca) la) (ia : Num W W.heap.size (.slice Ba ma da) ka) (Ab : Option Addr) (nb cb : Nat) (lb : List (Int × Bool × List Nat)) (gb : Bool) (Bb : Option Addr) (mb db : Nat) (kb : List Nat) (hb : LList W (.slice Ab nb cb) lb) (ib : Num W W.heap.size (.slice Bb mb db) kb) (gc : Bool) (Ac : Option Addr) (nc cc : Nat) (lc : List Nat) (hc : Num W W.heap.size (.slice Ac nc cc) lc) (v : Int) (hv : 0 ≤ v ∧ v ≤ 255) (Ax : Option Addr) (nx cx : Nat) (lx : List (Bool × List Nat)) (hx : ZList W (.slice Ax nx cx) lx) :
 Calls Tryz.prog 4 #[.agg #[.slice Aa na ca, .bool ga, .slice Ba ma da], .agg #[.slice Ab nb cb, .bool gb, .slice Bb mb db], .agg #[.bool gc, .slice Ac nc cc], .int .u8 v, .slice Ax nx cx] W (fun e w' => e = .returned (.bool true) ∧ Ext W w') := by
 rcases fa : (M.fewL la ka) with _ | _
 ·exact linValues_skip0 W Aa na ca la ga Ba ma da ka ha ia Ab nb cb lb gb Bb mb db kb hb ib gc Ac nc cc lc hc v hv Ax nx cx lx hx (hid fa)
 rcases fb : (M.fewL lb kb) with _ | _
 ·exact linValues_skip1 W Aa na ca la ga Ba ma da ka ha ia Ab nb cb lb gb Bb mb db kb hb ib gc Ac nc cc lc hc v hv Ax nx cx lx hx (hid fa) (hid fb)
 rcases fc : ((!decide ((4 : Int) < (nc : Int)))) with _ | _
 ·exact linValues_skip2 W Aa na ca la ga Ba ma da ka ha ia Ab nb cb lb gb Bb mb db kb hb ib gc Ac nc cc lc hc v hv Ax nx cx lx hx (hid fa) (hid fb) (hid fc)
 rcases fx : (M.fewP lx) with _ | _
 ·exact linValues_skip3 W Aa na ca la ga Ba ma da ka ha ia Ab nb cb lb gb Bb mb db kb hb ib gc Ac nc cc lc hc v hv Ax nx cx lx hx (hid fa) (hid fb) (hid fc) (hid fx)
 have e := Int.ofNat_tmod v.toNat 12
 rw [show ((v.toNat : Nat) : Int) = v by omega] at e
 exact linValues_main W Aa na ca la ga Ba ma da ka ha ia Ab nb cb lb gb Bb mb db kb hb ib gc Ac nc cc lc hc v hv Ax nx cx lx hx (hid fa) (hid fb) (hid fc) (hid fx) _ (hid e.symm) (hid (Nat.mod_lt _ (by decide)))

set_option maxRecDepth 100000 in
theorem linValues_lifted (os : Os) (started : os.Started) (H : Type) (enc : TypeId × Value → H) :
 ReturnsInHanded {} Tryz.checked os 4 .any (Rows.linValuesSpec.pre6 enc Tryz.prog Tryz.f4 Rows.linValuesRow.domain false) (Rows.linValuesSpec.post enc Tryz.prog Tryz.f4 false true false false) := by
 refine returnsInHanded_of_change (C := Tryz.checked) own started (by kernel_rfl) Tryz.func4
  (ChangeSpec.witness6 (enc := enc) (C := Tryz.checked) false ⟨#[], #[.agg #[.slice none 0 0, .bool false, .slice none 0 0], .agg #[.slice none 0 0, .bool false, .slice none 0 0], .agg #[.bool false, .slice none 0 0], .int .u8 0, .slice none 0 0], []⟩ 8 (by kernel_rfl) (by kernel_rfl) (by kernel_rfl) (by kernel_rfl)) ?_
 intro W base args ds gs before hval0 hW _ _
 have hval : ∀ (j : Nat) t v, Tryz.f4.params[j]? = some t → args[j]? = some v → Value.okWide Tryz.prog W .any base t v := hval0
 have hW' := hW
 obtain ⟨p, q, hA0, hV, rfl, hfz, hnd⟩ := hW
 have hA : DataW.TrodAll enc Tryz.prog W 0 (fun _ => true) true Tryz.f4.params.toList args.toList ds p := hA0
 rw [Tryz.params4] at hA hval
 obtain ⟨v0, vs0, d0, ds0, p0, q0, hargs, rfl, rfl, h0, r0⟩ := trodAll_cons hA
 obtain ⟨v1, vs1, d1, ds1, p1, q1, rfl, rfl, rfl, h1, r1⟩ := trodAll_cons r0
 obtain ⟨v2, vs2, d2, ds2, p2, q2, rfl, rfl, rfl, h2, r2⟩ := trodAll_cons r1
 obtain ⟨v3, vs3, d3, ds3, p3, q3, rfl, rfl, rfl, h3, r3⟩ := trodAll_cons r2
 obtain ⟨v4, vs4, d4, ds4, p4, q4, rfl, rfl, rfl, h4, r4⟩ := trodAll_cons r3
 obtain ⟨rfl, rfl, rfl⟩ := trodAll_nil r4
 obtain rfl : args = #[v0, v1, v2, v3, v4] := by cases args; simp_all
 obtain ⟨rfl, rfl⟩ := trodVars_none hV
 obtain ⟨A0, n0, c0, l0, g0, B0, m0, q0, t0, rfl, e0, f0⟩ := open_L (hval 0 27 _ rfl rfl) h0
 obtain ⟨A1, n1, c1, l1, g1, B1, m1, q1, t1, rfl, e1, f1⟩ := open_L (hval 1 27 _ rfl rfl) h1
 obtain ⟨g2, A2, n2, c2, l2, rfl, e2⟩ := open_Z (hval 2 25 _ rfl rfl) h2
 obtain ⟨a3, rfl, -, -, w3⟩ := open_int Tryz.underlying5 (hval 3 5 v3 rfl rfl) h3
 obtain ⟨A4, n4, c4, l4, rfl, e4⟩ := open_ZL (hval 4 28 _ rfl rfl) h4
 clear hA0 hval0
 refine (linValues_walk W A0 n0 c0 l0 g0 B0 m0 q0 t0 e0 f0 A1 n1 c1 l1 g1 B1 m1 q1 t1 e1 f1 g2 A2 n2 c2 l2 e2 a3 (u8_of_wf w3) A4 n4 c4 l4 e4).mono fun e W' ⟨he, hg⟩ => ?_
 subst he
 exact ⟨_, rfl, law_post hW' rfl rfl (by kernel_rfl) (by kernel_rfl) hg⟩

theorem linValues_over : Rows.linValuesRow.holds Tryz.pinned (OpenSpec.ofChange Rows.linValuesSpec) :=
 OpenClaim.holds_of_wide 4 Tryz.f4 rfl rfl rfl rfl rfl rfl rfl ⟨rfl, rfl, rfl, rfl, rfl⟩ rfl rfl rfl rfl rfl (by kernel_rfl) Tryz.func4 (by kernel_rfl)
  (of_decide_eq_true (by kernel_rfl)) (by unfold Func.isWrapper; first | (rw [if_pos (by decide +kernel)]; kernel_rfl) | (rw [if_neg (by decide +kernel)]; exact ⟨rfl, rfl⟩))
  (fun os started H enc _ => linValues_lifted os started H enc)

theorem linValues_proved : Rows.LinValuesSaid := linValues_over

end Go.Proofs.YtklmnmkmpkobhaaGreat
