/-
  BelowSame: whatever form (or what is none), whatever point: true. No conditions.
-/
import Derived.Test.YtklmnmkmpkobhaaGreatBKnown
namespace Go.Proofs.YtklmnmkmpkobhaaGreat
open Go.ChangeShapes Go.WideShapes Go.ChangeAt Go.RowKit
set_option linter.unusedSimpArgs false
set_option linter.unusedVariables false

theorem M.nC_is_yes {t : M.Tm} {κ : Int} (h : M.nC t κ = 2) : t = [] ∧ κ ≤ 0 := by
 unfold M.nC at h
 split at h
 ·next e => split at h; exact ⟨e, by assumption⟩; omega
 ·omega
theorem M.nC_is_no {t : M.Tm} {κ : Int} (h : M.nC t κ = 3) : t = [] ∧ ¬ κ ≤ 0 := by
 unfold M.nC at h
 split at h
 ·next e => split at h; omega; exact ⟨e, by assumption⟩
 ·omega
theorem M.nC_cases (t : M.Tm) (κ : Int) : M.nC t κ = 1 ∨ M.nC t κ = 2 ∨ M.nC t κ = 3 := by
 unfold M.nC
 split
 ·split; exact .inr (.inl rfl); exact .inr (.inr rfl)
 ·exact .inl rfl

set_option maxRecDepth 100000 in
set_option maxHeartbeats 2000000 in
theorem belowSame_skip0 (W : World) (Aa : Option Addr) (na ca : Nat) (la : List (Int × Bool × List Nat)) (ga : Bool) (Ba : Option Addr) (ma da : Nat) (ka : List Nat) (ha : LList W (.slice Aa na ca) la) (ia : Num W W.heap.size (.slice Ba ma da) ka) (Ax : Option Addr) (nx cx : Nat) (lx : List (Bool × List Nat)) (hx : ZList W (.slice Ax nx cx) lx) (fa : Hid (M.fewL la ka = false)) :
 Calls Tryz.prog 6 #[.agg #[.slice Aa na ca, .bool ga, .slice Ba ma da], .slice Ax nx cx] W (fun e w' => e = .returned (.bool true) ∧ Ext W w') := by
 have HLa := hid ha
 have HKa := hid ia
 clear ha ia
 have HPCx := hid hx.count
 have hb9x : nx ≤ 9223372036854775807 := hx.count.2.2
 clear hx
 go_enter Tryz.func6, Tryz.ntmps6
 go_upto_region 1 with (fail)
 obtain ⟨E, BX0⟩ := open1 W #[.slice Aa na ca, .bool ga, .slice Ba ma da] 27
 refine wp_region_S [(0, 1), (1, 0)] fun wd hb => ?_
 replace E := hid (E.out.trans hb)
 replace BX0 := hid (BX0.out.up hb)
 clear hb
 have EY := hid (Ext.refl wd)
 refine WE.cc 10 ((known7 _).mono ?_)
 rintro e wn ⟨rfl, hb⟩
 refine ⟨_, rfl, hb, ?_⟩
 replace EY := hid (EY.out.trans hb)
 clear hb
 refine WE.pp 11 (.bool false) ?_
 simp only [Act.put, pA, pB, pC]
 refine WE.done ?_
 go_upto_region 3 with (fail)
 refine wp_region_S [(0, 0), (1, 1), (2, 0), (3, 0), (4, 0), (5, 1), (6, 0), (7, 0)] fun wd hb => ?_
 replace EY := hid (EY.out.trans hb)
 clear hb
 refine WE.qq 12 (.agg #[.slice Aa na ca, .bool ga, .slice Ba ma da]) rfl (fun w' hk => by obtain ⟨ce0, ce1, ce2⟩ := ((BX0.out.up EY.out).up hk).c3; go_simp) ?_
 refine WE.cc 13 ((fewL7_any (g1 := ga) (HLa.out.up (E.out.trans EY.out)) (HKa.out.up (E.out.trans EY.out)) fa.out).mono ?_)
 rintro e wn ⟨rfl, hb⟩
 refine ⟨_, rfl, hb, ?_⟩
 replace EY := hid (EY.out.trans hb)
 clear hb
 refine WE.pp 14 (.bool true) ?_
 refine WE.pp 15 (.bool true) ?_
 refine WE.ss 16 ?_
 refine WE.tt 17 ?_
 simp only [Act.put, pA, pB, pC]
 refine WE.ss 18 ?_
 refine WE.pp 19 (.bool true) ?_
 simp only [Act.put, pA, pB, pC]
 refine WE.done ?_
 go_upto_region 4 with (fail)
 refine wp_region_S [(0, 0)] fun wd hb => ?_
 replace EY := hid (EY.out.trans hb)
 clear hb
 refine WE.pp 4 (.bool true) ?_
 simp only [Act.put, pA, pB, pC]
 refine WE.done ?_
 repeat go_step
 go_ret
 exact ⟨rfl, (E.out.trans EY.out)⟩

set_option maxRecDepth 100000 in
set_option maxHeartbeats 2000000 in
theorem belowSame_skip1 (W : World) (Aa : Option Addr) (na ca : Nat) (la : List (Int × Bool × List Nat)) (ga : Bool) (Ba : Option Addr) (ma da : Nat) (ka : List Nat) (ha : LList W (.slice Aa na ca) la) (ia : Num W W.heap.size (.slice Ba ma da) ka) (Ax : Option Addr) (nx cx : Nat) (lx : List (Bool × List Nat)) (hx : ZList W (.slice Ax nx cx) lx) (fa : Hid (M.fewL la ka = true)) (fx : Hid (M.fewP lx = false)) :
 Calls Tryz.prog 6 #[.agg #[.slice Aa na ca, .bool ga, .slice Ba ma da], .slice Ax nx cx] W (fun e w' => e = .returned (.bool true) ∧ Ext W w') := by
 have HLa := hid ha
 have HKa := hid ia
 clear ha ia
 have HPx := hid hx
 have HPCx := hid hx.count
 have hb9x : nx ≤ 9223372036854775807 := hx.count.2.2
 clear hx
 go_enter Tryz.func6, Tryz.ntmps6
 go_upto_region 1 with (fail)
 obtain ⟨E, BX0⟩ := open1 W #[.slice Aa na ca, .bool ga, .slice Ba ma da] 27
 refine wp_region_S [(0, 1), (1, 0)] fun wd hb => ?_
 replace E := hid (E.out.trans hb)
 replace BX0 := hid (BX0.out.up hb)
 clear hb
 have EY := hid (Ext.refl wd)
 refine WE.cc 10 ((known7 _).mono ?_)
 rintro e wn ⟨rfl, hb⟩
 refine ⟨_, rfl, hb, ?_⟩
 replace EY := hid (EY.out.trans hb)
 clear hb
 refine WE.pp 11 (.bool false) ?_
 simp only [Act.put, pA, pB, pC]
 refine WE.done ?_
 go_upto_region 3 with (fail)
 refine wp_region_S [(0, 0), (1, 1), (2, 0), (3, 0), (4, 0), (5, 1), (6, 0), (7, 0)] fun wd hb => ?_
 replace EY := hid (EY.out.trans hb)
 clear hb
 refine WE.qq 12 (.agg #[.slice Aa na ca, .bool ga, .slice Ba ma da]) rfl (fun w' hk => by obtain ⟨ce0, ce1, ce2⟩ := ((BX0.out.up EY.out).up hk).c3; go_simp) ?_
 refine WE.cc 13 ((fewL7_any (g1 := ga) (HLa.out.up (E.out.trans EY.out)) (HKa.out.up (E.out.trans EY.out)) fa.out).mono ?_)
 rintro e wn ⟨rfl, hb⟩
 refine ⟨_, rfl, hb, ?_⟩
 replace EY := hid (EY.out.trans hb)
 clear hb
 refine WE.pp 14 (.bool false) ?_
 refine WE.pp 15 (.bool false) ?_
 refine WE.pp 16 (.slice Ax nx cx) ?_
 refine WE.cc 17 ((fewP7_any (HPx.out.up (E.out.trans EY.out)) fx.out).mono ?_)
 rintro e wn ⟨rfl, hb⟩
 refine ⟨_, rfl, hb, ?_⟩
 replace EY := hid (EY.out.trans hb)
 clear hb
 simp only [Act.put, pA, pB, pC]
 refine WE.pp 18 (.bool true) ?_
 refine WE.pp 19 (.bool true) ?_
 simp only [Act.put, pA, pB, pC]
 refine WE.done ?_
 go_upto_region 4 with (fail)
 refine wp_region_S [(0, 0)] fun wd hb => ?_
 replace EY := hid (EY.out.trans hb)
 clear hb
 refine WE.pp 4 (.bool true) ?_
 simp only [Act.put, pA, pB, pC]
 refine WE.done ?_
 repeat go_step
 go_ret
 exact ⟨rfl, (E.out.trans EY.out)⟩

set_option maxRecDepth 100000 in
set_option maxHeartbeats 16000000 in
theorem belowSame_open (W : World) (Aa : Option Addr) (na ca : Nat) (la : List (Int × Bool × List Nat)) (ga : Bool) (Ba : Option Addr) (ma da : Nat) (ka : List Nat) (ha : LList W (.slice Aa na ca) la) (ia : Num W W.heap.size (.slice Ba ma da) ka) (Ax : Option Addr) (nx cx : Nat) (lx : List (Bool × List Nat)) (hx : ZList W (.slice Ax nx cx) lx) (fa : Hid (M.fewL la ka = true)) (fx : Hid (M.fewP lx = true)) (hcls : Hid (M.nC (M.ft la ga ka) (M.fk la ga ka) = 1)) :
 Calls Tryz.prog 6 #[.agg #[.slice Aa na ca, .bool ga, .slice Ba ma da], .slice Ax nx cx] W (fun e w' => e = .returned (.bool true) ∧ Ext W w') := by
 have HLa := hid ha
 have HKa := hid ia
 obtain ⟨qa, qb, qc⟩ := M.fewL_parts fa.out
 obtain ⟨t, hta⟩ : ∃ t, t = M.ft la ga ka := ⟨_, rfl⟩
 obtain ⟨κ, hka⟩ : ∃ k, k = M.fk la ga ka := ⟨_, rfl⟩
 have HAa := hid (worthL_of ha ia qa qc hta hka)
 have NAa := hid (show t.length ≤ 8 by rw [hta]; exact Nat.le_trans (M.ft_len _ _ _) qb)
 clear qa qb qc
 clear ha ia
 have HPx := hid hx
 have HPCx := hid hx.count
 have hb9x : nx ≤ 9223372036854775807 := hx.count.2.2
 have HPSx := hid (M.fewP_parts fx.out)
 clear hx
 obtain ⟨b, hbv⟩ : ∃ b : Bool, decide (κ + M.atT (M.valAt lx) t ≤ 0) = b := ⟨_, rfl⟩
 have OA := hid (show M.okT (-1) t from HAa.out.okB)
 have HC := hid (show M.nC t κ = 1 by rw [hta, hka]; exact hcls.out)
 clear hta hka
 have HB := hid hbv
 clear hbv
 have HNB := hid (show decide (1 + κ * -1 + M.atT (M.valAt lx) (M.scaleT t (-1)) ≤ 0) = !b by rw [← HB.out, ← decide_not, decide_eq_decide]; exact M.not_holds _ _ _)
 have HNN := hid (show decide (M.nK t κ + M.atT (M.valAt lx) (M.nT t) ≤ 0) = b by rw [← HB.out, decide_eq_decide]; exact M.norm_holds _ OA.out _)
 have hbb : (b == b) = true := by simp
 have hnb : ((!b) != b) = true := by cases b <;> rfl
 go_enter Tryz.func6, Tryz.ntmps6
 go_upto_region 1 with (fail)
 obtain ⟨E, BX0⟩ := open1 W #[.slice Aa na ca, .bool ga, .slice Ba ma da] 27
 refine wp_region_S [(0, 1), (1, 0)] fun wd hb => ?_
 replace E := hid (E.out.trans hb)
 replace BX0 := hid (BX0.out.up hb)
 clear hb
 have EY := hid (Ext.refl wd)
 refine WE.cc 10 ((known7 _).mono ?_)
 rintro e wn ⟨rfl, hb⟩
 refine ⟨_, rfl, hb, ?_⟩
 replace EY := hid (EY.out.trans hb)
 clear hb
 refine WE.pp 11 (.bool false) ?_
 simp only [Act.put, pA, pB, pC]
 refine WE.done ?_
 go_upto_region 3 with (fail)
 refine wp_region_S [(0, 0), (1, 1), (2, 0), (3, 0), (4, 0), (5, 1), (6, 0), (7, 0)] fun wd hb => ?_
 replace EY := hid (EY.out.trans hb)
 clear hb
 refine WE.qq 12 (.agg #[.slice Aa na ca, .bool ga, .slice Ba ma da]) rfl (fun w' hk => by obtain ⟨ce0, ce1, ce2⟩ := ((BX0.out.up EY.out).up hk).c3; go_simp) ?_
 refine WE.cc 13 ((fewL7_any (g1 := ga) (HLa.out.up (E.out.trans EY.out)) (HKa.out.up (E.out.trans EY.out)) fa.out).mono ?_)
 rintro e wn ⟨rfl, hb⟩
 refine ⟨_, rfl, hb, ?_⟩
 replace EY := hid (EY.out.trans hb)
 clear hb
 refine WE.pp 14 (.bool false) ?_
 refine WE.pp 15 (.bool false) ?_
 refine WE.pp 16 (.slice Ax nx cx) ?_
 refine WE.cc 17 ((fewP7_any (HPx.out.up (E.out.trans EY.out)) fx.out).mono ?_)
 rintro e wn ⟨rfl, hb⟩
 refine ⟨_, rfl, hb, ?_⟩
 replace EY := hid (EY.out.trans hb)
 clear hb
 simp only [Act.put, pA, pB, pC]
 refine WE.pp 18 (.bool false) ?_
 refine WE.pp 19 (.bool false) ?_
 simp only [Act.put, pA, pB, pC]
 refine WE.done ?_
 go_upto_region 5 with (fail)
 refine wp_region_S [(0, 0), (1, 1), (2, 0), (3, 0), (4, 0), (5, 1), (6, 4), (7, 0)] fun wd hb => ?_
 replace EY := hid (EY.out.trans hb)
 clear hb
 refine WE.qq 21 (.agg #[.slice Aa na ca, .bool ga, .slice Ba ma da]) rfl (fun w' hk => by obtain ⟨ce0, ce1, ce2⟩ := ((BX0.out.up EY.out).up hk).c3; go_simp) ?_
 refine WE.cc 22 ((normB_to (WorthL.wide (HAa.out.up (E.out.trans EY.out)) (U := 4) (by omega)) (by omega) (Nat.le_trans NAa.out (by decide)) (s := (M.nT t)) (μ := (M.nK t κ)) (c := 1) (rfl) (rfl) (HC.out)).mono ?_)
 rintro e wn ⟨v1, rfl, x1, hb⟩
 obtain ⟨A11, n11, c11, g11, B11, m11, d11, rfl⟩ := x1.shape
 refine ⟨_, rfl, hb, ?_⟩
 replace EY := hid (EY.out.trans hb)
 have S11 := hid x1
 clear hb x1
 refine WE.pp 20 (.tuple #[(.agg #[.slice A11 n11 c11, .bool g11, .slice B11 m11 d11]), (.int .i64 1)]) ?_
 refine WE.pp 23 (.agg #[.slice A11 n11 c11, .bool g11, .slice B11 m11 d11]) ?_
 refine WE.pp 24 (.int .i64 1) ?_
 simp only [Act.put, pA, pB, pC]
 refine WE.new (d := some 5) (cs := #[.slice none 0 0, .bool false, .slice none 0 0]) (t := 27) (v := fun g => (.pointer (some ⟨g, 0, none⟩))) rfl rfl (by rfl) (fun w => by go_simp) fun gV5 wv hx0 hbox hge => ?_
 have HNV5BX0 := hid (show gV5 ≠ (W.heap.size) by have := (BX0.out.up EY.out).lt; omega)
 have HGV5 := hid (show W.heap.size ≤ gV5 by have := (E.out.trans EY.out).size; omega)
 replace EY := hid (EY.out.trans hx0)
 replace S11 := hid (S11.out.up hx0)
 have V5 : Hid (Box wv gV5 #[.slice none 0 0, .bool false, .slice none 0 0] 27) := hid hbox
 clear hx0 hbox hge
 simp only [Act.put, pA, pB, pC]
 refine WE.store3 (g := gV5) (x := .slice A11 n11 c11) (y := .bool g11) (z := .slice B11 m11 d11) (t := 27) rfl rfl (by rfl) (fun w hb => ?_) V5.out (by rfl) fun ws hk hs => ?_
 ·obtain ⟨ce0, ce1, ce2⟩ := hb.c3; obtain ⟨f0, f1, f2⟩ := hb.f3; go_simp
 intro hbx
 replace S11 := hid (S11.out.kb V5.out (by rfl) hk hs)
 replace E := hid ((E.out.trans EY.out).keptG hk HGV5.out)
 replace BX0 := hid ((BX0.out.up EY.out).kept hk (by simpa using HNV5BX0.out.symm))
 replace V5 := hid hbx
 clear hk hs hbx
 replace EY := hid (Ext.refl ws)
 refine WE.pp 6 (.int .i64 1) ?_
 simp only [Act.put, pA, pB, pC]
 refine WE.done ?_
 go_upto_region 6 with (fail)
 refine wp_region_S [(0, 0), (1, 0), (2, 1), (3, 0)] fun wd hb => ?_
 replace EY := hid (EY.out.trans hb)
 clear hb
 refine WE.qq 25 (.agg #[.slice Aa na ca, .bool ga, .slice Ba ma da]) rfl (fun w' hk => by obtain ⟨ce0, ce1, ce2⟩ := ((BX0.out.up EY.out).up hk).c3; go_simp) ?_
 refine WE.pp 26 (.slice Ax nx cx) ?_
 refine WE.cc 27 ((holdsB_l (WorthL.wide (HAa.out.up (E.out.trans EY.out)) (U := 4) (by omega)) (hp := HPx.out.up (E.out.trans EY.out)) (fun x hx => Nat.le_trans (HPSx.out.1 x hx) (by decide)) (by omega) (Nat.le_trans NAa.out (by decide)) (b := b) (HB.out)).mono ?_)
 rintro e wn ⟨rfl, hb⟩
 refine ⟨_, rfl, hb, ?_⟩
 replace EY := hid (EY.out.trans hb)
 clear hb
 refine WE.pp 7 (.bool b) ?_
 simp only [Act.put, pA, pB, pC]
 refine WE.done ?_
 go_upto_region 7 with (fail)
 refine wp_region_S [(0, 0), (1, 1), (2, 0), (3, 0), (4, 0), (5, 1), (6, 4), (7, 0)] fun wd hb => ?_
 replace EY := hid (EY.out.trans hb)
 clear hb
 refine WE.qq 29 (.agg #[.slice A11 n11 c11, .bool g11, .slice B11 m11 d11]) rfl (fun w' hk => by obtain ⟨ce0, ce1, ce2⟩ := ((V5.out.up EY.out).up hk).c3; go_simp) ?_
 refine WE.cc 30 ((normB_to (WorthL.wide (S11.out.up EY.out).worth (U := 8) (by omega)) (by omega) (Nat.le_trans (Nat.le_trans (Nat.le_of_eq (M.nT_len _)) NAa.out) (by decide)) (s := (M.nT t)) (μ := (M.nK t κ)) (c := 1) (M.nT_nT OA.out) (M.nK_nK OA.out _) (by rw [M.nC_nT OA.out]; exact HC.out)).mono ?_)
 rintro e wn ⟨v1, rfl, x1, hb⟩
 obtain ⟨A12, n12, c12, g12, B12, m12, d12, rfl⟩ := x1.shape
 refine ⟨_, rfl, hb, ?_⟩
 replace EY := hid (EY.out.trans hb)
 have S12 := hid x1
 clear hb x1
 refine WE.pp 28 (.tuple #[(.agg #[.slice A12 n12 c12, .bool g12, .slice B12 m12 d12]), (.int .i64 1)]) ?_
 refine WE.pp 31 (.agg #[.slice A12 n12 c12, .bool g12, .slice B12 m12 d12]) ?_
 refine WE.pp 32 (.int .i64 1) ?_
 simp only [Act.put, pA, pB, pC]
 refine WE.new (d := some 8) (cs := #[.slice none 0 0, .bool false, .slice none 0 0]) (t := 27) (v := fun g => (.pointer (some ⟨g, 0, none⟩))) rfl rfl (by rfl) (fun w => by go_simp) fun gV8 wv hx0 hbox hge => ?_
 have HNV8BX0 := hid (show gV8 ≠ (W.heap.size) by have := (BX0.out.up EY.out).lt; omega)
 have HNV8V5 := hid (show gV8 ≠ gV5 by have := (V5.out.up EY.out).lt; omega)
 have HGV8 := hid (show W.heap.size ≤ gV8 by have := (E.out.trans EY.out).size; omega)
 replace EY := hid (EY.out.trans hx0)
 replace S12 := hid (S12.out.up hx0)
 have V8 : Hid (Box wv gV8 #[.slice none 0 0, .bool false, .slice none 0 0] 27) := hid hbox
 clear hx0 hbox hge
 simp only [Act.put, pA, pB, pC]
 refine WE.store3 (g := gV8) (x := .slice A12 n12 c12) (y := .bool g12) (z := .slice B12 m12 d12) (t := 27) rfl rfl (by rfl) (fun w hb => ?_) V8.out (by rfl) fun ws hk hs => ?_
 ·obtain ⟨ce0, ce1, ce2⟩ := hb.c3; obtain ⟨f0, f1, f2⟩ := hb.f3; go_simp
 intro hbx
 replace S11 := hid ((S11.out.up EY.out).kb V8.out (by rfl) hk hs)
 replace S12 := hid (S12.out.kb V8.out (by rfl) hk hs)
 replace E := hid ((E.out.trans EY.out).keptG hk HGV8.out)
 replace BX0 := hid ((BX0.out.up EY.out).kept hk (by simpa using HNV8BX0.out.symm))
 replace V5 := hid ((V5.out.up EY.out).kept hk (by simpa using HNV8V5.out.symm))
 replace V8 := hid hbx
 clear hk hs hbx
 replace EY := hid (Ext.refl ws)
 refine WE.pp 9 (.int .i64 1) ?_
 simp only [Act.put, pA, pB, pC]
 refine WE.done ?_
 go_upto_region 8 with (fail)
 refine wp_region_S [(0, 0), (1, 0), (2, 0), (3, 0), (4, 0), (5, 0), (6, 0), (7, 0), (8, 0), (9, 0), (10, 0), (11, 0), (12, 0), (13, 0), (14, 0), (15, 0), (16, 0), (17, 0), (18, 0), (19, 0), (20, 0), (21, 0), (22, 0), (23, 0), (24, 0)] fun wd hb => ?_
 replace EY := hid (EY.out.trans hb)
 clear hb
 refine WE.pp 33 (.int .i64 1) ?_
 refine WE.pp 34 (.bool true) ?_
 refine WE.pp 35 (.bool true) ?_
 refine WE.pp 36 (.int .i64 1) ?_
 refine WE.pp 37 (.bool true) ?_
 refine WE.pp 38 (.bool true) ?_
 simp only [Act.put, pA, pB, pC]
 refine WE.pp 39 (.bool true) ?_
 refine WE.pp 40 (.int .i64 1) ?_
 refine WE.pp 41 (.bool false) ?_
 refine WE.pp 42 (.bool false) ?_
 refine WE.pp 43 (.bool false) ?_
 refine WE.pp 44 (.int .i64 1) ?_
 simp only [Act.put, pA, pB, pC]
 refine WE.pp 45 (.bool false) ?_
 refine WE.pp 46 (.bool false) ?_
 refine WE.ss 47 ?_
 refine WE.ss 48 ?_
 refine WE.pp 49 (.bool false) ?_
 refine WE.pp 50 (.bool false) ?_
 simp only [Act.put, pA, pB, pC]
 refine WE.pp 51 (.bool false) ?_
 refine WE.pp 52 (.int .i64 1) ?_
 refine WE.pp 53 (.bool false) ?_
 refine WE.pp 54 (.bool false) ?_
 refine WE.ss 55 ?_
 refine WE.pp 56 (.bool false) ?_
 simp only [Act.put, pA, pB, pC]
 refine WE.pp 57 (.bool false) ?_
 simp only [Act.put, pA, pB, pC]
 refine WE.done ?_
 go_upto_region 10 with (fail)
 refine wp_region_S [(0, 0), (1, 0), (2, 1), (3, 0), (4, 0), (5, 0), (6, 0), (7, 1), (8, 0), (9, 1), (10, 0), (11, 0), (12, 0), (13, 0), (14, 0), (15, 1), (16, 1), (17, 0), (18, 1), (19, 0), (20, 0), (21, 0), (22, 0), (23, 0), (24, 0), (25, 1), (26, 0), (27, 0), (28, 0), (29, 0), (30, 0), (31, 0), (32, 0)] fun wd hb => ?_
 replace EY := hid (EY.out.trans hb)
 clear hb
 refine WE.qq 58 (.agg #[.slice A11 n11 c11, .bool g11, .slice B11 m11 d11]) rfl (fun w' hk => by obtain ⟨ce0, ce1, ce2⟩ := ((V5.out.up EY.out).up hk).c3; go_simp) ?_
 refine WE.pp 59 (.slice Ax nx cx) ?_
 refine WE.cc 60 ((holdsB_l (WorthL.wide (S11.out.up EY.out).worth (U := 8) (by omega)) (hp := HPx.out.up (E.out.trans EY.out)) (fun x hx => Nat.le_trans (HPSx.out.1 x hx) (by decide)) (by omega) (Nat.le_trans (Nat.le_trans (Nat.le_of_eq (M.nT_len _)) NAa.out) (by decide)) (b := b) (HNN.out)).mono ?_)
 rintro e wn ⟨rfl, hb⟩
 refine ⟨_, rfl, hb, ?_⟩
 replace EY := hid (EY.out.trans hb)
 clear hb
 refine WE.pp 61 (.bool b) ?_
 refine WE.pp 62 (.bool true) ?_
 refine WE.pp 63 (.bool true) ?_
 simp only [Act.put, pA, pB, pC]
 refine WE.qq 64 (.agg #[.slice Aa na ca, .bool ga, .slice Ba ma da]) rfl (fun w' hk => by obtain ⟨ce0, ce1, ce2⟩ := ((BX0.out.up EY.out).up hk).c3; go_simp) ?_
 refine WE.cc 65 ((notB_l (WorthL.wide (HAa.out.up (E.out.trans EY.out)) (U := 4) (by omega)) (by omega) (Nat.le_trans NAa.out (by decide))).mono ?_)
 rintro e wn ⟨v1, rfl, x1, hb⟩
 obtain ⟨A13, n13, c13, g13, B13, m13, d13, rfl⟩ := x1.shape
 refine ⟨_, rfl, hb, ?_⟩
 replace EY := hid (EY.out.trans hb)
 have S13 := hid x1
 clear hb x1
 refine WE.pp 66 (.slice Ax nx cx) ?_
 refine WE.cc 67 ((holdsB_l (WorthL.wide S13.out.worth (U := 8) (by omega)) (hp := HPx.out.up (E.out.trans EY.out)) (fun x hx => Nat.le_trans (HPSx.out.1 x hx) (by decide)) (by omega) (Nat.le_trans (Nat.le_trans (M.scaleT_len _ _) NAa.out) (by decide)) (b := (!b)) (HNB.out)).mono ?_)
 rintro e wn ⟨rfl, hb⟩
 refine ⟨_, rfl, hb, ?_⟩
 replace EY := hid (EY.out.trans hb)
 clear hb
 refine WE.pp 68 (.bool b) ?_
 refine WE.pp 69 (.bool true) ?_
 simp only [Act.put, pA, pB, pC]
 refine WE.pp 70 (.bool true) ?_
 refine WE.pp 71 (.bool true) ?_
 refine WE.qq 72 (.agg #[.slice Aa na ca, .bool ga, .slice Ba ma da]) rfl (fun w' hk => by obtain ⟨ce0, ce1, ce2⟩ := ((BX0.out.up EY.out).up hk).c3; go_simp) ?_
 refine WE.cc 73 ((notB_l (WorthL.wide (HAa.out.up (E.out.trans EY.out)) (U := 4) (by omega)) (by omega) (Nat.le_trans NAa.out (by decide))).mono ?_)
 rintro e wn ⟨v1, rfl, x1, hb⟩
 obtain ⟨A14, n14, c14, g14, B14, m14, d14, rfl⟩ := x1.shape
 refine ⟨_, rfl, hb, ?_⟩
 replace EY := hid (EY.out.trans hb)
 have S14 := hid x1
 clear hb x1
 refine WE.cc 74 ((notB_to (WorthL.wide S14.out.worth (U := 8) (by omega)) (by omega) (Nat.le_trans (Nat.le_trans (M.scaleT_len _ _) NAa.out) (by decide)) (s := t) (μ := κ) (M.not_not t κ).1 (M.not_not t κ).2).mono ?_)
 rintro e wn ⟨v1, rfl, x1, hb⟩
 obtain ⟨A15, n15, c15, g15, B15, m15, d15, rfl⟩ := x1.shape
 refine ⟨_, rfl, hb, ?_⟩
 replace EY := hid (EY.out.trans hb)
 have S15 := hid x1
 clear hb x1
 refine WE.pp 75 (.slice Ax nx cx) ?_
 simp only [Act.put, pA, pB, pC]
 refine WE.cc 76 ((holdsB_l (WorthL.wide S15.out.worth (U := 12) (by omega)) (hp := HPx.out.up (E.out.trans EY.out)) (fun x hx => Nat.le_trans (HPSx.out.1 x hx) (by decide)) (by omega) (Nat.le_trans NAa.out (by decide)) (b := b) (HB.out)).mono ?_)
 rintro e wn ⟨rfl, hb⟩
 refine ⟨_, rfl, hb, ?_⟩
 replace EY := hid (EY.out.trans hb)
 clear hb
 refine WE.pp 77 (.bool b) ?_
 refine WE.pp 78 (.bool true) ?_
 refine WE.pp 79 (.bool true) ?_
 refine WE.pp 80 (.bool true) ?_
 refine WE.qq 81 (.agg #[.slice A12 n12 c12, .bool g12, .slice B12 m12 d12]) rfl (fun w' hk => by obtain ⟨ce0, ce1, ce2⟩ := ((V8.out.up EY.out).up hk).c3; go_simp) ?_
 simp only [Act.put, pA, pB, pC]
 refine WE.qq 82 (.agg #[.slice A11 n11 c11, .bool g11, .slice B11 m11 d11]) rfl (fun w' hk => by obtain ⟨ce0, ce1, ce2⟩ := ((V5.out.up EY.out).up hk).c3; go_simp) ?_
 refine WE.cc 83 ((rEqualL_l (S12.out.up EY.out) (S11.out.up EY.out) (b := true) (decide_eq_true ⟨rfl, rfl⟩)).mono ?_)
 rintro e wn ⟨rfl, hb⟩
 refine ⟨_, rfl, hb, ?_⟩
 replace EY := hid (EY.out.trans hb)
 clear hb
 refine WE.pp 84 (.bool true) ?_
 refine WE.pp 85 (.bool true) ?_
 refine WE.pp 86 (.int .i64 1) ?_
 refine WE.pp 87 (.int .i64 1) ?_
 simp only [Act.put, pA, pB, pC]
 refine WE.pp 88 (.bool true) ?_
 refine WE.pp 89 (.bool true) ?_
 refine WE.pp 4 (.bool true) ?_
 simp only [Act.put, pA, pB, pC]
 refine WE.done ?_
 repeat go_step
 go_ret
 exact ⟨rfl, (E.out.trans EY.out)⟩

set_option maxRecDepth 100000 in
set_option maxHeartbeats 16000000 in
theorem belowSame_yes (W : World) (Aa : Option Addr) (na ca : Nat) (la : List (Int × Bool × List Nat)) (ga : Bool) (Ba : Option Addr) (ma da : Nat) (ka : List Nat) (ha : LList W (.slice Aa na ca) la) (ia : Num W W.heap.size (.slice Ba ma da) ka) (Ax : Option Addr) (nx cx : Nat) (lx : List (Bool × List Nat)) (hx : ZList W (.slice Ax nx cx) lx) (fa : Hid (M.fewL la ka = true)) (fx : Hid (M.fewP lx = true)) (hcls : Hid (M.nC (M.ft la ga ka) (M.fk la ga ka) = 2)) :
 Calls Tryz.prog 6 #[.agg #[.slice Aa na ca, .bool ga, .slice Ba ma da], .slice Ax nx cx] W (fun e w' => e = .returned (.bool true) ∧ Ext W w') := by
 have HLa := hid ha
 have HKa := hid ia
 obtain ⟨qa, qb, qc⟩ := M.fewL_parts fa.out
 obtain ⟨t, hta⟩ : ∃ t, t = M.ft la ga ka := ⟨_, rfl⟩
 obtain ⟨κ, hka⟩ : ∃ k, k = M.fk la ga ka := ⟨_, rfl⟩
 have HAa := hid (worthL_of ha ia qa qc hta hka)
 have NAa := hid (show t.length ≤ 8 by rw [hta]; exact Nat.le_trans (M.ft_len _ _ _) qb)
 clear qa qb qc
 clear ha ia
 have HPx := hid hx
 have HPCx := hid hx.count
 have hb9x : nx ≤ 9223372036854775807 := hx.count.2.2
 have HPSx := hid (M.fewP_parts fx.out)
 clear hx
 obtain ⟨b, hbv⟩ : ∃ b : Bool, decide (κ + M.atT (M.valAt lx) t ≤ 0) = b := ⟨_, rfl⟩
 have OA := hid (show M.okT (-1) t from HAa.out.okB)
 have HC := hid (show M.nC t κ = 2 by rw [hta, hka]; exact hcls.out)
 clear hta hka
 have HNK := hid (M.nC_is_yes HC.out)
 have HB := hid (show decide (κ + M.atT (M.valAt lx) t ≤ 0) = true by rw [HNK.out.1, M.atT_nil, Int.add_zero]; exact decide_eq_true HNK.out.2)
 clear hbv
 have HNB := hid (show decide (1 + κ * -1 + M.atT (M.valAt lx) (M.scaleT t (-1)) ≤ 0) = !true by rw [← HB.out, ← decide_not, decide_eq_decide]; exact M.not_holds _ _ _)
 have HNN := hid (show decide (M.nK t κ + M.atT (M.valAt lx) (M.nT t) ≤ 0) = true by rw [← HB.out, decide_eq_decide]; exact M.norm_holds _ OA.out _)
 go_enter Tryz.func6, Tryz.ntmps6
 go_upto_region 1 with (fail)
 obtain ⟨E, BX0⟩ := open1 W #[.slice Aa na ca, .bool ga, .slice Ba ma da] 27
 refine wp_region_S [(0, 1), (1, 0)] fun wd hb => ?_
 replace E := hid (E.out.trans hb)
 replace BX0 := hid (BX0.out.up hb)
 clear hb
 have EY := hid (Ext.refl wd)
 refine WE.cc 10 ((known7 _).mono ?_)
 rintro e wn ⟨rfl, hb⟩
 refine ⟨_, rfl, hb, ?_⟩
 replace EY := hid (EY.out.trans hb)
 clear hb
 refine WE.pp 11 (.bool false) ?_
 simp only [Act.put, pA, pB, pC]
 refine WE.done ?_
 go_upto_region 3 with (fail)
 refine wp_region_S [(0, 0), (1, 1), (2, 0), (3, 0), (4, 0), (5, 1), (6, 0), (7, 0)] fun wd hb => ?_
 replace EY := hid (EY.out.trans hb)
 clear hb
 refine WE.qq 12 (.agg #[.slice Aa na ca, .bool ga, .slice Ba ma da]) rfl (fun w' hk => by obtain ⟨ce0, ce1, ce2⟩ := ((BX0.out.up EY.out).up hk).c3; go_simp) ?_
 refine WE.cc 13 ((fewL7_any (g1 := ga) (HLa.out.up (E.out.trans EY.out)) (HKa.out.up (E.out.trans EY.out)) fa.out).mono ?_)
 rintro e wn ⟨rfl, hb⟩
 refine ⟨_, rfl, hb, ?_⟩
 replace EY := hid (EY.out.trans hb)
 clear hb
 refine WE.pp 14 (.bool false) ?_
 refine WE.pp 15 (.bool false) ?_
 refine WE.pp 16 (.slice Ax nx cx) ?_
 refine WE.cc 17 ((fewP7_any (HPx.out.up (E.out.trans EY.out)) fx.out).mono ?_)
 rintro e wn ⟨rfl, hb⟩
 refine ⟨_, rfl, hb, ?_⟩
 replace EY := hid (EY.out.trans hb)
 clear hb
 simp only [Act.put, pA, pB, pC]
 refine WE.pp 18 (.bool false) ?_
 refine WE.pp 19 (.bool false) ?_
 simp only [Act.put, pA, pB, pC]
 refine WE.done ?_
 go_upto_region 5 with (fail)
 refine wp_region_S [(0, 0), (1, 1), (2, 0), (3, 0), (4, 0), (5, 1), (6, 4), (7, 0)] fun wd hb => ?_
 replace EY := hid (EY.out.trans hb)
 clear hb
 refine WE.qq 21 (.agg #[.slice Aa na ca, .bool ga, .slice Ba ma da]) rfl (fun w' hk => by obtain ⟨ce0, ce1, ce2⟩ := ((BX0.out.up EY.out).up hk).c3; go_simp) ?_
 refine WE.cc 22 ((normB_to (WorthL.wide (HAa.out.up (E.out.trans EY.out)) (U := 4) (by omega)) (by omega) (Nat.le_trans NAa.out (by decide)) (s := (M.nT t)) (μ := (M.nK t κ)) (c := 2) (rfl) (rfl) (HC.out)).mono ?_)
 rintro e wn ⟨v1, rfl, x1, hb⟩
 obtain ⟨A11, n11, c11, g11, B11, m11, d11, rfl⟩ := x1.shape
 refine ⟨_, rfl, hb, ?_⟩
 replace EY := hid (EY.out.trans hb)
 have S11 := hid x1
 clear hb x1
 refine WE.pp 20 (.tuple #[(.agg #[.slice A11 n11 c11, .bool g11, .slice B11 m11 d11]), (.int .i64 2)]) ?_
 refine WE.pp 23 (.agg #[.slice A11 n11 c11, .bool g11, .slice B11 m11 d11]) ?_
 refine WE.pp 24 (.int .i64 2) ?_
 simp only [Act.put, pA, pB, pC]
 refine WE.new (d := some 5) (cs := #[.slice none 0 0, .bool false, .slice none 0 0]) (t := 27) (v := fun g => (.pointer (some ⟨g, 0, none⟩))) rfl rfl (by rfl) (fun w => by go_simp) fun gV5 wv hx0 hbox hge => ?_
 have HNV5BX0 := hid (show gV5 ≠ (W.heap.size) by have := (BX0.out.up EY.out).lt; omega)
 have HGV5 := hid (show W.heap.size ≤ gV5 by have := (E.out.trans EY.out).size; omega)
 replace EY := hid (EY.out.trans hx0)
 replace S11 := hid (S11.out.up hx0)
 have V5 : Hid (Box wv gV5 #[.slice none 0 0, .bool false, .slice none 0 0] 27) := hid hbox
 clear hx0 hbox hge
 simp only [Act.put, pA, pB, pC]
 refine WE.store3 (g := gV5) (x := .slice A11 n11 c11) (y := .bool g11) (z := .slice B11 m11 d11) (t := 27) rfl rfl (by rfl) (fun w hb => ?_) V5.out (by rfl) fun ws hk hs => ?_
 ·obtain ⟨ce0, ce1, ce2⟩ := hb.c3; obtain ⟨f0, f1, f2⟩ := hb.f3; go_simp
 intro hbx
 replace S11 := hid (S11.out.kb V5.out (by rfl) hk hs)
 replace E := hid ((E.out.trans EY.out).keptG hk HGV5.out)
 replace BX0 := hid ((BX0.out.up EY.out).kept hk (by simpa using HNV5BX0.out.symm))
 replace V5 := hid hbx
 clear hk hs hbx
 replace EY := hid (Ext.refl ws)
 refine WE.pp 6 (.int .i64 2) ?_
 simp only [Act.put, pA, pB, pC]
 refine WE.done ?_
 go_upto_region 6 with (fail)
 refine wp_region_S [(0, 0), (1, 0), (2, 1), (3, 0)] fun wd hb => ?_
 replace EY := hid (EY.out.trans hb)
 clear hb
 refine WE.qq 25 (.agg #[.slice Aa na ca, .bool ga, .slice Ba ma da]) rfl (fun w' hk => by obtain ⟨ce0, ce1, ce2⟩ := ((BX0.out.up EY.out).up hk).c3; go_simp) ?_
 refine WE.pp 26 (.slice Ax nx cx) ?_
 refine WE.cc 27 ((holdsB_l (WorthL.wide (HAa.out.up (E.out.trans EY.out)) (U := 4) (by omega)) (hp := HPx.out.up (E.out.trans EY.out)) (fun x hx => Nat.le_trans (HPSx.out.1 x hx) (by decide)) (by omega) (Nat.le_trans NAa.out (by decide)) (b := true) (HB.out)).mono ?_)
 rintro e wn ⟨rfl, hb⟩
 refine ⟨_, rfl, hb, ?_⟩
 replace EY := hid (EY.out.trans hb)
 clear hb
 refine WE.pp 7 (.bool true) ?_
 simp only [Act.put, pA, pB, pC]
 refine WE.done ?_
 go_upto_region 7 with (fail)
 refine wp_region_S [(0, 0), (1, 1), (2, 0), (3, 0), (4, 0), (5, 1), (6, 4), (7, 0)] fun wd hb => ?_
 replace EY := hid (EY.out.trans hb)
 clear hb
 refine WE.qq 29 (.agg #[.slice A11 n11 c11, .bool g11, .slice B11 m11 d11]) rfl (fun w' hk => by obtain ⟨ce0, ce1, ce2⟩ := ((V5.out.up EY.out).up hk).c3; go_simp) ?_
 refine WE.cc 30 ((normB_to (WorthL.wide (S11.out.up EY.out).worth (U := 8) (by omega)) (by omega) (Nat.le_trans (Nat.le_trans (Nat.le_of_eq (M.nT_len _)) NAa.out) (by decide)) (s := (M.nT t)) (μ := (M.nK t κ)) (c := 2) (M.nT_nT OA.out) (M.nK_nK OA.out _) (by rw [M.nC_nT OA.out]; exact HC.out)).mono ?_)
 rintro e wn ⟨v1, rfl, x1, hb⟩
 obtain ⟨A12, n12, c12, g12, B12, m12, d12, rfl⟩ := x1.shape
 refine ⟨_, rfl, hb, ?_⟩
 replace EY := hid (EY.out.trans hb)
 have S12 := hid x1
 clear hb x1
 refine WE.pp 28 (.tuple #[(.agg #[.slice A12 n12 c12, .bool g12, .slice B12 m12 d12]), (.int .i64 2)]) ?_
 refine WE.pp 31 (.agg #[.slice A12 n12 c12, .bool g12, .slice B12 m12 d12]) ?_
 refine WE.pp 32 (.int .i64 2) ?_
 simp only [Act.put, pA, pB, pC]
 refine WE.new (d := some 8) (cs := #[.slice none 0 0, .bool false, .slice none 0 0]) (t := 27) (v := fun g => (.pointer (some ⟨g, 0, none⟩))) rfl rfl (by rfl) (fun w => by go_simp) fun gV8 wv hx0 hbox hge => ?_
 have HNV8BX0 := hid (show gV8 ≠ (W.heap.size) by have := (BX0.out.up EY.out).lt; omega)
 have HNV8V5 := hid (show gV8 ≠ gV5 by have := (V5.out.up EY.out).lt; omega)
 have HGV8 := hid (show W.heap.size ≤ gV8 by have := (E.out.trans EY.out).size; omega)
 replace EY := hid (EY.out.trans hx0)
 replace S12 := hid (S12.out.up hx0)
 have V8 : Hid (Box wv gV8 #[.slice none 0 0, .bool false, .slice none 0 0] 27) := hid hbox
 clear hx0 hbox hge
 simp only [Act.put, pA, pB, pC]
 refine WE.store3 (g := gV8) (x := .slice A12 n12 c12) (y := .bool g12) (z := .slice B12 m12 d12) (t := 27) rfl rfl (by rfl) (fun w hb => ?_) V8.out (by rfl) fun ws hk hs => ?_
 ·obtain ⟨ce0, ce1, ce2⟩ := hb.c3; obtain ⟨f0, f1, f2⟩ := hb.f3; go_simp
 intro hbx
 replace S11 := hid ((S11.out.up EY.out).kb V8.out (by rfl) hk hs)
 replace S12 := hid (S12.out.kb V8.out (by rfl) hk hs)
 replace E := hid ((E.out.trans EY.out).keptG hk HGV8.out)
 replace BX0 := hid ((BX0.out.up EY.out).kept hk (by simpa using HNV8BX0.out.symm))
 replace V5 := hid ((V5.out.up EY.out).kept hk (by simpa using HNV8V5.out.symm))
 replace V8 := hid hbx
 clear hk hs hbx
 replace EY := hid (Ext.refl ws)
 refine WE.pp 9 (.int .i64 2) ?_
 simp only [Act.put, pA, pB, pC]
 refine WE.done ?_
 go_upto_region 8 with (fail)
 refine wp_region_S [(0, 0), (1, 0), (2, 0), (3, 0), (4, 0), (5, 0), (6, 0), (7, 0), (8, 0), (9, 0), (10, 0), (11, 0), (12, 0), (13, 0), (14, 0), (15, 0), (16, 0), (17, 0), (18, 0), (19, 0), (20, 0), (21, 0), (22, 0), (23, 0), (24, 0)] fun wd hb => ?_
 replace EY := hid (EY.out.trans hb)
 clear hb
 refine WE.pp 33 (.int .i64 2) ?_
 refine WE.pp 34 (.bool false) ?_
 refine WE.pp 35 (.bool false) ?_
 refine WE.ss 36 ?_
 refine WE.ss 37 ?_
 refine WE.pp 38 (.bool false) ?_
 simp only [Act.put, pA, pB, pC]
 refine WE.pp 39 (.bool false) ?_
 refine WE.ss 40 ?_
 refine WE.ss 41 ?_
 refine WE.pp 42 (.bool false) ?_
 refine WE.pp 43 (.bool false) ?_
 refine WE.pp 44 (.int .i64 2) ?_
 simp only [Act.put, pA, pB, pC]
 refine WE.pp 45 (.bool true) ?_
 refine WE.pp 46 (.bool true) ?_
 refine WE.pp 47 (.bool true) ?_
 refine WE.pp 48 (.bool false) ?_
 refine WE.pp 49 (.bool false) ?_
 refine WE.pp 50 (.bool false) ?_
 simp only [Act.put, pA, pB, pC]
 refine WE.pp 51 (.bool false) ?_
 refine WE.pp 52 (.int .i64 2) ?_
 refine WE.pp 53 (.bool false) ?_
 refine WE.pp 54 (.bool false) ?_
 refine WE.ss 55 ?_
 refine WE.pp 56 (.bool false) ?_
 simp only [Act.put, pA, pB, pC]
 refine WE.pp 57 (.bool false) ?_
 simp only [Act.put, pA, pB, pC]
 refine WE.done ?_
 go_upto_region 10 with (fail)
 refine wp_region_S [(0, 0), (1, 0), (2, 1), (3, 0), (4, 0), (5, 0), (6, 0), (7, 1), (8, 0), (9, 1), (10, 0), (11, 0), (12, 0), (13, 0), (14, 0), (15, 1), (16, 1), (17, 0), (18, 1), (19, 0), (20, 0), (21, 0), (22, 0), (23, 0), (24, 0), (25, 1), (26, 0), (27, 0), (28, 0), (29, 0), (30, 0), (31, 0), (32, 0)] fun wd hb => ?_
 replace EY := hid (EY.out.trans hb)
 clear hb
 refine WE.qq 58 (.agg #[.slice A11 n11 c11, .bool g11, .slice B11 m11 d11]) rfl (fun w' hk => by obtain ⟨ce0, ce1, ce2⟩ := ((V5.out.up EY.out).up hk).c3; go_simp) ?_
 refine WE.pp 59 (.slice Ax nx cx) ?_
 refine WE.cc 60 ((holdsB_l (WorthL.wide (S11.out.up EY.out).worth (U := 8) (by omega)) (hp := HPx.out.up (E.out.trans EY.out)) (fun x hx => Nat.le_trans (HPSx.out.1 x hx) (by decide)) (by omega) (Nat.le_trans (Nat.le_trans (Nat.le_of_eq (M.nT_len _)) NAa.out) (by decide)) (b := true) (HNN.out)).mono ?_)
 rintro e wn ⟨rfl, hb⟩
 refine ⟨_, rfl, hb, ?_⟩
 replace EY := hid (EY.out.trans hb)
 clear hb
 refine WE.pp 61 (.bool true) ?_
 refine WE.pp 62 (.bool true) ?_
 refine WE.pp 63 (.bool true) ?_
 simp only [Act.put, pA, pB, pC]
 refine WE.qq 64 (.agg #[.slice Aa na ca, .bool ga, .slice Ba ma da]) rfl (fun w' hk => by obtain ⟨ce0, ce1, ce2⟩ := ((BX0.out.up EY.out).up hk).c3; go_simp) ?_
 refine WE.cc 65 ((notB_l (WorthL.wide (HAa.out.up (E.out.trans EY.out)) (U := 4) (by omega)) (by omega) (Nat.le_trans NAa.out (by decide))).mono ?_)
 rintro e wn ⟨v1, rfl, x1, hb⟩
 obtain ⟨A13, n13, c13, g13, B13, m13, d13, rfl⟩ := x1.shape
 refine ⟨_, rfl, hb, ?_⟩
 replace EY := hid (EY.out.trans hb)
 have S13 := hid x1
 clear hb x1
 refine WE.pp 66 (.slice Ax nx cx) ?_
 refine WE.cc 67 ((holdsB_l (WorthL.wide S13.out.worth (U := 8) (by omega)) (hp := HPx.out.up (E.out.trans EY.out)) (fun x hx => Nat.le_trans (HPSx.out.1 x hx) (by decide)) (by omega) (Nat.le_trans (Nat.le_trans (M.scaleT_len _ _) NAa.out) (by decide)) (b := false) (HNB.out)).mono ?_)
 rintro e wn ⟨rfl, hb⟩
 refine ⟨_, rfl, hb, ?_⟩
 replace EY := hid (EY.out.trans hb)
 clear hb
 refine WE.pp 68 (.bool true) ?_
 refine WE.pp 69 (.bool true) ?_
 simp only [Act.put, pA, pB, pC]
 refine WE.pp 70 (.bool true) ?_
 refine WE.pp 71 (.bool true) ?_
 refine WE.qq 72 (.agg #[.slice Aa na ca, .bool ga, .slice Ba ma da]) rfl (fun w' hk => by obtain ⟨ce0, ce1, ce2⟩ := ((BX0.out.up EY.out).up hk).c3; go_simp) ?_
 refine WE.cc 73 ((notB_l (WorthL.wide (HAa.out.up (E.out.trans EY.out)) (U := 4) (by omega)) (by omega) (Nat.le_trans NAa.out (by decide))).mono ?_)
 rintro e wn ⟨v1, rfl, x1, hb⟩
 obtain ⟨A14, n14, c14, g14, B14, m14, d14, rfl⟩ := x1.shape
 refine ⟨_, rfl, hb, ?_⟩
 replace EY := hid (EY.out.trans hb)
 have S14 := hid x1
 clear hb x1
 refine WE.cc 74 ((notB_to (WorthL.wide S14.out.worth (U := 8) (by omega)) (by omega) (Nat.le_trans (Nat.le_trans (M.scaleT_len _ _) NAa.out) (by decide)) (s := t) (μ := κ) (M.not_not t κ).1 (M.not_not t κ).2).mono ?_)
 rintro e wn ⟨v1, rfl, x1, hb⟩
 obtain ⟨A15, n15, c15, g15, B15, m15, d15, rfl⟩ := x1.shape
 refine ⟨_, rfl, hb, ?_⟩
 replace EY := hid (EY.out.trans hb)
 have S15 := hid x1
 clear hb x1
 refine WE.pp 75 (.slice Ax nx cx) ?_
 simp only [Act.put, pA, pB, pC]
 refine WE.cc 76 ((holdsB_l (WorthL.wide S15.out.worth (U := 12) (by omega)) (hp := HPx.out.up (E.out.trans EY.out)) (fun x hx => Nat.le_trans (HPSx.out.1 x hx) (by decide)) (by omega) (Nat.le_trans NAa.out (by decide)) (b := true) (HB.out)).mono ?_)
 rintro e wn ⟨rfl, hb⟩
 refine ⟨_, rfl, hb, ?_⟩
 replace EY := hid (EY.out.trans hb)
 clear hb
 refine WE.pp 77 (.bool true) ?_
 refine WE.pp 78 (.bool true) ?_
 refine WE.pp 79 (.bool true) ?_
 refine WE.pp 80 (.bool true) ?_
 refine WE.qq 81 (.agg #[.slice A12 n12 c12, .bool g12, .slice B12 m12 d12]) rfl (fun w' hk => by obtain ⟨ce0, ce1, ce2⟩ := ((V8.out.up EY.out).up hk).c3; go_simp) ?_
 simp only [Act.put, pA, pB, pC]
 refine WE.qq 82 (.agg #[.slice A11 n11 c11, .bool g11, .slice B11 m11 d11]) rfl (fun w' hk => by obtain ⟨ce0, ce1, ce2⟩ := ((V5.out.up EY.out).up hk).c3; go_simp) ?_
 refine WE.cc 83 ((rEqualL_l (S12.out.up EY.out) (S11.out.up EY.out) (b := true) (decide_eq_true ⟨rfl, rfl⟩)).mono ?_)
 rintro e wn ⟨rfl, hb⟩
 refine ⟨_, rfl, hb, ?_⟩
 replace EY := hid (EY.out.trans hb)
 clear hb
 refine WE.pp 84 (.bool true) ?_
 refine WE.pp 85 (.bool true) ?_
 refine WE.pp 86 (.int .i64 2) ?_
 refine WE.pp 87 (.int .i64 2) ?_
 simp only [Act.put, pA, pB, pC]
 refine WE.pp 88 (.bool true) ?_
 refine WE.pp 89 (.bool true) ?_
 refine WE.pp 4 (.bool true) ?_
 simp only [Act.put, pA, pB, pC]
 refine WE.done ?_
 repeat go_step
 go_ret
 exact ⟨rfl, (E.out.trans EY.out)⟩

set_option maxRecDepth 100000 in
set_option maxHeartbeats 16000000 in
theorem belowSame_no (W : World) (Aa : Option Addr) (na ca : Nat) (la : List (Int × Bool × List Nat)) (ga : Bool) (Ba : Option Addr) (ma da : Nat) (ka : List Nat) (ha : LList W (.slice Aa na ca) la) (ia : Num W W.heap.size (.slice Ba ma da) ka) (Ax : Option Addr) (nx cx : Nat) (lx : List (Bool × List Nat)) (hx : ZList W (.slice Ax nx cx) lx) (fa : Hid (M.fewL la ka = true)) (fx : Hid (M.fewP lx = true)) (hcls : Hid (M.nC (M.ft la ga ka) (M.fk la ga ka) = 3)) :
 Calls Tryz.prog 6 #[.agg #[.slice Aa na ca, .bool ga, .slice Ba ma da], .slice Ax nx cx] W (fun e w' => e = .returned (.bool true) ∧ Ext W w') := by
 have HLa := hid ha
 have HKa := hid ia
 obtain ⟨qa, qb, qc⟩ := M.fewL_parts fa.out
 obtain ⟨t, hta⟩ : ∃ t, t = M.ft la ga ka := ⟨_, rfl⟩
 obtain ⟨κ, hka⟩ : ∃ k, k = M.fk la ga ka := ⟨_, rfl⟩
 have HAa := hid (worthL_of ha ia qa qc hta hka)
 have NAa := hid (show t.length ≤ 8 by rw [hta]; exact Nat.le_trans (M.ft_len _ _ _) qb)
 clear qa qb qc
 clear ha ia
 have HPx := hid hx
 have HPCx := hid hx.count
 have hb9x : nx ≤ 9223372036854775807 := hx.count.2.2
 have HPSx := hid (M.fewP_parts fx.out)
 clear hx
 obtain ⟨b, hbv⟩ : ∃ b : Bool, decide (κ + M.atT (M.valAt lx) t ≤ 0) = b := ⟨_, rfl⟩
 have OA := hid (show M.okT (-1) t from HAa.out.okB)
 have HC := hid (show M.nC t κ = 3 by rw [hta, hka]; exact hcls.out)
 clear hta hka
 have HNK := hid (M.nC_is_no HC.out)
 have HB := hid (show decide (κ + M.atT (M.valAt lx) t ≤ 0) = false by rw [HNK.out.1, M.atT_nil, Int.add_zero]; exact decide_eq_false HNK.out.2)
 clear hbv
 have HNB := hid (show decide (1 + κ * -1 + M.atT (M.valAt lx) (M.scaleT t (-1)) ≤ 0) = !false by rw [← HB.out, ← decide_not, decide_eq_decide]; exact M.not_holds _ _ _)
 have HNN := hid (show decide (M.nK t κ + M.atT (M.valAt lx) (M.nT t) ≤ 0) = false by rw [← HB.out, decide_eq_decide]; exact M.norm_holds _ OA.out _)
 go_enter Tryz.func6, Tryz.ntmps6
 go_upto_region 1 with (fail)
 obtain ⟨E, BX0⟩ := open1 W #[.slice Aa na ca, .bool ga, .slice Ba ma da] 27
 refine wp_region_S [(0, 1), (1, 0)] fun wd hb => ?_
 replace E := hid (E.out.trans hb)
 replace BX0 := hid (BX0.out.up hb)
 clear hb
 have EY := hid (Ext.refl wd)
 refine WE.cc 10 ((known7 _).mono ?_)
 rintro e wn ⟨rfl, hb⟩
 refine ⟨_, rfl, hb, ?_⟩
 replace EY := hid (EY.out.trans hb)
 clear hb
 refine WE.pp 11 (.bool false) ?_
 simp only [Act.put, pA, pB, pC]
 refine WE.done ?_
 go_upto_region 3 with (fail)
 refine wp_region_S [(0, 0), (1, 1), (2, 0), (3, 0), (4, 0), (5, 1), (6, 0), (7, 0)] fun wd hb => ?_
 replace EY := hid (EY.out.trans hb)
 clear hb
 refine WE.qq 12 (.agg #[.slice Aa na ca, .bool ga, .slice Ba ma da]) rfl (fun w' hk => by obtain ⟨ce0, ce1, ce2⟩ := ((BX0.out.up EY.out).up hk).c3; go_simp) ?_
 refine WE.cc 13 ((fewL7_any (g1 := ga) (HLa.out.up (E.out.trans EY.out)) (HKa.out.up (E.out.trans EY.out)) fa.out).mono ?_)
 rintro e wn ⟨rfl, hb⟩
 refine ⟨_, rfl, hb, ?_⟩
 replace EY := hid (EY.out.trans hb)
 clear hb
 refine WE.pp 14 (.bool false) ?_
 refine WE.pp 15 (.bool false) ?_
 refine WE.pp 16 (.slice Ax nx cx) ?_
 refine WE.cc 17 ((fewP7_any (HPx.out.up (E.out.trans EY.out)) fx.out).mono ?_)
 rintro e wn ⟨rfl, hb⟩
 refine ⟨_, rfl, hb, ?_⟩
 replace EY := hid (EY.out.trans hb)
 clear hb
 simp only [Act.put, pA, pB, pC]
 refine WE.pp 18 (.bool false) ?_
 refine WE.pp 19 (.bool false) ?_
 simp only [Act.put, pA, pB, pC]
 refine WE.done ?_
 go_upto_region 5 with (fail)
 refine wp_region_S [(0, 0), (1, 1), (2, 0), (3, 0), (4, 0), (5, 1), (6, 4), (7, 0)] fun wd hb => ?_
 replace EY := hid (EY.out.trans hb)
 clear hb
 refine WE.qq 21 (.agg #[.slice Aa na ca, .bool ga, .slice Ba ma da]) rfl (fun w' hk => by obtain ⟨ce0, ce1, ce2⟩ := ((BX0.out.up EY.out).up hk).c3; go_simp) ?_
 refine WE.cc 22 ((normB_to (WorthL.wide (HAa.out.up (E.out.trans EY.out)) (U := 4) (by omega)) (by omega) (Nat.le_trans NAa.out (by decide)) (s := (M.nT t)) (μ := (M.nK t κ)) (c := 3) (rfl) (rfl) (HC.out)).mono ?_)
 rintro e wn ⟨v1, rfl, x1, hb⟩
 obtain ⟨A11, n11, c11, g11, B11, m11, d11, rfl⟩ := x1.shape
 refine ⟨_, rfl, hb, ?_⟩
 replace EY := hid (EY.out.trans hb)
 have S11 := hid x1
 clear hb x1
 refine WE.pp 20 (.tuple #[(.agg #[.slice A11 n11 c11, .bool g11, .slice B11 m11 d11]), (.int .i64 3)]) ?_
 refine WE.pp 23 (.agg #[.slice A11 n11 c11, .bool g11, .slice B11 m11 d11]) ?_
 refine WE.pp 24 (.int .i64 3) ?_
 simp only [Act.put, pA, pB, pC]
 refine WE.new (d := some 5) (cs := #[.slice none 0 0, .bool false, .slice none 0 0]) (t := 27) (v := fun g => (.pointer (some ⟨g, 0, none⟩))) rfl rfl (by rfl) (fun w => by go_simp) fun gV5 wv hx0 hbox hge => ?_
 have HNV5BX0 := hid (show gV5 ≠ (W.heap.size) by have := (BX0.out.up EY.out).lt; omega)
 have HGV5 := hid (show W.heap.size ≤ gV5 by have := (E.out.trans EY.out).size; omega)
 replace EY := hid (EY.out.trans hx0)
 replace S11 := hid (S11.out.up hx0)
 have V5 : Hid (Box wv gV5 #[.slice none 0 0, .bool false, .slice none 0 0] 27) := hid hbox
 clear hx0 hbox hge
 simp only [Act.put, pA, pB, pC]
 refine WE.store3 (g := gV5) (x := .slice A11 n11 c11) (y := .bool g11) (z := .slice B11 m11 d11) (t := 27) rfl rfl (by rfl) (fun w hb => ?_) V5.out (by rfl) fun ws hk hs => ?_
 ·obtain ⟨ce0, ce1, ce2⟩ := hb.c3; obtain ⟨f0, f1, f2⟩ := hb.f3; go_simp
 intro hbx
 replace S11 := hid (S11.out.kb V5.out (by rfl) hk hs)
 replace E := hid ((E.out.trans EY.out).keptG hk HGV5.out)
 replace BX0 := hid ((BX0.out.up EY.out).kept hk (by simpa using HNV5BX0.out.symm))
 replace V5 := hid hbx
 clear hk hs hbx
 replace EY := hid (Ext.refl ws)
 refine WE.pp 6 (.int .i64 3) ?_
 simp only [Act.put, pA, pB, pC]
 refine WE.done ?_
 go_upto_region 6 with (fail)
 refine wp_region_S [(0, 0), (1, 0), (2, 1), (3, 0)] fun wd hb => ?_
 replace EY := hid (EY.out.trans hb)
 clear hb
 refine WE.qq 25 (.agg #[.slice Aa na ca, .bool ga, .slice Ba ma da]) rfl (fun w' hk => by obtain ⟨ce0, ce1, ce2⟩ := ((BX0.out.up EY.out).up hk).c3; go_simp) ?_
 refine WE.pp 26 (.slice Ax nx cx) ?_
 refine WE.cc 27 ((holdsB_l (WorthL.wide (HAa.out.up (E.out.trans EY.out)) (U := 4) (by omega)) (hp := HPx.out.up (E.out.trans EY.out)) (fun x hx => Nat.le_trans (HPSx.out.1 x hx) (by decide)) (by omega) (Nat.le_trans NAa.out (by decide)) (b := false) (HB.out)).mono ?_)
 rintro e wn ⟨rfl, hb⟩
 refine ⟨_, rfl, hb, ?_⟩
 replace EY := hid (EY.out.trans hb)
 clear hb
 refine WE.pp 7 (.bool false) ?_
 simp only [Act.put, pA, pB, pC]
 refine WE.done ?_
 go_upto_region 7 with (fail)
 refine wp_region_S [(0, 0), (1, 1), (2, 0), (3, 0), (4, 0), (5, 1), (6, 4), (7, 0)] fun wd hb => ?_
 replace EY := hid (EY.out.trans hb)
 clear hb
 refine WE.qq 29 (.agg #[.slice A11 n11 c11, .bool g11, .slice B11 m11 d11]) rfl (fun w' hk => by obtain ⟨ce0, ce1, ce2⟩ := ((V5.out.up EY.out).up hk).c3; go_simp) ?_
 refine WE.cc 30 ((normB_to (WorthL.wide (S11.out.up EY.out).worth (U := 8) (by omega)) (by omega) (Nat.le_trans (Nat.le_trans (Nat.le_of_eq (M.nT_len _)) NAa.out) (by decide)) (s := (M.nT t)) (μ := (M.nK t κ)) (c := 3) (M.nT_nT OA.out) (M.nK_nK OA.out _) (by rw [M.nC_nT OA.out]; exact HC.out)).mono ?_)
 rintro e wn ⟨v1, rfl, x1, hb⟩
 obtain ⟨A12, n12, c12, g12, B12, m12, d12, rfl⟩ := x1.shape
 refine ⟨_, rfl, hb, ?_⟩
 replace EY := hid (EY.out.trans hb)
 have S12 := hid x1
 clear hb x1
 refine WE.pp 28 (.tuple #[(.agg #[.slice A12 n12 c12, .bool g12, .slice B12 m12 d12]), (.int .i64 3)]) ?_
 refine WE.pp 31 (.agg #[.slice A12 n12 c12, .bool g12, .slice B12 m12 d12]) ?_
 refine WE.pp 32 (.int .i64 3) ?_
 simp only [Act.put, pA, pB, pC]
 refine WE.new (d := some 8) (cs := #[.slice none 0 0, .bool false, .slice none 0 0]) (t := 27) (v := fun g => (.pointer (some ⟨g, 0, none⟩))) rfl rfl (by rfl) (fun w => by go_simp) fun gV8 wv hx0 hbox hge => ?_
 have HNV8BX0 := hid (show gV8 ≠ (W.heap.size) by have := (BX0.out.up EY.out).lt; omega)
 have HNV8V5 := hid (show gV8 ≠ gV5 by have := (V5.out.up EY.out).lt; omega)
 have HGV8 := hid (show W.heap.size ≤ gV8 by have := (E.out.trans EY.out).size; omega)
 replace EY := hid (EY.out.trans hx0)
 replace S12 := hid (S12.out.up hx0)
 have V8 : Hid (Box wv gV8 #[.slice none 0 0, .bool false, .slice none 0 0] 27) := hid hbox
 clear hx0 hbox hge
 simp only [Act.put, pA, pB, pC]
 refine WE.store3 (g := gV8) (x := .slice A12 n12 c12) (y := .bool g12) (z := .slice B12 m12 d12) (t := 27) rfl rfl (by rfl) (fun w hb => ?_) V8.out (by rfl) fun ws hk hs => ?_
 ·obtain ⟨ce0, ce1, ce2⟩ := hb.c3; obtain ⟨f0, f1, f2⟩ := hb.f3; go_simp
 intro hbx
 replace S11 := hid ((S11.out.up EY.out).kb V8.out (by rfl) hk hs)
 replace S12 := hid (S12.out.kb V8.out (by rfl) hk hs)
 replace E := hid ((E.out.trans EY.out).keptG hk HGV8.out)
 replace BX0 := hid ((BX0.out.up EY.out).kept hk (by simpa using HNV8BX0.out.symm))
 replace V5 := hid ((V5.out.up EY.out).kept hk (by simpa using HNV8V5.out.symm))
 replace V8 := hid hbx
 clear hk hs hbx
 replace EY := hid (Ext.refl ws)
 refine WE.pp 9 (.int .i64 3) ?_
 simp only [Act.put, pA, pB, pC]
 refine WE.done ?_
 go_upto_region 8 with (fail)
 refine wp_region_S [(0, 0), (1, 0), (2, 0), (3, 0), (4, 0), (5, 0), (6, 0), (7, 0), (8, 0), (9, 0), (10, 0), (11, 0), (12, 0), (13, 0), (14, 0), (15, 0), (16, 0), (17, 0), (18, 0), (19, 0), (20, 0), (21, 0), (22, 0), (23, 0), (24, 0)] fun wd hb => ?_
 replace EY := hid (EY.out.trans hb)
 clear hb
 refine WE.pp 33 (.int .i64 3) ?_
 refine WE.pp 34 (.bool true) ?_
 refine WE.pp 35 (.bool true) ?_
 refine WE.pp 36 (.int .i64 3) ?_
 refine WE.pp 37 (.bool false) ?_
 refine WE.pp 38 (.bool false) ?_
 simp only [Act.put, pA, pB, pC]
 refine WE.pp 39 (.bool false) ?_
 refine WE.ss 40 ?_
 refine WE.ss 41 ?_
 refine WE.pp 42 (.bool false) ?_
 refine WE.pp 43 (.bool false) ?_
 refine WE.pp 44 (.int .i64 3) ?_
 simp only [Act.put, pA, pB, pC]
 refine WE.pp 45 (.bool false) ?_
 refine WE.pp 46 (.bool false) ?_
 refine WE.ss 47 ?_
 refine WE.ss 48 ?_
 refine WE.pp 49 (.bool false) ?_
 refine WE.pp 50 (.bool false) ?_
 simp only [Act.put, pA, pB, pC]
 refine WE.pp 51 (.bool false) ?_
 refine WE.pp 52 (.int .i64 3) ?_
 refine WE.pp 53 (.bool true) ?_
 refine WE.pp 54 (.bool true) ?_
 refine WE.pp 55 (.bool false) ?_
 refine WE.pp 56 (.bool false) ?_
 simp only [Act.put, pA, pB, pC]
 refine WE.pp 57 (.bool false) ?_
 simp only [Act.put, pA, pB, pC]
 refine WE.done ?_
 go_upto_region 10 with (fail)
 refine wp_region_S [(0, 0), (1, 0), (2, 1), (3, 0), (4, 0), (5, 0), (6, 0), (7, 1), (8, 0), (9, 1), (10, 0), (11, 0), (12, 0), (13, 0), (14, 0), (15, 1), (16, 1), (17, 0), (18, 1), (19, 0), (20, 0), (21, 0), (22, 0), (23, 0), (24, 0), (25, 1), (26, 0), (27, 0), (28, 0), (29, 0), (30, 0), (31, 0), (32, 0)] fun wd hb => ?_
 replace EY := hid (EY.out.trans hb)
 clear hb
 refine WE.qq 58 (.agg #[.slice A11 n11 c11, .bool g11, .slice B11 m11 d11]) rfl (fun w' hk => by obtain ⟨ce0, ce1, ce2⟩ := ((V5.out.up EY.out).up hk).c3; go_simp) ?_
 refine WE.pp 59 (.slice Ax nx cx) ?_
 refine WE.cc 60 ((holdsB_l (WorthL.wide (S11.out.up EY.out).worth (U := 8) (by omega)) (hp := HPx.out.up (E.out.trans EY.out)) (fun x hx => Nat.le_trans (HPSx.out.1 x hx) (by decide)) (by omega) (Nat.le_trans (Nat.le_trans (Nat.le_of_eq (M.nT_len _)) NAa.out) (by decide)) (b := false) (HNN.out)).mono ?_)
 rintro e wn ⟨rfl, hb⟩
 refine ⟨_, rfl, hb, ?_⟩
 replace EY := hid (EY.out.trans hb)
 clear hb
 refine WE.pp 61 (.bool false) ?_
 refine WE.pp 62 (.bool true) ?_
 refine WE.pp 63 (.bool true) ?_
 simp only [Act.put, pA, pB, pC]
 refine WE.qq 64 (.agg #[.slice Aa na ca, .bool ga, .slice Ba ma da]) rfl (fun w' hk => by obtain ⟨ce0, ce1, ce2⟩ := ((BX0.out.up EY.out).up hk).c3; go_simp) ?_
 refine WE.cc 65 ((notB_l (WorthL.wide (HAa.out.up (E.out.trans EY.out)) (U := 4) (by omega)) (by omega) (Nat.le_trans NAa.out (by decide))).mono ?_)
 rintro e wn ⟨v1, rfl, x1, hb⟩
 obtain ⟨A13, n13, c13, g13, B13, m13, d13, rfl⟩ := x1.shape
 refine ⟨_, rfl, hb, ?_⟩
 replace EY := hid (EY.out.trans hb)
 have S13 := hid x1
 clear hb x1
 refine WE.pp 66 (.slice Ax nx cx) ?_
 refine WE.cc 67 ((holdsB_l (WorthL.wide S13.out.worth (U := 8) (by omega)) (hp := HPx.out.up (E.out.trans EY.out)) (fun x hx => Nat.le_trans (HPSx.out.1 x hx) (by decide)) (by omega) (Nat.le_trans (Nat.le_trans (M.scaleT_len _ _) NAa.out) (by decide)) (b := true) (HNB.out)).mono ?_)
 rintro e wn ⟨rfl, hb⟩
 refine ⟨_, rfl, hb, ?_⟩
 replace EY := hid (EY.out.trans hb)
 clear hb
 refine WE.pp 68 (.bool false) ?_
 refine WE.pp 69 (.bool true) ?_
 simp only [Act.put, pA, pB, pC]
 refine WE.pp 70 (.bool true) ?_
 refine WE.pp 71 (.bool true) ?_
 refine WE.qq 72 (.agg #[.slice Aa na ca, .bool ga, .slice Ba ma da]) rfl (fun w' hk => by obtain ⟨ce0, ce1, ce2⟩ := ((BX0.out.up EY.out).up hk).c3; go_simp) ?_
 refine WE.cc 73 ((notB_l (WorthL.wide (HAa.out.up (E.out.trans EY.out)) (U := 4) (by omega)) (by omega) (Nat.le_trans NAa.out (by decide))).mono ?_)
 rintro e wn ⟨v1, rfl, x1, hb⟩
 obtain ⟨A14, n14, c14, g14, B14, m14, d14, rfl⟩ := x1.shape
 refine ⟨_, rfl, hb, ?_⟩
 replace EY := hid (EY.out.trans hb)
 have S14 := hid x1
 clear hb x1
 refine WE.cc 74 ((notB_to (WorthL.wide S14.out.worth (U := 8) (by omega)) (by omega) (Nat.le_trans (Nat.le_trans (M.scaleT_len _ _) NAa.out) (by decide)) (s := t) (μ := κ) (M.not_not t κ).1 (M.not_not t κ).2).mono ?_)
 rintro e wn ⟨v1, rfl, x1, hb⟩
 obtain ⟨A15, n15, c15, g15, B15, m15, d15, rfl⟩ := x1.shape
 refine ⟨_, rfl, hb, ?_⟩
 replace EY := hid (EY.out.trans hb)
 have S15 := hid x1
 clear hb x1
 refine WE.pp 75 (.slice Ax nx cx) ?_
 simp only [Act.put, pA, pB, pC]
 refine WE.cc 76 ((holdsB_l (WorthL.wide S15.out.worth (U := 12) (by omega)) (hp := HPx.out.up (E.out.trans EY.out)) (fun x hx => Nat.le_trans (HPSx.out.1 x hx) (by decide)) (by omega) (Nat.le_trans NAa.out (by decide)) (b := false) (HB.out)).mono ?_)
 rintro e wn ⟨rfl, hb⟩
 refine ⟨_, rfl, hb, ?_⟩
 replace EY := hid (EY.out.trans hb)
 clear hb
 refine WE.pp 77 (.bool false) ?_
 refine WE.pp 78 (.bool true) ?_
 refine WE.pp 79 (.bool true) ?_
 refine WE.pp 80 (.bool true) ?_
 refine WE.qq 81 (.agg #[.slice A12 n12 c12, .bool g12, .slice B12 m12 d12]) rfl (fun w' hk => by obtain ⟨ce0, ce1, ce2⟩ := ((V8.out.up EY.out).up hk).c3; go_simp) ?_
 simp only [Act.put, pA, pB, pC]
 refine WE.qq 82 (.agg #[.slice A11 n11 c11, .bool g11, .slice B11 m11 d11]) rfl (fun w' hk => by obtain ⟨ce0, ce1, ce2⟩ := ((V5.out.up EY.out).up hk).c3; go_simp) ?_
 refine WE.cc 83 ((rEqualL_l (S12.out.up EY.out) (S11.out.up EY.out) (b := true) (decide_eq_true ⟨rfl, rfl⟩)).mono ?_)
 rintro e wn ⟨rfl, hb⟩
 refine ⟨_, rfl, hb, ?_⟩
 replace EY := hid (EY.out.trans hb)
 clear hb
 refine WE.pp 84 (.bool true) ?_
 refine WE.pp 85 (.bool true) ?_
 refine WE.pp 86 (.int .i64 3) ?_
 refine WE.pp 87 (.int .i64 3) ?_
 simp only [Act.put, pA, pB, pC]
 refine WE.pp 88 (.bool true) ?_
 refine WE.pp 89 (.bool true) ?_
 refine WE.pp 4 (.bool true) ?_
 simp only [Act.put, pA, pB, pC]
 refine WE.done ?_
 repeat go_step
 go_ret
 exact ⟨rfl, (E.out.trans EY.out)⟩

theorem belowSame_walk (W : World) (Aa : Option Addr) (na ca : Nat) (la : List (Int × Bool × List Nat)) (ga : Bool) (Ba : Option Addr) (ma da : Nat) (ka : List Nat) (ha : LList W (.slice Aa na ca) la) (ia : Num W W.heap.size (.slice Ba ma da) ka) (Ax : Option Addr) (nx cx : Nat) (lx : List (Bool × List Nat)) (hx : ZList W (.slice Ax nx cx) lx) :
 Calls Tryz.prog 6 #[.agg #[.slice Aa na ca, .bool ga, .slice Ba ma da], .slice Ax nx cx] W (fun e w' => e = .returned (.bool true) ∧ Ext W w') := by
 rcases fa : (M.fewL la ka) with _ | _
 ·exact belowSame_skip0 W Aa na ca la ga Ba ma da ka ha ia Ax nx cx lx hx (hid fa)
 rcases fx : (M.fewP lx) with _ | _
 ·exact belowSame_skip1 W Aa na ca la ga Ba ma da ka ha ia Ax nx cx lx hx (hid fa) (hid fx)
 rcases M.nC_cases (M.ft la ga ka) (M.fk la ga ka) with h | h | h
 ·exact belowSame_open W Aa na ca la ga Ba ma da ka ha ia Ax nx cx lx hx (hid fa) (hid fx) (hid h)
 ·exact belowSame_yes W Aa na ca la ga Ba ma da ka ha ia Ax nx cx lx hx (hid fa) (hid fx) (hid h)
 ·exact belowSame_no W Aa na ca la ga Ba ma da ka ha ia Ax nx cx lx hx (hid fa) (hid fx) (hid h)

set_option maxRecDepth 100000 in
theorem belowSame_lifted (os : Os) (started : os.Started) (H : Type) (enc : TypeId × Value → H) :
 ReturnsInHanded {} Tryz.checked os 6 .any (Rows.belowSameSpec.pre6 enc Tryz.prog Tryz.f6 Rows.belowSameRow.domain false) (Rows.belowSameSpec.post enc Tryz.prog Tryz.f6 false true false false) := by
 refine returnsInHanded_of_change (C := Tryz.checked) own started (by kernel_rfl) Tryz.func6
  (ChangeSpec.witness6 (enc := enc) (C := Tryz.checked) false ⟨#[], #[.agg #[.slice none 0 0, .bool false, .slice none 0 0], .slice none 0 0], []⟩ 8 (by kernel_rfl) (by kernel_rfl) (by kernel_rfl) (by kernel_rfl)) ?_
 intro W base args ds gs before hval0 hW _ _
 have hval : ∀ (j : Nat) t v, Tryz.f6.params[j]? = some t → args[j]? = some v → Value.okWide Tryz.prog W .any base t v := hval0
 have hW' := hW
 obtain ⟨p, q, hA0, hV, rfl, hfz, hnd⟩ := hW
 have hA : DataW.TrodAll enc Tryz.prog W 0 (fun _ => true) true Tryz.f6.params.toList args.toList ds p := hA0
 rw [Tryz.params6] at hA hval
 obtain ⟨v0, vs0, d0, ds0, p0, q0, hargs, rfl, rfl, h0, r0⟩ := trodAll_cons hA
 obtain ⟨v1, vs1, d1, ds1, p1, q1, rfl, rfl, rfl, h1, r1⟩ := trodAll_cons r0
 obtain ⟨rfl, rfl, rfl⟩ := trodAll_nil r1
 obtain rfl : args = #[v0, v1] := by cases args; simp_all
 obtain ⟨rfl, rfl⟩ := trodVars_none hV
 obtain ⟨A0, n0, c0, l0, g0, B0, m0, q0, t0, rfl, e0, f0⟩ := open_L (hval 0 27 _ rfl rfl) h0
 obtain ⟨A1, n1, c1, l1, rfl, e1⟩ := open_ZL (hval 1 28 _ rfl rfl) h1
 clear hA0 hval0
 refine (belowSame_walk W A0 n0 c0 l0 g0 B0 m0 q0 t0 e0 f0 A1 n1 c1 l1 e1).mono fun e W' ⟨he, hg⟩ => ?_
 subst he
 exact ⟨_, rfl, law_post hW' rfl rfl (by kernel_rfl) (by kernel_rfl) hg⟩

theorem belowSame_over : Rows.belowSameRow.holds Tryz.pinned (OpenSpec.ofChange Rows.belowSameSpec) :=
 OpenClaim.holds_of_wide 6 Tryz.f6 rfl rfl rfl rfl rfl rfl rfl ⟨rfl, rfl, rfl, rfl, rfl⟩ rfl rfl rfl rfl rfl (by kernel_rfl) Tryz.func6 (by kernel_rfl)
  (of_decide_eq_true (by kernel_rfl)) (by unfold Func.isWrapper; first | (rw [if_pos (by decide +kernel)]; kernel_rfl) | (rw [if_neg (by decide +kernel)]; exact ⟨rfl, rfl⟩))
  (fun os started H enc _ => belowSame_lifted os started H enc)

theorem belowSame_proved : Rows.BelowSameSaid := belowSame_over

end Go.Proofs.YtklmnmkmpkobhaaGreat
