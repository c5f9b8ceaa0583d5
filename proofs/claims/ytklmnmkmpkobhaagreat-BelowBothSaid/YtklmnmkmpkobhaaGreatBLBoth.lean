/-
  BelowBoth: whatever form (or what is none), whatever point: true. No conditions.
-/
import Derived.Test.YtklmnmkmpkobhaaGreatBKnown
namespace Go.Proofs.YtklmnmkmpkobhaaGreat
open Go.ChangeShapes Go.WideShapes Go.ChangeAt Go.RowKit
set_option linter.unusedSimpArgs false
set_option linter.unusedVariables false

theorem M.len1 {t : M.Tm} {κ : Int} (h : t.length ≤ 1000) : ∀ x ∈ [(t, κ)], x.1.length ≤ 1000 := by
 intro x hx
 rw [List.mem_singleton] at hx
 subst hx
 exact h
theorem M.len2 {t s : M.Tm} {κ μ : Int} (h : t.length ≤ 1000) (k : s.length ≤ 1000) : ∀ x ∈ [(t, κ), (s, μ)], x.1.length ≤ 1000 := by
 intro x hx
 rw [List.mem_cons, List.mem_singleton] at hx
 rcases hx with rfl | rfl
 ·exact h
 ·exact k

set_option maxRecDepth 100000 in
set_option maxHeartbeats 2000000 in
theorem belowBoth_skip0 (W : World) (Aa : Option Addr) (na ca : Nat) (la : List (Int × Bool × List Nat)) (ga : Bool) (Ba : Option Addr) (ma da : Nat) (ka : List Nat) (ha : LList W (.slice Aa na ca) la) (ia : Num W W.heap.size (.slice Ba ma da) ka) (Ax : Option Addr) (nx cx : Nat) (lx : List (Bool × List Nat)) (hx : ZList W (.slice Ax nx cx) lx) (fa : Hid (M.fewL la ka = false)) :
 Calls Tryz.prog 8 #[.agg #[.slice Aa na ca, .bool ga, .slice Ba ma da], .slice Ax nx cx] W (fun e w' => e = .returned (.bool true) ∧ Ext W w') := by
 have HLa := hid ha
 have HKa := hid ia
 clear ha ia
 have HPCx := hid hx.count
 have hb9x : nx ≤ 9223372036854775807 := hx.count.2.2
 clear hx
 go_enter Tryz.func8, Tryz.ntmps8
 go_upto_region 1 with (fail)
 obtain ⟨E, BX0⟩ := open1 W #[.slice Aa na ca, .bool ga, .slice Ba ma da] 27
 refine wp_region_S [(0, 1), (1, 0)] fun wd hb => ?_
 replace E := hid (E.out.trans hb)
 replace BX0 := hid (BX0.out.up hb)
 clear hb
 have EY := hid (Ext.refl wd)
 refine WE.cc 6 ((known7 _).mono ?_)
 rintro e wn ⟨rfl, hb⟩
 refine ⟨_, rfl, hb, ?_⟩
 replace EY := hid (EY.out.trans hb)
 clear hb
 refine WE.pp 7 (.bool false) ?_
 simp only [Act.put, pA, pB, pC]
 refine WE.done ?_
 go_upto_region 3 with (fail)
 refine wp_region_S [(0, 0), (1, 1), (2, 0), (3, 0), (4, 0), (5, 1), (6, 0), (7, 0)] fun wd hb => ?_
 replace EY := hid (EY.out.trans hb)
 clear hb
 refine WE.qq 8 (.agg #[.slice Aa na ca, .bool ga, .slice Ba ma da]) rfl (fun w' hk => by obtain ⟨ce0, ce1, ce2⟩ := ((BX0.out.up EY.out).up hk).c3; go_simp) ?_
 refine WE.cc 9 ((fewL7_any (g1 := ga) (HLa.out.up (E.out.trans EY.out)) (HKa.out.up (E.out.trans EY.out)) fa.out).mono ?_)
 rintro e wn ⟨rfl, hb⟩
 refine ⟨_, rfl, hb, ?_⟩
 replace EY := hid (EY.out.trans hb)
 clear hb
 refine WE.pp 10 (.bool true) ?_
 refine WE.pp 11 (.bool true) ?_
 refine WE.ss 12 ?_
 refine WE.tt 13 ?_
 simp only [Act.put, pA, pB, pC]
 refine WE.ss 14 ?_
 refine WE.pp 15 (.bool true) ?_
 simp only [Act.put, pA, pB, pC]
 refine WE.done ?_
 go_upto_region 4 with (fail)
 refine wp_region_S [(0, 0)] fun wd hb => ?_
 replace EY := hid (EY.out.trans hb)
 clear hb
 refine WE.pp 4 (.bool true) ?_
 simp only [Act.put, pA, pB, pC]
 refine WE.done ?_
 repeat go_step
 go_ret
 exact ⟨rfl, (E.out.trans EY.out)⟩

set_option maxRecDepth 100000 in
set_option maxHeartbeats 2000000 in
theorem belowBoth_skip1 (W : World) (Aa : Option Addr) (na ca : Nat) (la : List (Int × Bool × List Nat)) (ga : Bool) (Ba : Option Addr) (ma da : Nat) (ka : List Nat) (ha : LList W (.slice Aa na ca) la) (ia : Num W W.heap.size (.slice Ba ma da) ka) (Ax : Option Addr) (nx cx : Nat) (lx : List (Bool × List Nat)) (hx : ZList W (.slice Ax nx cx) lx) (fa : Hid (M.fewL la ka = true)) (fx : Hid (M.fewP lx = false)) :
 Calls Tryz.prog 8 #[.agg #[.slice Aa na ca, .bool ga, .slice Ba ma da], .slice Ax nx cx] W (fun e w' => e = .returned (.bool true) ∧ Ext W w') := by
 have HLa := hid ha
 have HKa := hid ia
 clear ha ia
 have HPx := hid hx
 have HPCx := hid hx.count
 have hb9x : nx ≤ 9223372036854775807 := hx.count.2.2
 clear hx
 go_enter Tryz.func8, Tryz.ntmps8
 go_upto_region 1 with (fail)
 obtain ⟨E, BX0⟩ := open1 W #[.slice Aa na ca, .bool ga, .slice Ba ma da] 27
 refine wp_region_S [(0, 1), (1, 0)] fun wd hb => ?_
 replace E := hid (E.out.trans hb)
 replace BX0 := hid (BX0.out.up hb)
 clear hb
 have EY := hid (Ext.refl wd)
 refine WE.cc 6 ((known7 _).mono ?_)
 rintro e wn ⟨rfl, hb⟩
 refine ⟨_, rfl, hb, ?_⟩
 replace EY := hid (EY.out.trans hb)
 clear hb
 refine WE.pp 7 (.bool false) ?_
 simp only [Act.put, pA, pB, pC]
 refine WE.done ?_
 go_upto_region 3 with (fail)
 refine wp_region_S [(0, 0), (1, 1), (2, 0), (3, 0), (4, 0), (5, 1), (6, 0), (7, 0)] fun wd hb => ?_
 replace EY := hid (EY.out.trans hb)
 clear hb
 refine WE.qq 8 (.agg #[.slice Aa na ca, .bool ga, .slice Ba ma da]) rfl (fun w' hk => by obtain ⟨ce0, ce1, ce2⟩ := ((BX0.out.up EY.out).up hk).c3; go_simp) ?_
 refine WE.cc 9 ((fewL7_any (g1 := ga) (HLa.out.up (E.out.trans EY.out)) (HKa.out.up (E.out.trans EY.out)) fa.out).mono ?_)
 rintro e wn ⟨rfl, hb⟩
 refine ⟨_, rfl, hb, ?_⟩
 replace EY := hid (EY.out.trans hb)
 clear hb
 refine WE.pp 10 (.bool false) ?_
 refine WE.pp 11 (.bool false) ?_
 refine WE.pp 12 (.slice Ax nx cx) ?_
 refine WE.cc 13 ((fewP7_any (HPx.out.up (E.out.trans EY.out)) fx.out).mono ?_)
 rintro e wn ⟨rfl, hb⟩
 refine ⟨_, rfl, hb, ?_⟩
 replace EY := hid (EY.out.trans hb)
 clear hb
 simp only [Act.put, pA, pB, pC]
 refine WE.pp 14 (.bool true) ?_
 refine WE.pp 15 (.bool true) ?_
 simp only [Act.put, pA, pB, pC]
 refine WE.done ?_
 go_upto_region 4 with (fail)
 refine wp_region_S [(0, 0)] fun wd hb => ?_
 replace EY := hid (EY.out.trans hb)
 clear hb
 refine WE.pp 4 (.bool true) ?_
 simp only [Act.put, pA, pB, pC]
 refine WE.done ?_
 repeat go_step
 go_ret
 exact ⟨rfl, (E.out.trans EY.out)⟩

set_option maxRecDepth 100000 in
set_option maxHeartbeats 16000000 in
theorem belowBoth_true (W : World) (Aa : Option Addr) (na ca : Nat) (la : List (Int × Bool × List Nat)) (ga : Bool) (Ba : Option Addr) (ma da : Nat) (ka : List Nat) (ha : LList W (.slice Aa na ca) la) (ia : Num W W.heap.size (.slice Ba ma da) ka) (Ax : Option Addr) (nx cx : Nat) (lx : List (Bool × List Nat)) (hx : ZList W (.slice Ax nx cx) lx) (fa : Hid (M.fewL la ka = true)) (fx : Hid (M.fewP lx = true)) (hway : Hid (M.hl (M.valAt lx) (M.ft la ga ka, M.fk la ga ka) = true)) :
 Calls Tryz.prog 8 #[.agg #[.slice Aa na ca, .bool ga, .slice Ba ma da], .slice Ax nx cx] W (fun e w' => e = .returned (.bool true) ∧ Ext W w') := by
 have HLa := hid ha
 have HKa := hid ia
 obtain ⟨qa, qb, qc⟩ := M.fewL_parts fa.out
 obtain ⟨t, hta⟩ : ∃ t, t = M.ft la ga ka := ⟨_, rfl⟩
 obtain ⟨κ, hka⟩ : ∃ k, k = M.fk la ga ka := ⟨_, rfl⟩
 have HAa := hid (worthL_of ha ia qa qc hta hka)
 have NAa := hid (show t.length ≤ 8 by rw [hta]; exact Nat.le_trans (M.ft_len _ _ _) qb)
 clear qa qb qc
 clear ha ia
 have HPx := hid hx
 have HPCx := hid hx.count
 have hb9x : nx ≤ 9223372036854775807 := hx.count.2.2
 have HPSx := hid (M.fewP_parts fx.out)
 clear hx
 have HB := hid (show M.hl (M.valAt lx) (t, κ) = true by rw [hta, hka]; exact hway.out)
 clear hta hka
 have HNB := hid (show M.hl (M.valAt lx) (M.scaleT t (-1), 1 + κ * -1) = false by unfold M.hl; rw [show decide (1 + κ * -1 + M.atT (M.valAt lx) (M.scaleT t (-1)) ≤ 0) = !decide (κ + M.atT (M.valAt lx) t ≤ 0) by rw [← decide_not, decide_eq_decide]; exact M.not_holds _ _ _, show decide (κ + M.atT (M.valAt lx) t ≤ 0) = true from HB.out]; rfl)
 go_enter Tryz.func8, Tryz.ntmps8
 go_upto_region 1 with (fail)
 obtain ⟨E, BX0⟩ := open1 W #[.slice Aa na ca, .bool ga, .slice Ba ma da] 27
 refine wp_region_S [(0, 1), (1, 0)] fun wd hb => ?_
 replace E := hid (E.out.trans hb)
 replace BX0 := hid (BX0.out.up hb)
 clear hb
 have EY := hid (Ext.refl wd)
 refine WE.cc 6 ((known7 _).mono ?_)
 rintro e wn ⟨rfl, hb⟩
 refine ⟨_, rfl, hb, ?_⟩
 replace EY := hid (EY.out.trans hb)
 clear hb
 refine WE.pp 7 (.bool false) ?_
 simp only [Act.put, pA, pB, pC]
 refine WE.done ?_
 go_upto_region 3 with (fail)
 refine wp_region_S [(0, 0), (1, 1), (2, 0), (3, 0), (4, 0), (5, 1), (6, 0), (7, 0)] fun wd hb => ?_
 replace EY := hid (EY.out.trans hb)
 clear hb
 refine WE.qq 8 (.agg #[.slice Aa na ca, .bool ga, .slice Ba ma da]) rfl (fun w' hk => by obtain ⟨ce0, ce1, ce2⟩ := ((BX0.out.up EY.out).up hk).c3; go_simp) ?_
 refine WE.cc 9 ((fewL7_any (g1 := ga) (HLa.out.up (E.out.trans EY.out)) (HKa.out.up (E.out.trans EY.out)) fa.out).mono ?_)
 rintro e wn ⟨rfl, hb⟩
 refine ⟨_, rfl, hb, ?_⟩
 replace EY := hid (EY.out.trans hb)
 clear hb
 refine WE.pp 10 (.bool false) ?_
 refine WE.pp 11 (.bool false) ?_
 refine WE.pp 12 (.slice Ax nx cx) ?_
 refine WE.cc 13 ((fewP7_any (HPx.out.up (E.out.trans EY.out)) fx.out).mono ?_)
 rintro e wn ⟨rfl, hb⟩
 refine ⟨_, rfl, hb, ?_⟩
 replace EY := hid (EY.out.trans hb)
 clear hb
 simp only [Act.put, pA, pB, pC]
 refine WE.pp 14 (.bool false) ?_
 refine WE.pp 15 (.bool false) ?_
 simp only [Act.put, pA, pB, pC]
 refine WE.done ?_
 go_upto_region 5 with (fail)
 refine wp_region_S [(0, 0), (1, 1), (2, 1), (3, 4)] fun wd hb => ?_
 replace EY := hid (EY.out.trans hb)
 clear hb
 refine WE.qq 16 (.agg #[.slice Aa na ca, .bool ga, .slice Ba ma da]) rfl (fun w' hk => by obtain ⟨ce0, ce1, ce2⟩ := ((BX0.out.up EY.out).up hk).c3; go_simp) ?_
 refine WE.cc 17 ((notB_l (WorthL.wide (HAa.out.up (E.out.trans EY.out)) (U := 4) (by omega)) (by omega) (Nat.le_trans NAa.out (by decide))).mono ?_)
 rintro e wn ⟨v1, rfl, x1, hb⟩
 obtain ⟨A11, n11, c11, g11, B11, m11, d11, rfl⟩ := x1.shape
 refine ⟨_, rfl, hb, ?_⟩
 replace EY := hid (EY.out.trans hb)
 have S11 := hid x1
 clear hb x1
 simp only [Act.put, pA, pB, pC]
 refine WE.new (d := some 5) (cs := #[.slice none 0 0, .bool false, .slice none 0 0]) (t := 27) (v := fun g => (.pointer (some ⟨g, 0, none⟩))) rfl rfl (by rfl) (fun w => by go_simp) fun gV5 wv hx0 hbox hge => ?_
 have HNV5BX0 := hid (show gV5 ≠ (W.heap.size) by have := (BX0.out.up EY.out).lt; omega)
 have HGV5 := hid (show W.heap.size ≤ gV5 by have := (E.out.trans EY.out).size; omega)
 replace EY := hid (EY.out.trans hx0)
 replace S11 := hid (S11.out.up hx0)
 have V5 : Hid (Box wv gV5 #[.slice none 0 0, .bool false, .slice none 0 0] 27) := hid hbox
 clear hx0 hbox hge
 simp only [Act.put, pA, pB, pC]
 refine WE.store3 (g := gV5) (x := .slice A11 n11 c11) (y := .bool g11) (z := .slice B11 m11 d11) (t := 27) rfl rfl (by rfl) (fun w hb => ?_) V5.out (by rfl) fun ws hk hs => ?_
 ·obtain ⟨ce0, ce1, ce2⟩ := hb.c3; obtain ⟨f0, f1, f2⟩ := hb.f3; go_simp
 intro hbx
 replace S11 := hid (S11.out.kb V5.out (by rfl) hk hs)
 replace E := hid ((E.out.trans EY.out).keptG hk HGV5.out)
 replace BX0 := hid ((BX0.out.up EY.out).kept hk (by simpa using HNV5BX0.out.symm))
 replace V5 := hid hbx
 clear hk hs hbx
 replace EY := hid (Ext.refl ws)
 refine WE.done ?_
 go_upto_region 6 with (fail)
 refine wp_region_X [] [(0, 0), (1, 0), (3, 0), (2, 1), (4, 1), (5, 0), (6, 0), (7, 0), (9, 0), (8, 1), (10, 1), (11, 0), (12, 0), (14, 0), (13, 1), (15, 1), (16, 0), (17, 0), (18, 0), (19, 0), (20, 0), (22, 0), (24, 0), (25, 0), (21, 1), (23, 1), (26, 1), (27, 0), (28, 0), (29, 0)] (fun _ => (0, #[])) rfl (by kernel_rfl) (by intro j hj; cases hj) (fun _ _ d _ _ => by cases d <;> exact Iff.rfl) fun wd hb => ?_
 replace EY := hid (EY.out.trans hb)
 clear hb
 have HL1BX0 := hid (BX0.out.up EY.out).lt
 have HL1V5 := hid (V5.out.up EY.out).lt
 refine WX.qq 18 (.agg #[.slice Aa na ca, .bool ga, .slice Ba ma da]) rfl (fun w' hk => by obtain ⟨ce0, ce1, ce2⟩ := ((BX0.out.up EY.out).up hk).c3; go_simp) ?_
 refine WX.qq 19 (.agg #[.slice A11 n11 c11, .bool g11, .slice B11 m11 d11]) rfl (fun w' hk => by obtain ⟨ce0, ce1, ce2⟩ := ((V5.out.up EY.out).up hk).c3; go_simp) ?_
 refine WX.pp 21 (.slice Ax nx cx) ?_
 simp only [Act.put, pA, pB, pC]
 refine WX.new (d := some 20) (cs := #[.slice Aa na ca, .bool ga, .slice Ba ma da, .slice A11 n11 c11, .bool g11, .slice B11 m11 d11]) (t := 27) (v := fun g => (.slice (some ⟨g, 0, none⟩) 2 2)) rfl rfl (by rfl) (fun w => by go_simp) fun gR1 wv hx0 hbox hge => ?_
 replace EY := hid (EY.out.trans hx0)
 have R1 : Hid (Box wv gR1 #[.slice Aa na ca, .bool ga, .slice Ba ma da, .slice A11 n11 c11, .bool g11, .slice B11 m11 d11] 27) := hid hbox
 clear hx0 hbox hge
 refine WX.cc 22 ((allB_l (wlist2 R1.out (WorthL.wide (HAa.out.up (E.out.trans EY.out)) (U := 8) (by omega)) (WorthL.wide (S11.out.up EY.out).worth (U := 8) (by omega))) (hp := HPx.out.up (E.out.trans EY.out)) (fun x hx => Nat.le_trans (HPSx.out.1 x hx) (by decide)) (by omega) (M.len2 (Nat.le_trans NAa.out (by decide)) (Nat.le_trans (Nat.le_trans (M.scaleT_len _ _) NAa.out) (by decide))) (b := false) (by simp only [List.all_cons, List.all_nil, Bool.and_true, HB.out, HNB.out] <;> rfl)).mono ?_)
 rintro e wn ⟨rfl, hb⟩
 refine ⟨_, rfl, hb, ?_⟩
 replace EY := hid (EY.out.trans hb)
 clear hb
 refine WX.pp 23 (.bool true) ?_
 refine WX.pp 24 (.bool true) ?_
 refine WX.qq 25 (.agg #[.slice Aa na ca, .bool ga, .slice Ba ma da]) rfl (fun w' hk => by obtain ⟨ce0, ce1, ce2⟩ := ((BX0.out.up EY.out).up hk).c3; go_simp) ?_
 refine WX.pp 27 (.slice Ax nx cx) ?_
 simp only [Act.put, pA, pB, pC]
 refine WX.new (d := some 26) (cs := #[.slice Aa na ca, .bool ga, .slice Ba ma da]) (t := 27) (v := fun g => (.slice (some ⟨g, 0, none⟩) 1 1)) rfl rfl (by rfl) (fun w => by go_simp) fun gR2 wv hx0 hbox hge => ?_
 replace EY := hid (EY.out.trans hx0)
 have R2 : Hid (Box wv gR2 #[.slice Aa na ca, .bool ga, .slice Ba ma da] 27) := hid hbox
 clear hx0 hbox hge
 refine WX.cc 28 ((allB_l (wlist1 R2.out (WorthL.wide (HAa.out.up (E.out.trans EY.out)) (U := 8) (by omega))) (hp := HPx.out.up (E.out.trans EY.out)) (fun x hx => Nat.le_trans (HPSx.out.1 x hx) (by decide)) (by omega) (M.len1 (Nat.le_trans NAa.out (by decide))) (b := true) (by simp only [List.all_cons, List.all_nil, Bool.and_true, HB.out] <;> rfl)).mono ?_)
 rintro e wn ⟨rfl, hb⟩
 refine ⟨_, rfl, hb, ?_⟩
 replace EY := hid (EY.out.trans hb)
 clear hb
 refine WX.pp 29 (.bool true) ?_
 refine WX.ss 30 ?_
 refine WX.ss 32 ?_
 refine WX.tt 31 ?_
 simp only [Act.put, pA, pB, pC]
 refine WX.tt 33 ?_
 refine WX.pp 34 (.bool true) ?_
 refine WX.pp 35 (.bool true) ?_
 refine WX.pp 36 (.bool true) ?_
 refine WX.qq 37 (.agg #[.slice Aa na ca, .bool ga, .slice Ba ma da]) rfl (fun w' hk => by obtain ⟨ce0, ce1, ce2⟩ := ((BX0.out.up EY.out).up hk).c3; go_simp) ?_
 refine WX.qq 38 (.agg #[.slice Aa na ca, .bool ga, .slice Ba ma da]) rfl (fun w' hk => by obtain ⟨ce0, ce1, ce2⟩ := ((BX0.out.up EY.out).up hk).c3; go_simp) ?_
 simp only [Act.put, pA, pB, pC]
 refine WX.pp 40 (.slice Ax nx cx) ?_
 refine WX.qq 42 (.agg #[.slice Aa na ca, .bool ga, .slice Ba ma da]) rfl (fun w' hk => by obtain ⟨ce0, ce1, ce2⟩ := ((BX0.out.up EY.out).up hk).c3; go_simp) ?_
 refine WX.pp 43 (.slice Ax nx cx) ?_
 simp only [Act.put, pA, pB, pC]
 refine WX.new (d := some 39) (cs := #[.slice Aa na ca, .bool ga, .slice Ba ma da, .slice Aa na ca, .bool ga, .slice Ba ma da]) (t := 27) (v := fun g => (.slice (some ⟨g, 0, none⟩) 2 2)) rfl rfl (by rfl) (fun w => by go_simp) fun gR4 wv hx0 hbox hge => ?_
 replace EY := hid (EY.out.trans hx0)
 have R4 : Hid (Box wv gR4 #[.slice Aa na ca, .bool ga, .slice Ba ma da, .slice Aa na ca, .bool ga, .slice Ba ma da] 27) := hid hbox
 clear hx0 hbox hge
 refine WX.cc 41 ((allB_l (wlist2 R4.out (WorthL.wide (HAa.out.up (E.out.trans EY.out)) (U := 8) (by omega)) (WorthL.wide (HAa.out.up (E.out.trans EY.out)) (U := 8) (by omega))) (hp := HPx.out.up (E.out.trans EY.out)) (fun x hx => Nat.le_trans (HPSx.out.1 x hx) (by decide)) (by omega) (M.len2 (Nat.le_trans NAa.out (by decide)) (Nat.le_trans NAa.out (by decide))) (b := true) (by simp only [List.all_cons, List.all_nil, Bool.and_true, HB.out] <;> rfl)).mono ?_)
 rintro e wn ⟨rfl, hb⟩
 refine ⟨_, rfl, hb, ?_⟩
 replace EY := hid (EY.out.trans hb)
 clear hb
 refine WX.cc 44 ((holdsB_l (WorthL.wide (HAa.out.up (E.out.trans EY.out)) (U := 4) (by omega)) (hp := HPx.out.up (E.out.trans EY.out)) (fun x hx => Nat.le_trans (HPSx.out.1 x hx) (by decide)) (by omega) (Nat.le_trans NAa.out (by decide)) (b := true) (HB.out)).mono ?_)
 rintro e wn ⟨rfl, hb⟩
 refine ⟨_, rfl, hb, ?_⟩
 replace EY := hid (EY.out.trans hb)
 clear hb
 refine WX.pp 45 (.bool true) ?_
 refine WX.pp 46 (.bool true) ?_
 refine WX.pp 4 (.bool true) ?_
 simp only [Act.put, pA, pB, pC]
 refine WX.done ?_
 repeat go_step
 go_ret
 exact ⟨rfl, (E.out.trans EY.out)⟩

set_option maxRecDepth 100000 in
set_option maxHeartbeats 16000000 in
theorem belowBoth_false (W : World) (Aa : Option Addr) (na ca : Nat) (la : List (Int × Bool × List Nat)) (ga : Bool) (Ba : Option Addr) (ma da : Nat) (ka : List Nat) (ha : LList W (.slice Aa na ca) la) (ia : Num W W.heap.size (.slice Ba ma da) ka) (Ax : Option Addr) (nx cx : Nat) (lx : List (Bool × List Nat)) (hx : ZList W (.slice Ax nx cx) lx) (fa : Hid (M.fewL la ka = true)) (fx : Hid (M.fewP lx = true)) (hway : Hid (M.hl (M.valAt lx) (M.ft la ga ka, M.fk la ga ka) = false)) :
 Calls Tryz.prog 8 #[.agg #[.slice Aa na ca, .bool ga, .slice Ba ma da], .slice Ax nx cx] W (fun e w' => e = .returned (.bool true) ∧ Ext W w') := by
 have HLa := hid ha
 have HKa := hid ia
 obtain ⟨qa, qb, qc⟩ := M.fewL_parts fa.out
 obtain ⟨t, hta⟩ : ∃ t, t = M.ft la ga ka := ⟨_, rfl⟩
 obtain ⟨κ, hka⟩ : ∃ k, k = M.fk la ga ka := ⟨_, rfl⟩
 have HAa := hid (worthL_of ha ia qa qc hta hka)
 have NAa := hid (show t.length ≤ 8 by rw [hta]; exact Nat.le_trans (M.ft_len _ _ _) qb)
 clear qa qb qc
 clear ha ia
 have HPx := hid hx
 have HPCx := hid hx.count
 have hb9x : nx ≤ 9223372036854775807 := hx.count.2.2
 have HPSx := hid (M.fewP_parts fx.out)
 clear hx
 have HB := hid (show M.hl (M.valAt lx) (t, κ) = false by rw [hta, hka]; exact hway.out)
 clear hta hka
 have HNB := hid (show M.hl (M.valAt lx) (M.scaleT t (-1), 1 + κ * -1) = true by unfold M.hl; rw [show decide (1 + κ * -1 + M.atT (M.valAt lx) (M.scaleT t (-1)) ≤ 0) = !decide (κ + M.atT (M.valAt lx) t ≤ 0) by rw [← decide_not, decide_eq_decide]; exact M.not_holds _ _ _, show decide (κ + M.atT (M.valAt lx) t ≤ 0) = false from HB.out]; rfl)
 go_enter Tryz.func8, Tryz.ntmps8
 go_upto_region 1 with (fail)
 obtain ⟨E, BX0⟩ := open1 W #[.slice Aa na ca, .bool ga, .slice Ba ma da] 27
 refine wp_region_S [(0, 1), (1, 0)] fun wd hb => ?_
 replace E := hid (E.out.trans hb)
 replace BX0 := hid (BX0.out.up hb)
 clear hb
 have EY := hid (Ext.refl wd)
 refine WE.cc 6 ((known7 _).mono ?_)
 rintro e wn ⟨rfl, hb⟩
 refine ⟨_, rfl, hb, ?_⟩
 replace EY := hid (EY.out.trans hb)
 clear hb
 refine WE.pp 7 (.bool false) ?_
 simp only [Act.put, pA, pB, pC]
 refine WE.done ?_
 go_upto_region 3 with (fail)
 refine wp_region_S [(0, 0), (1, 1), (2, 0), (3, 0), (4, 0), (5, 1), (6, 0), (7, 0)] fun wd hb => ?_
 replace EY := hid (EY.out.trans hb)
 clear hb
 refine WE.qq 8 (.agg #[.slice Aa na ca, .bool ga, .slice Ba ma da]) rfl (fun w' hk => by obtain ⟨ce0, ce1, ce2⟩ := ((BX0.out.up EY.out).up hk).c3; go_simp) ?_
 refine WE.cc 9 ((fewL7_any (g1 := ga) (HLa.out.up (E.out.trans EY.out)) (HKa.out.up (E.out.trans EY.out)) fa.out).mono ?_)
 rintro e wn ⟨rfl, hb⟩
 refine ⟨_, rfl, hb, ?_⟩
 replace EY := hid (EY.out.trans hb)
 clear hb
 refine WE.pp 10 (.bool false) ?_
 refine WE.pp 11 (.bool false) ?_
 refine WE.pp 12 (.slice Ax nx cx) ?_
 refine WE.cc 13 ((fewP7_any (HPx.out.up (E.out.trans EY.out)) fx.out).mono ?_)
 rintro e wn ⟨rfl, hb⟩
 refine ⟨_, rfl, hb, ?_⟩
 replace EY := hid (EY.out.trans hb)
 clear hb
 simp only [Act.put, pA, pB, pC]
 refine WE.pp 14 (.bool false) ?_
 refine WE.pp 15 (.bool false) ?_
 simp only [Act.put, pA, pB, pC]
 refine WE.done ?_
 go_upto_region 5 with (fail)
 refine wp_region_S [(0, 0), (1, 1), (2, 1), (3, 4)] fun wd hb => ?_
 replace EY := hid (EY.out.trans hb)
 clear hb
 refine WE.qq 16 (.agg #[.slice Aa na ca, .bool ga, .slice Ba ma da]) rfl (fun w' hk => by obtain ⟨ce0, ce1, ce2⟩ := ((BX0.out.up EY.out).up hk).c3; go_simp) ?_
 refine WE.cc 17 ((notB_l (WorthL.wide (HAa.out.up (E.out.trans EY.out)) (U := 4) (by omega)) (by omega) (Nat.le_trans NAa.out (by decide))).mono ?_)
 rintro e wn ⟨v1, rfl, x1, hb⟩
 obtain ⟨A11, n11, c11, g11, B11, m11, d11, rfl⟩ := x1.shape
 refine ⟨_, rfl, hb, ?_⟩
 replace EY := hid (EY.out.trans hb)
 have S11 := hid x1
 clear hb x1
 simp only [Act.put, pA, pB, pC]
 refine WE.new (d := some 5) (cs := #[.slice none 0 0, .bool false, .slice none 0 0]) (t := 27) (v := fun g => (.pointer (some ⟨g, 0, none⟩))) rfl rfl (by rfl) (fun w => by go_simp) fun gV5 wv hx0 hbox hge => ?_
 have HNV5BX0 := hid (show gV5 ≠ (W.heap.size) by have := (BX0.out.up EY.out).lt; omega)
 have HGV5 := hid (show W.heap.size ≤ gV5 by have := (E.out.trans EY.out).size; omega)
 replace EY := hid (EY.out.trans hx0)
 replace S11 := hid (S11.out.up hx0)
 have V5 : Hid (Box wv gV5 #[.slice none 0 0, .bool false, .slice none 0 0] 27) := hid hbox
 clear hx0 hbox hge
 simp only [Act.put, pA, pB, pC]
 refine WE.store3 (g := gV5) (x := .slice A11 n11 c11) (y := .bool g11) (z := .slice B11 m11 d11) (t := 27) rfl rfl (by rfl) (fun w hb => ?_) V5.out (by rfl) fun ws hk hs => ?_
 ·obtain ⟨ce0, ce1, ce2⟩ := hb.c3; obtain ⟨f0, f1, f2⟩ := hb.f3; go_simp
 intro hbx
 replace S11 := hid (S11.out.kb V5.out (by rfl) hk hs)
 replace E := hid ((E.out.trans EY.out).keptG hk HGV5.out)
 replace BX0 := hid ((BX0.out.up EY.out).kept hk (by simpa using HNV5BX0.out.symm))
 replace V5 := hid hbx
 clear hk hs hbx
 replace EY := hid (Ext.refl ws)
 refine WE.done ?_
 go_upto_region 6 with (fail)
 refine wp_region_X [] [(0, 0), (1, 0), (3, 0), (2, 1), (4, 1), (5, 0), (6, 0), (7, 0), (9, 0), (8, 1), (10, 1), (11, 0), (12, 0), (14, 0), (13, 1), (15, 1), (16, 0), (17, 0), (18, 0), (19, 0), (20, 0), (22, 0), (24, 0), (25, 0), (21, 1), (23, 1), (26, 1), (27, 0), (28, 0), (29, 0)] (fun _ => (0, #[])) rfl (by kernel_rfl) (by intro j hj; cases hj) (fun _ _ d _ _ => by cases d <;> exact Iff.rfl) fun wd hb => ?_
 replace EY := hid (EY.out.trans hb)
 clear hb
 have HL1BX0 := hid (BX0.out.up EY.out).lt
 have HL1V5 := hid (V5.out.up EY.out).lt
 refine WX.qq 18 (.agg #[.slice Aa na ca, .bool ga, .slice Ba ma da]) rfl (fun w' hk => by obtain ⟨ce0, ce1, ce2⟩ := ((BX0.out.up EY.out).up hk).c3; go_simp) ?_
 refine WX.qq 19 (.agg #[.slice A11 n11 c11, .bool g11, .slice B11 m11 d11]) rfl (fun w' hk => by obtain ⟨ce0, ce1, ce2⟩ := ((V5.out.up EY.out).up hk).c3; go_simp) ?_
 refine WX.pp 21 (.slice Ax nx cx) ?_
 simp only [Act.put, pA, pB, pC]
 refine WX.new (d := some 20) (cs := #[.slice Aa na ca, .bool ga, .slice Ba ma da, .slice A11 n11 c11, .bool g11, .slice B11 m11 d11]) (t := 27) (v := fun g => (.slice (some ⟨g, 0, none⟩) 2 2)) rfl rfl (by rfl) (fun w => by go_simp) fun gR1 wv hx0 hbox hge => ?_
 replace EY := hid (EY.out.trans hx0)
 have R1 : Hid (Box wv gR1 #[.slice Aa na ca, .bool ga, .slice Ba ma da, .slice A11 n11 c11, .bool g11, .slice B11 m11 d11] 27) := hid hbox
 clear hx0 hbox hge
 refine WX.cc 22 ((allB_l (wlist2 R1.out (WorthL.wide (HAa.out.up (E.out.trans EY.out)) (U := 8) (by omega)) (WorthL.wide (S11.out.up EY.out).worth (U := 8) (by omega))) (hp := HPx.out.up (E.out.trans EY.out)) (fun x hx => Nat.le_trans (HPSx.out.1 x hx) (by decide)) (by omega) (M.len2 (Nat.le_trans NAa.out (by decide)) (Nat.le_trans (Nat.le_trans (M.scaleT_len _ _) NAa.out) (by decide))) (b := false) (by simp only [List.all_cons, List.all_nil, Bool.and_true, HB.out, HNB.out] <;> rfl)).mono ?_)
 rintro e wn ⟨rfl, hb⟩
 refine ⟨_, rfl, hb, ?_⟩
 replace EY := hid (EY.out.trans hb)
 clear hb
 refine WX.pp 23 (.bool true) ?_
 refine WX.pp 24 (.bool true) ?_
 refine WX.qq 25 (.agg #[.slice Aa na ca, .bool ga, .slice Ba ma da]) rfl (fun w' hk => by obtain ⟨ce0, ce1, ce2⟩ := ((BX0.out.up EY.out).up hk).c3; go_simp) ?_
 refine WX.pp 27 (.slice Ax nx cx) ?_
 simp only [Act.put, pA, pB, pC]
 refine WX.new (d := some 26) (cs := #[.slice Aa na ca, .bool ga, .slice Ba ma da]) (t := 27) (v := fun g => (.slice (some ⟨g, 0, none⟩) 1 1)) rfl rfl (by rfl) (fun w => by go_simp) fun gR2 wv hx0 hbox hge => ?_
 replace EY := hid (EY.out.trans hx0)
 have R2 : Hid (Box wv gR2 #[.slice Aa na ca, .bool ga, .slice Ba ma da] 27) := hid hbox
 clear hx0 hbox hge
 refine WX.cc 28 ((allB_l (wlist1 R2.out (WorthL.wide (HAa.out.up (E.out.trans EY.out)) (U := 8) (by omega))) (hp := HPx.out.up (E.out.trans EY.out)) (fun x hx => Nat.le_trans (HPSx.out.1 x hx) (by decide)) (by omega) (M.len1 (Nat.le_trans NAa.out (by decide))) (b := false) (by simp only [List.all_cons, List.all_nil, Bool.and_true, HB.out] <;> rfl)).mono ?_)
 rintro e wn ⟨rfl, hb⟩
 refine ⟨_, rfl, hb, ?_⟩
 replace EY := hid (EY.out.trans hb)
 clear hb
 refine WX.pp 29 (.bool false) ?_
 refine WX.qq 30 (.agg #[.slice A11 n11 c11, .bool g11, .slice B11 m11 d11]) rfl (fun w' hk => by obtain ⟨ce0, ce1, ce2⟩ := ((V5.out.up EY.out).up hk).c3; go_simp) ?_
 refine WX.pp 32 (.slice Ax nx cx) ?_
 simp only [Act.put, pA, pB, pC]
 refine WX.new (d := some 31) (cs := #[.slice A11 n11 c11, .bool g11, .slice B11 m11 d11]) (t := 27) (v := fun g => (.slice (some ⟨g, 0, none⟩) 1 1)) rfl rfl (by rfl) (fun w => by go_simp) fun gR3 wv hx0 hbox hge => ?_
 replace EY := hid (EY.out.trans hx0)
 have R3 : Hid (Box wv gR3 #[.slice A11 n11 c11, .bool g11, .slice B11 m11 d11] 27) := hid hbox
 clear hx0 hbox hge
 refine WX.cc 33 ((allB_l (wlist1 R3.out (WorthL.wide (S11.out.up EY.out).worth (U := 8) (by omega))) (hp := HPx.out.up (E.out.trans EY.out)) (fun x hx => Nat.le_trans (HPSx.out.1 x hx) (by decide)) (by omega) (M.len1 (Nat.le_trans (Nat.le_trans (M.scaleT_len _ _) NAa.out) (by decide))) (b := true) (by simp only [List.all_cons, List.all_nil, Bool.and_true, HNB.out] <;> rfl)).mono ?_)
 rintro e wn ⟨rfl, hb⟩
 refine ⟨_, rfl, hb, ?_⟩
 replace EY := hid (EY.out.trans hb)
 clear hb
 refine WX.pp 34 (.bool true) ?_
 refine WX.pp 35 (.bool true) ?_
 refine WX.pp 36 (.bool true) ?_
 refine WX.qq 37 (.agg #[.slice Aa na ca, .bool ga, .slice Ba ma da]) rfl (fun w' hk => by obtain ⟨ce0, ce1, ce2⟩ := ((BX0.out.up EY.out).up hk).c3; go_simp) ?_
 simp only [Act.put, pA, pB, pC]
 refine WX.qq 38 (.agg #[.slice Aa na ca, .bool ga, .slice Ba ma da]) rfl (fun w' hk => by obtain ⟨ce0, ce1, ce2⟩ := ((BX0.out.up EY.out).up hk).c3; go_simp) ?_
 refine WX.pp 40 (.slice Ax nx cx) ?_
 refine WX.qq 42 (.agg #[.slice Aa na ca, .bool ga, .slice Ba ma da]) rfl (fun w' hk => by obtain ⟨ce0, ce1, ce2⟩ := ((BX0.out.up EY.out).up hk).c3; go_simp) ?_
 refine WX.pp 43 (.slice Ax nx cx) ?_
 simp only [Act.put, pA, pB, pC]
 refine WX.new (d := some 39) (cs := #[.slice Aa na ca, .bool ga, .slice Ba ma da, .slice Aa na ca, .bool ga, .slice Ba ma da]) (t := 27) (v := fun g => (.slice (some ⟨g, 0, none⟩) 2 2)) rfl rfl (by rfl) (fun w => by go_simp) fun gR4 wv hx0 hbox hge => ?_
 replace EY := hid (EY.out.trans hx0)
 have R4 : Hid (Box wv gR4 #[.slice Aa na ca, .bool ga, .slice Ba ma da, .slice Aa na ca, .bool ga, .slice Ba ma da] 27) := hid hbox
 clear hx0 hbox hge
 refine WX.cc 41 ((allB_l (wlist2 R4.out (WorthL.wide (HAa.out.up (E.out.trans EY.out)) (U := 8) (by omega)) (WorthL.wide (HAa.out.up (E.out.trans EY.out)) (U := 8) (by omega))) (hp := HPx.out.up (E.out.trans EY.out)) (fun x hx => Nat.le_trans (HPSx.out.1 x hx) (by decide)) (by omega) (M.len2 (Nat.le_trans NAa.out (by decide)) (Nat.le_trans NAa.out (by decide))) (b := false) (by simp only [List.all_cons, List.all_nil, Bool.and_true, HB.out] <;> rfl)).mono ?_)
 rintro e wn ⟨rfl, hb⟩
 refine ⟨_, rfl, hb, ?_⟩
 replace EY := hid (EY.out.trans hb)
 clear hb
 refine WX.cc 44 ((holdsB_l (WorthL.wide (HAa.out.up (E.out.trans EY.out)) (U := 4) (by omega)) (hp := HPx.out.up (E.out.trans EY.out)) (fun x hx => Nat.le_trans (HPSx.out.1 x hx) (by decide)) (by omega) (Nat.le_trans NAa.out (by decide)) (b := false) (HB.out)).mono ?_)
 rintro e wn ⟨rfl, hb⟩
 refine ⟨_, rfl, hb, ?_⟩
 replace EY := hid (EY.out.trans hb)
 clear hb
 refine WX.pp 45 (.bool true) ?_
 refine WX.pp 46 (.bool true) ?_
 refine WX.pp 4 (.bool true) ?_
 simp only [Act.put, pA, pB, pC]
 refine WX.done ?_
 repeat go_step
 go_ret
 exact ⟨rfl, (E.out.trans EY.out)⟩

theorem belowBoth_walk (W : World) (Aa : Option Addr) (na ca : Nat) (la : List (Int × Bool × List Nat)) (ga : Bool) (Ba : Option Addr) (ma da : Nat) (ka : List Nat) (ha : LList W (.slice Aa na ca) la) (ia : Num W W.heap.size (.slice Ba ma da) ka) (Ax : Option Addr) (nx cx : Nat) (lx : List (Bool × List Nat)) (hx : ZList W (.slice Ax nx cx) lx) :
 Calls Tryz.prog 8 #[.agg #[.slice Aa na ca, .bool ga, .slice Ba ma da], .slice Ax nx cx] W (fun e w' => e = .returned (.bool true) ∧ Ext W w') := by
 rcases fa : (M.fewL la ka) with _ | _
 ·exact belowBoth_skip0 W Aa na ca la ga Ba ma da ka ha ia Ax nx cx lx hx (hid fa)
 rcases fx : (M.fewP lx) with _ | _
 ·exact belowBoth_skip1 W Aa na ca la ga Ba ma da ka ha ia Ax nx cx lx hx (hid fa) (hid fx)
 cases h : M.hl (M.valAt lx) (M.ft la ga ka, M.fk la ga ka) with
 | true => exact belowBoth_true W Aa na ca la ga Ba ma da ka ha ia Ax nx cx lx hx (hid fa) (hid fx) (hid h)
 | false => exact belowBoth_false W Aa na ca la ga Ba ma da ka ha ia Ax nx cx lx hx (hid fa) (hid fx) (hid h)

set_option maxRecDepth 100000 in
theorem belowBoth_lifted (os : Os) (started : os.Started) (H : Type) (enc : TypeId × Value → H) :
 ReturnsInHanded {} Tryz.checked os 8 .any (Rows.belowBothSpec.pre6 enc Tryz.prog Tryz.f8 Rows.belowBothRow.domain false) (Rows.belowBothSpec.post enc Tryz.prog Tryz.f8 false true false false) := by
 refine returnsInHanded_of_change (C := Tryz.checked) own started (by kernel_rfl) Tryz.func8
  (ChangeSpec.witness6 (enc := enc) (C := Tryz.checked) false ⟨#[], #[.agg #[.slice none 0 0, .bool false, .slice none 0 0], .slice none 0 0], []⟩ 8 (by kernel_rfl) (by kernel_rfl) (by kernel_rfl) (by kernel_rfl)) ?_
 intro W base args ds gs before hval0 hW _ _
 have hval : ∀ (j : Nat) t v, Tryz.f8.params[j]? = some t → args[j]? = some v → Value.okWide Tryz.prog W .any base t v := hval0
 have hW' := hW
 obtain ⟨p, q, hA0, hV, rfl, hfz, hnd⟩ := hW
 have hA : DataW.TrodAll enc Tryz.prog W 0 (fun _ => true) true Tryz.f8.params.toList args.toList ds p := hA0
 rw [Tryz.params8] at hA hval
 obtain ⟨v0, vs0, d0, ds0, p0, q0, hargs, rfl, rfl, h0, r0⟩ := trodAll_cons hA
 obtain ⟨v1, vs1, d1, ds1, p1, q1, rfl, rfl, rfl, h1, r1⟩ := trodAll_cons r0
 obtain ⟨rfl, rfl, rfl⟩ := trodAll_nil r1
 obtain rfl : args = #[v0, v1] := by cases args; simp_all
 obtain ⟨rfl, rfl⟩ := trodVars_none hV
 obtain ⟨A0, n0, c0, l0, g0, B0, m0, q0, t0, rfl, e0, f0⟩ := open_L (hval 0 27 _ rfl rfl) h0
 obtain ⟨A1, n1, c1, l1, rfl, e1⟩ := open_ZL (hval 1 28 _ rfl rfl) h1
 clear hA0 hval0
 refine (belowBoth_walk W A0 n0 c0 l0 g0 B0 m0 q0 t0 e0 f0 A1 n1 c1 l1 e1).mono fun e W' ⟨he, hg⟩ => ?_
 subst he
 exact ⟨_, rfl, law_post hW' rfl rfl (by kernel_rfl) (by kernel_rfl) hg⟩

theorem belowBoth_over : Rows.belowBothRow.holds Tryz.pinned (OpenSpec.ofChange Rows.belowBothSpec) :=
 OpenClaim.holds_of_wide 8 Tryz.f8 rfl rfl rfl rfl rfl rfl rfl ⟨rfl, rfl, rfl, rfl, rfl⟩ rfl rfl rfl rfl rfl (by kernel_rfl) Tryz.func8 (by kernel_rfl)
  (of_decide_eq_true (by kernel_rfl)) (by unfold Func.isWrapper; first | (rw [if_pos (by decide +kernel)]; kernel_rfl) | (rw [if_neg (by decide +kernel)]; exact ⟨rfl, rfl⟩))
  (fun os started H enc _ => belowBoth_lifted os started H enc)

theorem belowBoth_proved : Rows.BelowBothSaid := belowBoth_over

end Go.Proofs.YtklmnmkmpkobhaaGreat
