/-
  BelowTells: whatever form (or what is none), whatever forms, whatever point: true. No conditions.
-/
import Derived.Test.YtklmnmkmpkobhaaGreatBKnown
import Derived.Test.YtklmnmkmpkobhaaGreatBRef
namespace Go.Proofs.YtklmnmkmpkobhaaGreat
open Go.ChangeShapes Go.WideShapes Go.ChangeAt Go.RowKit
set_option linter.unusedSimpArgs false
set_option linter.unusedVariables false

abbrev M.Raw := List (Int × Bool × List Nat) × Bool × List Nat
/-- The form at place k of a list, whatever it is. -/
def RAt (w : World) (ad : Addr) (k : Nat) (x : M.Raw) : Prop :=
 ∃ A n c B m d, w.cell? (ad.add (k * 3)) = some (.slice A n c) ∧ w.cell? ((ad.add (k * 3)).add 1) = some (.bool x.2.1) ∧ w.cell? ((ad.add (k * 3)).add 2) = some (.slice B m d) ∧ LList w (.slice A n c) x.1 ∧ Num w w.heap.size (.slice B m d) x.2.2
def RList (w : World) (v : Value) (rs : List M.Raw) : Prop :=
 ∃ A n c, v = .slice A n c ∧ n = rs.length ∧ n ≤ c ∧ c ≤ maxLen ∧ ∀ k x, rs[k]? = some x → ∃ ad, A = some ad ∧ ad.block < w.heap.size ∧ RAt w ad k x
theorem RList.count {w : World} {A : Option Addr} {n c : Nat} {rs : List M.Raw} (h : RList w (.slice A n c) rs) : n = rs.length ∧ n ≤ c ∧ n ≤ 9223372036854775807 := by
 obtain ⟨A', n', c', e, hn, hc, hm, _⟩ := h
 injection e with e1 e2 e3
 unfold maxLen at hm
 exact ⟨by omega, by omega, by omega⟩
theorem RList.get {w : World} {A : Option Addr} {n c : Nat} {rs : List M.Raw} (h : RList w (.slice A n c) rs) {k : Nat} {x : M.Raw} (hk : rs[k]? = some x) :
 ∃ ad B p q C m d, A = some ad ∧ CellAt w (ad.add (k * 3)) (.slice B p q) ∧ CellAt w ((ad.add (k * 3)).add 1) (.bool x.2.1) ∧ CellAt w ((ad.add (k * 3)).add 2) (.slice C m d) ∧ LList w (.slice B p q) x.1 ∧ Num w w.heap.size (.slice C m d) x.2.2 := by
 obtain ⟨A', n', c', e, hn, hc, hm, hz⟩ := h
 injection e with e1 e2 e3
 subst e1
 obtain ⟨ad, ha, _, B, p, q, C, m, d, k1, k2, k3, k4, k5⟩ := hz k x hk
 exact ⟨ad, B, p, q, C, m, d, ha, k1, k2, k3, k4, k5⟩
def M.wf (x : M.Raw) : M.Tm × Int := (M.ft x.1 x.2.1 x.2.2, M.fk x.1 x.2.1 x.2.2)
theorem RList.worth {w : World} {v : Value} {rs : List M.Raw} (h : RList w v rs) (hf : ∀ x ∈ rs, M.fewL x.1 x.2.2 = true) : WList w v (rs.map M.wf) 4 := by
 obtain ⟨A, n, c, h1, h2, h3, h4, h5⟩ := h
 refine ⟨A, n, c, h1, by rw [List.length_map]; exact h2, h3, h4, fun k y hy => ?_⟩
 rw [List.getElem?_map] at hy
 obtain ⟨x, hx, rfl⟩ := Option.map_eq_some_iff.1 hy
 obtain ⟨ad, ha, hb, B, p, q, C, m, d, k1, k2, k3, k4, k5⟩ := h5 k x hx
 obtain ⟨q1, q2, q3⟩ := M.fewL_parts (hf x (List.mem_of_getElem? hx))
 exact ⟨ad, ha, hb, B, p, q, x.2.1, C, m, d, k1, k2, k3, worthL_of k4 k5 q1 q3 rfl rfl⟩
theorem M.wf_len {rs : List M.Raw} (hf : ∀ x ∈ rs, M.fewL x.1 x.2.2 = true) : ∀ y ∈ rs.map M.wf, y.1.length ≤ 1000 := by
 intro y hy
 obtain ⟨x, hx, rfl⟩ := List.mem_map.1 hy
 have := (M.fewL_parts (hf x hx)).2.1
 exact Nat.le_trans (M.ft_len _ _ _) (Nat.le_trans this (by decide))
section
variable {H : Type} {enc : TypeId × Value → H} {W W' : World}
set_option maxRecDepth 100000 in
theorem open_RL {r : Reach} {b0 : Nat} {v : Value} {d : DataW H} {ps : List MemPlace} (hval : Value.okWide Tryz.prog W r b0 47 v) (h : DataW.Trod enc Tryz.prog W 0 (fun _ => true) true 47 v d ps) :
 ∃ A n c rs, v = .slice A n c ∧ RList W (.slice A n c) rs := by
 obtain ⟨a0, len, cap, rfl⟩ := okWide_slice Tryz.underlying47 hval
 obtain ⟨fuel, hf⟩ := h
 have hf' : DataW.trod enc Tryz.prog W 0 (fun _ => true) true fuel 47 [.slice a0 len cap] = some (d, ps) := hf
 rcases Go.Deep.open_slice Tryz.underlying47 hf' with ⟨hcs, _⟩ | ⟨a, len', cap', m, n, D, Pl, hcs, _, hl, hmx, hm, _, hx⟩
 ·injection hcs with hcs
  injection hcs with e1 e2 e3
  subst e1 e2 e3
  exact ⟨none, 0, 0, [], rfl, none, 0, 0, rfl, rfl, Nat.le_refl _, Nat.zero_le _, fun k x hx => by simp at hx⟩
 ·injection hcs with hcs
  injection hcs with e1 e2 e3
  subst e1 e2 e3
  simp only [if_true] at hm
  subst hm
  rw [cells_Lin] at hx
  have key : ∀ i, i < len → ∃ (x : M.Raw), a.block < W.heap.size ∧ RAt W a i x := by
   intro i hi
   obtain ⟨cs', h1, h2⟩ := hx i (by omega)
   obtain ⟨_, hlen, hc⟩ := World.cells?_some h1
   obtain ⟨y0, y1, n', _, _, h0, h1'⟩ := trod_struct2 Tryz.underlying27 h2
   match cs', hlen with
   | [v0, v1, v2], _ =>
    have cS : Tryz.prog.cellsOf 22 = 1 := by kernel_rfl
    have c0 : Tryz.prog.cellsOf 4 = 1 := by kernel_rfl
    have c1 : Tryz.prog.cellsOf 23 = 1 := by kernel_rfl
    simp only [List.drop_zero, cS, List.take_succ_cons, List.take_zero] at h0
    simp only [List.drop_succ_cons, List.drop_zero, cells_Int, List.take_succ_cons, List.take_zero] at h1'
    obtain ⟨z0, z1, n'', _, _, k0, k1⟩ := trod_struct2 Tryz.underlying25 h1'
    simp only [List.drop_zero, c0, List.take_succ_cons, List.take_zero] at k0
    simp only [List.drop_succ_cons, List.drop_zero, c1, List.take_succ_cons, List.take_zero] at k1
    obtain ⟨A1, n1, c1', ls, rfl, hL⟩ := open_LL h0
    obtain ⟨b, hb, _⟩ := DataW.trod_bool Tryz.underlying4 k0
    injection hb with hb
    subst hb
    obtain ⟨B, m1, q1, l, rfl, hn⟩ := open_row k1
    have m0 := hc 0 (by omega)
    have m1' := hc 1 (by omega)
    have m2 := hc 2 (by omega)
    have hbl := World.block_lt_of_cell? W _ m1'
    rw [addr_block, addr_block] at hbl
    exact ⟨(ls, b, l), hbl, A1, n1, c1', B, m1, q1, m0, m1', m2, hL, hn⟩
  obtain ⟨f, hfx⟩ := Go.Deep.choose_lt (α := M.Raw) (p := fun i x => a.block < W.heap.size ∧ RAt W a i x) key
  refine ⟨some a, _, _, (List.range len).map f, rfl, some a, _, _, rfl, by simp, hl, hmx, fun k x hk => ?_⟩
  rw [List.getElem?_map] at hk
  obtain ⟨k', hk1, hk2⟩ := Option.map_eq_some_iff.1 hk
  obtain ⟨hk3, hk4⟩ := List.getElem?_eq_some_iff.1 hk1
  simp at hk3 hk4
  subst hk4 hk2
  exact ⟨a, rfl, (hfx k hk3).1, (hfx k hk3).2⟩
end
theorem rNormL_to {w : World} {u : Value} {t s : M.Tm} {κ μ c : Int} {W : Nat} (h1 : WorthL w u t κ W) (hw : W ≤ 1000) (hn : t.length ≤ 1000) (hT : M.nT t = s) (hK : M.nK t κ = μ) (hC : M.nC t κ = c) : Calls Tryz.prog 44 #[u] w (GivesNC w s μ c (W + 2)) := by
 subst hT hK hC; exact rNormL_l h1 hw hn

set_option maxRecDepth 100000 in
set_option maxHeartbeats 2000000 in
theorem belowTells_skip0 (W : World) (Aa : Option Addr) (na ca : Nat) (la : List (Int × Bool × List Nat)) (ga : Bool) (Ba : Option Addr) (ma da : Nat) (ka : List Nat) (ha : LList W (.slice Aa na ca) la) (ia : Num W W.heap.size (.slice Ba ma da) ka) (Am : Option Addr) (nm cm : Nat) (rs : List M.Raw) (hm : RList W (.slice Am nm cm) rs) (Ax : Option Addr) (nx cx : Nat) (lx : List (Bool × List Nat)) (hx : ZList W (.slice Ax nx cx) lx) (fa : Hid (M.fewL la ka = false)) :
 Calls Tryz.prog 5 #[.agg #[.slice Aa na ca, .bool ga, .slice Ba ma da], .slice Am nm cm, .slice Ax nx cx] W (fun e w' => e = .returned (.bool true) ∧ Ext W w') := by
 have HLa := hid ha
 have HKa := hid ia
 clear ha ia
 have HPCx := hid hx.count
 have hb9x : nx ≤ 9223372036854775807 := hx.count.2.2
 clear hx
 have HMC := hid hm.count
 have hbm : nm ≤ 9223372036854775807 := hm.count.2.2
 clear hm
 go_enter Tryz.func5, Tryz.ntmps5
 go_upto_region 1 with (fail)
 obtain ⟨E, BX0⟩ := open1 W #[.slice Aa na ca, .bool ga, .slice Ba ma da] 27
 refine wp_region_S [(0, 1), (1, 0)] fun wd hb => ?_
 replace E := hid (E.out.trans hb)
 replace BX0 := hid (BX0.out.up hb)
 clear hb
 have EY := hid (Ext.refl wd)
 refine WE.cc 12 ((known7 _).mono ?_)
 rintro e wn ⟨rfl, hb⟩
 refine ⟨_, rfl, hb, ?_⟩
 replace EY := hid (EY.out.trans hb)
 clear hb
 refine WE.pp 13 (.bool false) ?_
 simp only [Act.put, pA, pB, pC]
 refine WE.done ?_
 go_upto_region 3 with (fail)
 refine wp_region_S [(0, 0), (1, 1), (2, 0), (3, 0), (4, 0), (5, 0), (6, 0), (7, 0), (8, 0), (9, 0), (10, 1), (11, 0), (12, 0)] fun wd hb => ?_
 replace EY := hid (EY.out.trans hb)
 clear hb
 refine WE.qq 14 (.agg #[.slice Aa na ca, .bool ga, .slice Ba ma da]) rfl (fun w' hk => by obtain ⟨ce0, ce1, ce2⟩ := ((BX0.out.up EY.out).up hk).c3; go_simp) ?_
 refine WE.cc 15 ((fewL7_any (g1 := ga) (HLa.out.up (E.out.trans EY.out)) (HKa.out.up (E.out.trans EY.out)) fa.out).mono ?_)
 rintro e wn ⟨rfl, hb⟩
 refine ⟨_, rfl, hb, ?_⟩
 replace EY := hid (EY.out.trans hb)
 clear hb
 refine WE.pp 16 (.bool true) ?_
 refine WE.pp 17 (.bool true) ?_
 refine WE.ss 18 ?_
 refine WE.ss 19 ?_
 simp only [Act.put, pA, pB, pC]
 refine WE.ss 20 ?_
 refine WE.pp 21 (.bool true) ?_
 refine WE.pp 22 (.bool true) ?_
 refine WE.ss 23 ?_
 refine WE.tt 24 ?_
 refine WE.ss 25 ?_
 simp only [Act.put, pA, pB, pC]
 refine WE.pp 26 (.bool true) ?_
 simp only [Act.put, pA, pB, pC]
 refine WE.done ?_
 go_upto_region 4 with (fail)
 refine wp_region_S [(0, 0)] fun wd hb => ?_
 replace EY := hid (EY.out.trans hb)
 clear hb
 refine WE.pp 6 (.bool true) ?_
 simp only [Act.put, pA, pB, pC]
 refine WE.done ?_
 repeat go_step
 go_ret
 exact ⟨rfl, (E.out.trans EY.out)⟩

set_option maxRecDepth 100000 in
set_option maxHeartbeats 2000000 in
theorem belowTells_skip1 (W : World) (Aa : Option Addr) (na ca : Nat) (la : List (Int × Bool × List Nat)) (ga : Bool) (Ba : Option Addr) (ma da : Nat) (ka : List Nat) (ha : LList W (.slice Aa na ca) la) (ia : Num W W.heap.size (.slice Ba ma da) ka) (Am : Option Addr) (nm cm : Nat) (rs : List M.Raw) (hm : RList W (.slice Am nm cm) rs) (Ax : Option Addr) (nx cx : Nat) (lx : List (Bool × List Nat)) (hx : ZList W (.slice Ax nx cx) lx) (fa : Hid (M.fewL la ka = true)) (fm : Hid ((!decide ((8 : Int) < (nm : Int))) = false)) :
 Calls Tryz.prog 5 #[.agg #[.slice Aa na ca, .bool ga, .slice Ba ma da], .slice Am nm cm, .slice Ax nx cx] W (fun e w' => e = .returned (.bool true) ∧ Ext W w') := by
 have HLa := hid ha
 have HKa := hid ia
 clear ha ia
 have HPCx := hid hx.count
 have hb9x : nx ≤ 9223372036854775807 := hx.count.2.2
 clear hx
 have HMC := hid hm.count
 have hbm : nm ≤ 9223372036854775807 := hm.count.2.2
 clear hm
 have hmd : decide ((8 : Int) < (nm : Int)) = true := by have := fm.out; simpa using this
 go_enter Tryz.func5, Tryz.ntmps5
 go_upto_region 1 with (fail)
 obtain ⟨E, BX0⟩ := open1 W #[.slice Aa na ca, .bool ga, .slice Ba ma da] 27
 refine wp_region_S [(0, 1), (1, 0)] fun wd hb => ?_
 replace E := hid (E.out.trans hb)
 replace BX0 := hid (BX0.out.up hb)
 clear hb
 have EY := hid (Ext.refl wd)
 refine WE.cc 12 ((known7 _).mono ?_)
 rintro e wn ⟨rfl, hb⟩
 refine ⟨_, rfl, hb, ?_⟩
 replace EY := hid (EY.out.trans hb)
 clear hb
 refine WE.pp 13 (.bool false) ?_
 simp only [Act.put, pA, pB, pC]
 refine WE.done ?_
 go_upto_region 3 with (fail)
 refine wp_region_S [(0, 0), (1, 1), (2, 0), (3, 0), (4, 0), (5, 0), (6, 0), (7, 0), (8, 0), (9, 0), (10, 1), (11, 0), (12, 0)] fun wd hb => ?_
 replace EY := hid (EY.out.trans hb)
 clear hb
 refine WE.qq 14 (.agg #[.slice Aa na ca, .bool ga, .slice Ba ma da]) rfl (fun w' hk => by obtain ⟨ce0, ce1, ce2⟩ := ((BX0.out.up EY.out).up hk).c3; go_simp) ?_
 refine WE.cc 15 ((fewL7_any (g1 := ga) (HLa.out.up (E.out.trans EY.out)) (HKa.out.up (E.out.trans EY.out)) fa.out).mono ?_)
 rintro e wn ⟨rfl, hb⟩
 refine ⟨_, rfl, hb, ?_⟩
 replace EY := hid (EY.out.trans hb)
 clear hb
 refine WE.pp 16 (.bool false) ?_
 refine WE.pp 17 (.bool false) ?_
 refine WE.pp 18 (.slice Am nm cm) ?_
 refine WE.pp 19 (.int .i64 (nm : Int)) ?_
 simp only [Act.put, pA, pB, pC]
 refine WE.pp 20 (.bool true) ?_
 refine WE.pp 21 (.bool true) ?_
 refine WE.pp 22 (.bool true) ?_
 refine WE.ss 23 ?_
 refine WE.tt 24 ?_
 refine WE.ss 25 ?_
 simp only [Act.put, pA, pB, pC]
 refine WE.pp 26 (.bool true) ?_
 simp only [Act.put, pA, pB, pC]
 refine WE.done ?_
 go_upto_region 4 with (fail)
 refine wp_region_S [(0, 0)] fun wd hb => ?_
 replace EY := hid (EY.out.trans hb)
 clear hb
 refine WE.pp 6 (.bool true) ?_
 simp only [Act.put, pA, pB, pC]
 refine WE.done ?_
 repeat go_step
 go_ret
 exact ⟨rfl, (E.out.trans EY.out)⟩

set_option maxRecDepth 100000 in
set_option maxHeartbeats 2000000 in
theorem belowTells_skip2 (W : World) (Aa : Option Addr) (na ca : Nat) (la : List (Int × Bool × List Nat)) (ga : Bool) (Ba : Option Addr) (ma da : Nat) (ka : List Nat) (ha : LList W (.slice Aa na ca) la) (ia : Num W W.heap.size (.slice Ba ma da) ka) (Am : Option Addr) (nm cm : Nat) (rs : List M.Raw) (hm : RList W (.slice Am nm cm) rs) (Ax : Option Addr) (nx cx : Nat) (lx : List (Bool × List Nat)) (hx : ZList W (.slice Ax nx cx) lx) (fa : Hid (M.fewL la ka = true)) (fm : Hid ((!decide ((8 : Int) < (nm : Int))) = true)) (fx : Hid (M.fewP lx = false)) :
 Calls Tryz.prog 5 #[.agg #[.slice Aa na ca, .bool ga, .slice Ba ma da], .slice Am nm cm, .slice Ax nx cx] W (fun e w' => e = .returned (.bool true) ∧ Ext W w') := by
 have HLa := hid ha
 have HKa := hid ia
 clear ha ia
 have HPx := hid hx
 have HPCx := hid hx.count
 have hb9x : nx ≤ 9223372036854775807 := hx.count.2.2
 clear hx
 have HMC := hid hm.count
 have hbm : nm ≤ 9223372036854775807 := hm.count.2.2
 clear hm
 have hmd : decide ((8 : Int) < (nm : Int)) = false := by have := fm.out; simpa using this
 go_enter Tryz.func5, Tryz.ntmps5
 go_upto_region 1 with (fail)
 obtain ⟨E, BX0⟩ := open1 W #[.slice Aa na ca, .bool ga, .slice Ba ma da] 27
 refine wp_region_S [(0, 1), (1, 0)] fun wd hb => ?_
 replace E := hid (E.out.trans hb)
 replace BX0 := hid (BX0.out.up hb)
 clear hb
 have EY := hid (Ext.refl wd)
 refine WE.cc 12 ((known7 _).mono ?_)
 rintro e wn ⟨rfl, hb⟩
 refine ⟨_, rfl, hb, ?_⟩
 replace EY := hid (EY.out.trans hb)
 clear hb
 refine WE.pp 13 (.bool false) ?_
 simp only [Act.put, pA, pB, pC]
 refine WE.done ?_
 go_upto_region 3 with (fail)
 refine wp_region_S [(0, 0), (1, 1), (2, 0), (3, 0), (4, 0), (5, 0), (6, 0), (7, 0), (8, 0), (9, 0), (10, 1), (11, 0), (12, 0)] fun wd hb => ?_
 replace EY := hid (EY.out.trans hb)
 clear hb
 refine WE.qq 14 (.agg #[.slice Aa na ca, .bool ga, .slice Ba ma da]) rfl (fun w' hk => by obtain ⟨ce0, ce1, ce2⟩ := ((BX0.out.up EY.out).up hk).c3; go_simp) ?_
 refine WE.cc 15 ((fewL7_any (g1 := ga) (HLa.out.up (E.out.trans EY.out)) (HKa.out.up (E.out.trans EY.out)) fa.out).mono ?_)
 rintro e wn ⟨rfl, hb⟩
 refine ⟨_, rfl, hb, ?_⟩
 replace EY := hid (EY.out.trans hb)
 clear hb
 refine WE.pp 16 (.bool false) ?_
 refine WE.pp 17 (.bool false) ?_
 refine WE.pp 18 (.slice Am nm cm) ?_
 refine WE.pp 19 (.int .i64 (nm : Int)) ?_
 simp only [Act.put, pA, pB, pC]
 refine WE.pp 20 (.bool false) ?_
 refine WE.pp 21 (.bool false) ?_
 refine WE.pp 22 (.bool false) ?_
 refine WE.pp 23 (.slice Ax nx cx) ?_
 refine WE.cc 24 ((fewP7_any (HPx.out.up (E.out.trans EY.out)) fx.out).mono ?_)
 rintro e wn ⟨rfl, hb⟩
 refine ⟨_, rfl, hb, ?_⟩
 replace EY := hid (EY.out.trans hb)
 clear hb
 refine WE.pp 25 (.bool true) ?_
 simp only [Act.put, pA, pB, pC]
 refine WE.pp 26 (.bool true) ?_
 simp only [Act.put, pA, pB, pC]
 refine WE.done ?_
 go_upto_region 4 with (fail)
 refine wp_region_S [(0, 0)] fun wd hb => ?_
 replace EY := hid (EY.out.trans hb)
 clear hb
 refine WE.pp 6 (.bool true) ?_
 simp only [Act.put, pA, pB, pC]
 refine WE.done ?_
 repeat go_step
 go_ret
 exact ⟨rfl, (E.out.trans EY.out)⟩

set_option maxRecDepth 100000 in
set_option maxHeartbeats 16000000 in
theorem belowTells_main (W : World) (Aa : Option Addr) (na ca : Nat) (la : List (Int × Bool × List Nat)) (ga : Bool) (Ba : Option Addr) (ma da : Nat) (ka : List Nat) (ha : LList W (.slice Aa na ca) la) (ia : Num W W.heap.size (.slice Ba ma da) ka) (Am : Option Addr) (nm cm : Nat) (rs : List M.Raw) (hm : RList W (.slice Am nm cm) rs) (Ax : Option Addr) (nx cx : Nat) (lx : List (Bool × List Nat)) (hx : ZList W (.slice Ax nx cx) lx) (fa : Hid (M.fewL la ka = true)) (fm : Hid ((!decide ((8 : Int) < (nm : Int))) = true)) (fx : Hid (M.fewP lx = true)) :
 Calls Tryz.prog 5 #[.agg #[.slice Aa na ca, .bool ga, .slice Ba ma da], .slice Am nm cm, .slice Ax nx cx] W (fun e w' => e = .returned (.bool true) ∧ Ext W w') := by
 have HLa := hid ha
 have HKa := hid ia
 obtain ⟨qa, qb, qc⟩ := M.fewL_parts fa.out
 obtain ⟨t, hta⟩ : ∃ t, t = M.ft la ga ka := ⟨_, rfl⟩
 obtain ⟨κ, hka⟩ : ∃ k, k = M.fk la ga ka := ⟨_, rfl⟩
 have HAa := hid (worthL_of ha ia qa qc hta hka)
 have NAa := hid (show t.length ≤ 8 by rw [hta]; exact Nat.le_trans (M.ft_len _ _ _) qb)
 clear qa qb qc hta hka
 clear ha ia
 have HPx := hid hx
 have HPCx := hid hx.count
 have hb9x : nx ≤ 9223372036854775807 := hx.count.2.2
 have HPSx := hid (M.fewP_parts fx.out)
 clear hx
 have HMM := hid hm
 have HMC := hid hm.count
 have hbm : nm ≤ 9223372036854775807 := hm.count.2.2
 clear hm
 have hmd : decide ((8 : Int) < (nm : Int)) = false := by have := fm.out; simpa using this
 obtain ⟨cc, hcc⟩ : ∃ c : Int, M.nC t κ = c := ⟨_, rfl⟩
 have HCC := hid hcc
 obtain ⟨b, hbv⟩ : ∃ b : Bool, decide (κ + M.atT (M.valAt lx) t ≤ 0) = b := ⟨_, rfl⟩
 have HB := hid hbv
 obtain ⟨b2, hbv2⟩ : ∃ b : Bool, (rs.map M.wf).all (M.hl (M.valAt lx)) = b := ⟨_, rfl⟩
 have HB2 := hid hbv2
 clear hcc hbv hbv2
 have hcc2 : (cc == cc) = true := by simp
 have hbb : (b == b) = true := by simp
 have hbb2 : (b2 == b2) = true := by simp
 go_enter Tryz.func5, Tryz.ntmps5
 go_upto_region 1 with (fail)
 obtain ⟨E, BX0⟩ := open1 W #[.slice Aa na ca, .bool ga, .slice Ba ma da] 27
 refine wp_region_S [(0, 1), (1, 0)] fun wd hb => ?_
 replace E := hid (E.out.trans hb)
 replace BX0 := hid (BX0.out.up hb)
 clear hb
 have EY := hid (Ext.refl wd)
 refine WE.cc 12 ((known7 _).mono ?_)
 rintro e wn ⟨rfl, hb⟩
 refine ⟨_, rfl, hb, ?_⟩
 replace EY := hid (EY.out.trans hb)
 clear hb
 refine WE.pp 13 (.bool false) ?_
 simp only [Act.put, pA, pB, pC]
 refine WE.done ?_
 go_upto_region 3 with (fail)
 refine wp_region_S [(0, 0), (1, 1), (2, 0), (3, 0), (4, 0), (5, 0), (6, 0), (7, 0), (8, 0), (9, 0), (10, 1), (11, 0), (12, 0)] fun wd hb => ?_
 replace EY := hid (EY.out.trans hb)
 clear hb
 refine WE.qq 14 (.agg #[.slice Aa na ca, .bool ga, .slice Ba ma da]) rfl (fun w' hk => by obtain ⟨ce0, ce1, ce2⟩ := ((BX0.out.up EY.out).up hk).c3; go_simp) ?_
 refine WE.cc 15 ((fewL7_any (g1 := ga) (HLa.out.up (E.out.trans EY.out)) (HKa.out.up (E.out.trans EY.out)) fa.out).mono ?_)
 rintro e wn ⟨rfl, hb⟩
 refine ⟨_, rfl, hb, ?_⟩
 replace EY := hid (EY.out.trans hb)
 clear hb
 refine WE.pp 16 (.bool false) ?_
 refine WE.pp 17 (.bool false) ?_
 refine WE.pp 18 (.slice Am nm cm) ?_
 refine WE.pp 19 (.int .i64 (nm : Int)) ?_
 simp only [Act.put, pA, pB, pC]
 refine WE.pp 20 (.bool false) ?_
 refine WE.pp 21 (.bool false) ?_
 refine WE.pp 22 (.bool false) ?_
 refine WE.pp 23 (.slice Ax nx cx) ?_
 refine WE.cc 24 ((fewP7_any (HPx.out.up (E.out.trans EY.out)) fx.out).mono ?_)
 rintro e wn ⟨rfl, hb⟩
 refine ⟨_, rfl, hb, ?_⟩
 replace EY := hid (EY.out.trans hb)
 clear hb
 refine WE.pp 25 (.bool false) ?_
 simp only [Act.put, pA, pB, pC]
 refine WE.pp 26 (.bool false) ?_
 simp only [Act.put, pA, pB, pC]
 refine WE.done ?_
 go_upto_region 5 with (fail)
 refine wp_region_S [(0, 0)] fun wd hb => ?_
 replace EY := hid (EY.out.trans hb)
 clear hb
 refine WE.pp 7 (.int .i64 (0)) ?_
 simp only [Act.put, pA, pB, pC]
 refine WE.done ?_
 go_wp2
 go_loopw [7] (fun x7 wr => ∃ (k : Nat), x7 = .int .i64 (k : Int) ∧ k ≤ nm ∧ (∀ x ∈ rs.take k, M.fewL x.1 x.2.2 = true) ∧ Ext W wr ∧ Box wr (W.heap.size) #[.slice Aa na ca, .bool ga, .slice Ba ma da] 27) (fun x7 _ => nm - (intOf x7).toNat)
 case atStart => exact ⟨0, rfl, Nat.zero_le _, fun x hx => by simp at hx, (E.out.trans EY.out), (BX0.out.up EY.out)⟩
 case round =>
  clear E EY BX0
  obtain ⟨k, rfl, hr0, hr1, hr2, hr3⟩ := hrel
  have HOK := hid hr1
  have E := hid hr2
  have BX0 := hid hr3
  clear hr1 hr2 hr3
  have EY := hid (Ext.refl wr)
  have hk := hr0
  by_cases hlt : k < nm
  ·have hlt' : decide ((k : Int) < (nm : Int)) = true := decide_eq_true (by omega)
   obtain ⟨x, hx⟩ : ∃ x, rs[k]? = some x := ⟨_, List.getElem?_eq_getElem (by rw [← HMC.out.1]; exact hlt)⟩
   obtain ⟨ad, Be, pe, qe, Ce, me, de, rfl, ka', kb', kc', kl, kn⟩ := HMM.out.get hx
   have HX := hid hx
   obtain ⟨lx1, gx1, kx1⟩ := x
   have KA := hid ka'
   have KB := hid kb'
   have KC := hid kc'
   have KL := hid kl
   have KN := hid kn
   clear hx ka' kb' kc' kl kn
   go_upto_region 6 with (fail)
   refine wp_region_S [(0, 0), (1, 0), (2, 0), (3, 0)] fun wd hb => ?_
   replace EY := hid (EY.out.trans hb)
   clear hb
   refine WE.pp 27 (.int .i64 (k : Int)) ?_
   refine WE.pp 28 (.slice (some ad) nm cm) ?_
   refine WE.pp 29 (.int .i64 (nm : Int)) ?_
   refine WE.pp 30 (.bool true) ?_
   simp only [Act.put, pA, pB, pC]
   refine WE.done ?_
   obtain ⟨bx, hbx⟩ : ∃ b : Bool, M.fewL lx1 kx1 = b := ⟨_, rfl⟩
   have HBX := hid hbx
   clear hbx
   cases bx with
   | false =>
    go_upto_region 8 with (fail)
    refine wp_region_S [(0, 0), (1, 0), (2, 0), (3, 0), (4, 1), (5, 0)] fun wd hb => ?_
    replace EY := hid (EY.out.trans hb)
    clear hb
    refine WE.pp 33 (.slice (some ad) nm cm) ?_
    refine WE.pp 34 (.int .i64 (k : Int)) ?_
    refine WE.pp 35 (.pointer (some (ad.add (k * 3)))) ?_
    refine WE.qq 36 (.agg #[.slice Be pe qe, .bool gx1, .slice Ce me de]) rfl (fun w' hk => by have ce0 : w'.cell? (ad.add (k * 3)) = some (.slice Be pe qe) := (KA.out.up (E.out.trans EY.out)).up hk; have ce1 : w'.cell? ⟨(ad.add (k * 3)).block, (ad.add (k * 3)).off + 1, none⟩ = some (.bool gx1) := (KB.out.up (E.out.trans EY.out)).up hk; have ce2 : w'.cell? ⟨(ad.add (k * 3)).block, (ad.add (k * 3)).off + 2, none⟩ = some (.slice Ce me de) := (KC.out.up (E.out.trans EY.out)).up hk; go_simp) ?_
    refine WE.cc 37 ((fewL7_any (g1 := gx1) (KL.out.up (E.out.trans EY.out)) (KN.out.up (E.out.trans EY.out)) HBX.out).mono ?_)
    rintro e wn ⟨rfl, hb⟩
    refine ⟨_, rfl, hb, ?_⟩
    replace EY := hid (EY.out.trans hb)
    clear hb
    refine WE.pp 38 (.bool true) ?_
    simp only [Act.put, pA, pB, pC]
    refine WE.done ?_
    go_upto_region 9 with (fail)
    refine wp_region_S [(0, 0)] fun wd hb => ?_
    replace EY := hid (EY.out.trans hb)
    clear hb
    refine WE.pp 6 (.bool true) ?_
    simp only [Act.put, pA, pB, pC]
    refine WE.done ?_
    repeat go_step
    go_ret
    exact ⟨rfl, (E.out.trans EY.out)⟩
   | true =>
    go_upto_region 8 with (fail)
    refine wp_region_S [(0, 0), (1, 0), (2, 0), (3, 0), (4, 1), (5, 0)] fun wd hb => ?_
    replace EY := hid (EY.out.trans hb)
    clear hb
    refine WE.pp 33 (.slice (some ad) nm cm) ?_
    refine WE.pp 34 (.int .i64 (k : Int)) ?_
    refine WE.pp 35 (.pointer (some (ad.add (k * 3)))) ?_
    refine WE.qq 36 (.agg #[.slice Be pe qe, .bool gx1, .slice Ce me de]) rfl (fun w' hk => by have ce0 : w'.cell? (ad.add (k * 3)) = some (.slice Be pe qe) := (KA.out.up (E.out.trans EY.out)).up hk; have ce1 : w'.cell? ⟨(ad.add (k * 3)).block, (ad.add (k * 3)).off + 1, none⟩ = some (.bool gx1) := (KB.out.up (E.out.trans EY.out)).up hk; have ce2 : w'.cell? ⟨(ad.add (k * 3)).block, (ad.add (k * 3)).off + 2, none⟩ = some (.slice Ce me de) := (KC.out.up (E.out.trans EY.out)).up hk; go_simp) ?_
    refine WE.cc 37 ((fewL7_any (g1 := gx1) (KL.out.up (E.out.trans EY.out)) (KN.out.up (E.out.trans EY.out)) HBX.out).mono ?_)
    rintro e wn ⟨rfl, hb⟩
    refine ⟨_, rfl, hb, ?_⟩
    replace EY := hid (EY.out.trans hb)
    clear hb
    refine WE.pp 38 (.bool false) ?_
    simp only [Act.put, pA, pB, pC]
    refine WE.done ?_
    go_wp2
    go_roundw
    case rel => exact ⟨k + 1, by go_num, by omega, fun y hy => by rw [List.take_add_one, HX.out, Option.toList_some] at hy; rcases List.mem_append.1 hy with hy | hy; exact HOK.out y hy; simp only [List.mem_singleton] at hy; subst hy; exact HBX.out, (E.out.trans EY.out), (BX0.out.up EY.out)⟩
    case measure => simp [intOf]; all_goals omega
  ·obtain rfl : k = nm := by omega
   have hlt' : decide ((k : Int) < (k : Int)) = false := by simp
   go_upto_region 6 with (fail)
   refine wp_region_S [(0, 0), (1, 0), (2, 0), (3, 0)] fun wd hb => ?_
   replace EY := hid (EY.out.trans hb)
   clear hb
   refine WE.pp 27 (.int .i64 (k : Int)) ?_
   refine WE.pp 28 (.slice Am k cm) ?_
   refine WE.pp 29 (.int .i64 (k : Int)) ?_
   refine WE.pp 30 (.bool false) ?_
   simp only [Act.put, pA, pB, pC]
   refine WE.done ?_
   have HALL := hid (show ∀ x ∈ rs, M.fewL x.1 x.2.2 = true from fun x hx => HOK.out x (by rw [HMC.out.1, List.take_length]; exact hx))
   have HWL := hid (HMM.out.worth HALL.out)
   have HWN := hid (M.wf_len HALL.out)
   go_upto_region 10 with (fail)
   refine wp_region_S [(0, 0), (1, 1), (2, 0), (3, 0), (4, 0), (5, 1), (6, 4), (7, 0)] fun wd hb => ?_
   replace EY := hid (EY.out.trans hb)
   clear hb
   refine WE.qq 40 (.agg #[.slice Aa na ca, .bool ga, .slice Ba ma da]) rfl (fun w' hk => by obtain ⟨ce0, ce1, ce2⟩ := ((BX0.out.up EY.out).up hk).c3; go_simp) ?_
   refine WE.cc 41 ((normB_to (WorthL.wide (HAa.out.up (E.out.trans EY.out)) (U := 4) (by omega)) (by omega) (Nat.le_trans NAa.out (by decide)) (s := (M.nT t)) (μ := (M.nK t κ)) (c := cc) (rfl) (rfl) (HCC.out)).mono ?_)
   rintro e wn ⟨v1, rfl, x1, hb⟩
   obtain ⟨A11, n11, c11, g11, B11, m11, d11, rfl⟩ := x1.shape
   refine ⟨_, rfl, hb, ?_⟩
   replace EY := hid (EY.out.trans hb)
   have S11 := hid x1
   clear hb x1
   refine WE.pp 39 (.tuple #[(.agg #[.slice A11 n11 c11, .bool g11, .slice B11 m11 d11]), (.int .i64 cc)]) ?_
   refine WE.pp 42 (.agg #[.slice A11 n11 c11, .bool g11, .slice B11 m11 d11]) ?_
   refine WE.pp 43 (.int .i64 cc) ?_
   simp only [Act.put, pA, pB, pC]
   refine WE.new (d := some 8) (cs := #[.slice none 0 0, .bool false, .slice none 0 0]) (t := 27) (v := fun g => (.pointer (some ⟨g, 0, none⟩))) rfl rfl (by rfl) (fun w => by go_simp) fun gV8 wv hx0 hbox hge => ?_
   have HNV8BX0 := hid (show gV8 ≠ (W.heap.size) by have := (BX0.out.up EY.out).lt; omega)
   have HGV8 := hid (show W.heap.size ≤ gV8 by have := (E.out.trans EY.out).size; omega)
   replace EY := hid (EY.out.trans hx0)
   replace S11 := hid (S11.out.up hx0)
   have V8 : Hid (Box wv gV8 #[.slice none 0 0, .bool false, .slice none 0 0] 27) := hid hbox
   clear hx0 hbox hge
   simp only [Act.put, pA, pB, pC]
   refine WE.store3 (g := gV8) (x := .slice A11 n11 c11) (y := .bool g11) (z := .slice B11 m11 d11) (t := 27) rfl rfl (by rfl) (fun w hb => ?_) V8.out (by rfl) fun ws hk hs => ?_
   ·obtain ⟨ce0, ce1, ce2⟩ := hb.c3; obtain ⟨f0, f1, f2⟩ := hb.f3; go_simp
   intro hbx
   replace S11 := hid (S11.out.kb V8.out (by rfl) hk hs)
   replace E := hid ((E.out.trans EY.out).keptG hk HGV8.out)
   replace BX0 := hid ((BX0.out.up EY.out).kept hk (by simpa using HNV8BX0.out.symm))
   replace V8 := hid hbx
   clear hk hs hbx
   replace EY := hid (Ext.refl ws)
   refine WE.pp 9 (.int .i64 cc) ?_
   simp only [Act.put, pA, pB, pC]
   refine WE.done ?_
   go_upto_region 11 with (fail)
   refine wp_region_S [(0, 0), (1, 1), (2, 0), (3, 0), (4, 0), (5, 1), (6, 4), (7, 0)] fun wd hb => ?_
   replace EY := hid (EY.out.trans hb)
   clear hb
   refine WE.qq 45 (.agg #[.slice Aa na ca, .bool ga, .slice Ba ma da]) rfl (fun w' hk => by obtain ⟨ce0, ce1, ce2⟩ := ((BX0.out.up EY.out).up hk).c3; go_simp) ?_
   refine WE.cc 46 ((rNormL_to (WorthL.wide (HAa.out.up (E.out.trans EY.out)) (U := 4) (by omega)) (by omega) (Nat.le_trans NAa.out (by decide)) (s := (M.nT t)) (μ := (M.nK t κ)) (c := cc) (rfl) (rfl) (HCC.out)).mono ?_)
   rintro e wn ⟨v1, rfl, x1, hb⟩
   obtain ⟨A12, n12, c12, g12, B12, m12, d12, rfl⟩ := x1.shape
   refine ⟨_, rfl, hb, ?_⟩
   replace EY := hid (EY.out.trans hb)
   have S12 := hid x1
   clear hb x1
   refine WE.pp 44 (.tuple #[(.agg #[.slice A12 n12 c12, .bool g12, .slice B12 m12 d12]), (.int .i64 cc)]) ?_
   refine WE.pp 47 (.agg #[.slice A12 n12 c12, .bool g12, .slice B12 m12 d12]) ?_
   refine WE.pp 48 (.int .i64 cc) ?_
   simp only [Act.put, pA, pB, pC]
   refine WE.new (d := some 10) (cs := #[.slice none 0 0, .bool false, .slice none 0 0]) (t := 27) (v := fun g => (.pointer (some ⟨g, 0, none⟩))) rfl rfl (by rfl) (fun w => by go_simp) fun gV10 wv hx0 hbox hge => ?_
   have HNV10BX0 := hid (show gV10 ≠ (W.heap.size) by have := (BX0.out.up EY.out).lt; omega)
   have HNV10V8 := hid (show gV10 ≠ gV8 by have := (V8.out.up EY.out).lt; omega)
   have HGV10 := hid (show W.heap.size ≤ gV10 by have := (E.out.trans EY.out).size; omega)
   replace EY := hid (EY.out.trans hx0)
   replace S12 := hid (S12.out.up hx0)
   have V10 : Hid (Box wv gV10 #[.slice none 0 0, .bool false, .slice none 0 0] 27) := hid hbox
   clear hx0 hbox hge
   simp only [Act.put, pA, pB, pC]
   refine WE.store3 (g := gV10) (x := .slice A12 n12 c12) (y := .bool g12) (z := .slice B12 m12 d12) (t := 27) rfl rfl (by rfl) (fun w hb => ?_) V10.out (by rfl) fun ws hk hs => ?_
   ·obtain ⟨ce0, ce1, ce2⟩ := hb.c3; obtain ⟨f0, f1, f2⟩ := hb.f3; go_simp
   intro hbx
   replace S11 := hid ((S11.out.up EY.out).kb V10.out (by rfl) hk hs)
   replace S12 := hid (S12.out.kb V10.out (by rfl) hk hs)
   replace E := hid ((E.out.trans EY.out).keptG hk HGV10.out)
   replace BX0 := hid ((BX0.out.up EY.out).kept hk (by simpa using HNV10BX0.out.symm))
   replace V8 := hid ((V8.out.up EY.out).kept hk (by simpa using HNV10V8.out.symm))
   replace V10 := hid hbx
   clear hk hs hbx
   replace EY := hid (Ext.refl ws)
   refine WE.pp 11 (.int .i64 cc) ?_
   simp only [Act.put, pA, pB, pC]
   refine WE.done ?_
   go_upto_region 12 with (fail)
   refine wp_region_D [(0, 0), (1, 0), (2, 1), (3, 0), (4, 0), (5, 0), (6, 0), (7, 0), (8, 0), (9, 0), (11, 0), (10, 1), (12, 1), (13, 1), (14, 0), (15, 0), (16, 0), (17, 0), (19, 0), (20, 0), (18, 1), (21, 1), (22, 0), (23, 0), (24, 0), (25, 0), (26, 0), (28, 0), (29, 0), (27, 1), (30, 1), (31, 0), (32, 0), (33, 0)] fun wd hb => ?_
   replace EY := hid (EY.out.trans hb)
   clear hb
   refine WE.qq 49 (.agg #[.slice A11 n11 c11, .bool g11, .slice B11 m11 d11]) rfl (fun w' hk => by obtain ⟨ce0, ce1, ce2⟩ := ((V8.out.up EY.out).up hk).c3; go_simp) ?_
   refine WE.qq 50 (.agg #[.slice A12 n12 c12, .bool g12, .slice B12 m12 d12]) rfl (fun w' hk => by obtain ⟨ce0, ce1, ce2⟩ := ((V10.out.up EY.out).up hk).c3; go_simp) ?_
   refine WE.cc 51 ((rEqualL_l (S11.out.up EY.out) (S12.out.up EY.out) (b := true) (decide_eq_true ⟨rfl, rfl⟩)).mono ?_)
   rintro e wn ⟨rfl, hb⟩
   refine ⟨_, rfl, hb, ?_⟩
   replace EY := hid (EY.out.trans hb)
   clear hb
   refine WE.pp 52 (.bool true) ?_
   refine WE.pp 53 (.int .i64 cc) ?_
   refine WE.pp 54 (.int .i64 cc) ?_
   simp only [Act.put, pA, pB, pC]
   refine WE.pp 55 (.bool true) ?_
   refine WE.pp 56 (.bool true) ?_
   refine WE.pp 57 (.bool true) ?_
   refine WE.qq 58 (.agg #[.slice Aa na ca, .bool ga, .slice Ba ma da]) rfl (fun w' hk => by obtain ⟨ce0, ce1, ce2⟩ := ((BX0.out.up EY.out).up hk).c3; go_simp) ?_
   refine WE.qq 60 (.agg #[.slice Aa na ca, .bool ga, .slice Ba ma da]) rfl (fun w' hk => by obtain ⟨ce0, ce1, ce2⟩ := ((BX0.out.up EY.out).up hk).c3; go_simp) ?_
   refine WE.cc 59 ((notB_l (WorthL.wide (HAa.out.up (E.out.trans EY.out)) (U := 4) (by omega)) (by omega) (Nat.le_trans NAa.out (by decide))).mono ?_)
   rintro e wn ⟨v1, rfl, x1, hb⟩
   obtain ⟨A13, n13, c13, g13, B13, m13, d13, rfl⟩ := x1.shape
   refine ⟨_, rfl, hb, ?_⟩
   replace EY := hid (EY.out.trans hb)
   have S13 := hid x1
   clear hb x1
   simp only [Act.put, pA, pB, pC]
   refine WE.cc 61 ((rNotL_l (WorthL.wide (HAa.out.up (E.out.trans EY.out)) (U := 4) (by omega)) (by omega) (Nat.le_trans NAa.out (by decide))).mono ?_)
   rintro e wn ⟨v1, rfl, x1, hb⟩
   obtain ⟨A14, n14, c14, g14, B14, m14, d14, rfl⟩ := x1.shape
   refine ⟨_, rfl, hb, ?_⟩
   replace EY := hid (EY.out.trans hb)
   replace S13 := hid (S13.out.up hb)
   have S14 := hid x1
   clear hb x1
   refine WE.cc 62 ((rEqualL_l S13.out S14.out (b := true) (decide_eq_true ⟨rfl, rfl⟩)).mono ?_)
   rintro e wn ⟨rfl, hb⟩
   refine ⟨_, rfl, hb, ?_⟩
   replace EY := hid (EY.out.trans hb)
   clear hb
   refine WE.pp 63 (.bool true) ?_
   refine WE.pp 64 (.bool true) ?_
   refine WE.qq 65 (.agg #[.slice Aa na ca, .bool ga, .slice Ba ma da]) rfl (fun w' hk => by obtain ⟨ce0, ce1, ce2⟩ := ((BX0.out.up EY.out).up hk).c3; go_simp) ?_
   refine WE.pp 66 (.slice Ax nx cx) ?_
   simp only [Act.put, pA, pB, pC]
   refine WE.qq 68 (.agg #[.slice Aa na ca, .bool ga, .slice Ba ma da]) rfl (fun w' hk => by obtain ⟨ce0, ce1, ce2⟩ := ((BX0.out.up EY.out).up hk).c3; go_simp) ?_
   refine WE.pp 69 (.slice Ax nx cx) ?_
   refine WE.cc 67 ((holdsB_l (WorthL.wide (HAa.out.up (E.out.trans EY.out)) (U := 4) (by omega)) (hp := HPx.out.up (E.out.trans EY.out)) (fun x hx => Nat.le_trans (HPSx.out.1 x hx) (by decide)) (by omega) (Nat.le_trans NAa.out (by decide)) (b := b) (HB.out)).mono ?_)
   rintro e wn ⟨rfl, hb⟩
   refine ⟨_, rfl, hb, ?_⟩
   replace EY := hid (EY.out.trans hb)
   clear hb
   refine WE.cc 70 ((rHoldsL_l (WorthL.wide (HAa.out.up (E.out.trans EY.out)) (U := 4) (by omega)) (hp := HPx.out.up (E.out.trans EY.out)) (fun x hx => Nat.le_trans (HPSx.out.1 x hx) (by decide)) (by omega) (Nat.le_trans NAa.out (by decide)) (b := b) (HB.out)).mono ?_)
   rintro e wn ⟨rfl, hb⟩
   refine ⟨_, rfl, hb, ?_⟩
   replace EY := hid (EY.out.trans hb)
   clear hb
   refine WE.pp 71 (.bool true) ?_
   refine WE.pp 72 (.bool true) ?_
   simp only [Act.put, pA, pB, pC]
   refine WE.pp 73 (.bool true) ?_
   refine WE.pp 74 (.slice Am k cm) ?_
   refine WE.pp 75 (.slice Ax nx cx) ?_
   refine WE.pp 77 (.slice Am k cm) ?_
   refine WE.pp 78 (.slice Ax nx cx) ?_
   refine WE.cc 76 ((allB_l (HWL.out.up (E.out.trans EY.out)) (hp := HPx.out.up (E.out.trans EY.out)) (fun x hx => Nat.le_trans (HPSx.out.1 x hx) (by decide)) (by omega) HWN.out (b := b2) (HB2.out)).mono ?_)
   rintro e wn ⟨rfl, hb⟩
   refine ⟨_, rfl, hb, ?_⟩
   replace EY := hid (EY.out.trans hb)
   clear hb
   simp only [Act.put, pA, pB, pC]
   refine WE.cc 79 ((rAllL_l (HWL.out.up (E.out.trans EY.out)) (hp := HPx.out.up (E.out.trans EY.out)) (fun x hx => Nat.le_trans (HPSx.out.1 x hx) (by decide)) (by omega) HWN.out (b := b2) (HB2.out)).mono ?_)
   rintro e wn ⟨rfl, hb⟩
   refine ⟨_, rfl, hb, ?_⟩
   replace EY := hid (EY.out.trans hb)
   clear hb
   refine WE.pp 80 (.bool true) ?_
   refine WE.pp 81 (.bool true) ?_
   refine WE.pp 6 (.bool true) ?_
   simp only [Act.put, pA, pB, pC]
   refine WE.done ?_
   repeat go_step
   go_ret
   exact ⟨rfl, (E.out.trans EY.out)⟩

theorem belowTells_walk (W : World) (Aa : Option Addr) (na ca : Nat) (la : List (Int × Bool × List Nat)) (ga : Bool) (Ba : Option Addr) (ma da : Nat) (ka : List Nat) (ha : LList W (.slice Aa na ca) la) (ia : Num W W.heap.size (.slice Ba ma da) ka) (Am : Option Addr) (nm cm : Nat) (rs : List M.Raw) (hm : RList W (.slice Am nm cm) rs) (Ax : Option Addr) (nx cx : Nat) (lx : List (Bool × List Nat)) (hx : ZList W (.slice Ax nx cx) lx) :
 Calls Tryz.prog 5 #[.agg #[.slice Aa na ca, .bool ga, .slice Ba ma da], .slice Am nm cm, .slice Ax nx cx] W (fun e w' => e = .returned (.bool true) ∧ Ext W w') := by
 rcases fa : (M.fewL la ka) with _ | _
 ·exact belowTells_skip0 W Aa na ca la ga Ba ma da ka ha ia Am nm cm rs hm Ax nx cx lx hx (hid fa)
 rcases fm : ((!decide ((8 : Int) < (nm : Int)))) with _ | _
 ·exact belowTells_skip1 W Aa na ca la ga Ba ma da ka ha ia Am nm cm rs hm Ax nx cx lx hx (hid fa) (hid fm)
 rcases fx : (M.fewP lx) with _ | _
 ·exact belowTells_skip2 W Aa na ca la ga Ba ma da ka ha ia Am nm cm rs hm Ax nx cx lx hx (hid fa) (hid fm) (hid fx)
 exact belowTells_main W Aa na ca la ga Ba ma da ka ha ia Am nm cm rs hm Ax nx cx lx hx (hid fa) (hid fm) (hid fx)

set_option maxRecDepth 100000 in
theorem belowTells_lifted (os : Os) (started : os.Started) (H : Type) (enc : TypeId × Value → H) :
 ReturnsInHanded {} Tryz.checked os 5 .any (Rows.belowTellsSpec.pre6 enc Tryz.prog Tryz.f5 Rows.belowTellsRow.domain false) (Rows.belowTellsSpec.post enc Tryz.prog Tryz.f5 false true false false) := by
 refine returnsInHanded_of_change (C := Tryz.checked) own started (by kernel_rfl) Tryz.func5
  (ChangeSpec.witness6 (enc := enc) (C := Tryz.checked) false ⟨#[], #[.agg #[.slice none 0 0, .bool false, .slice none 0 0], .slice none 0 0, .slice none 0 0], []⟩ 8 (by kernel_rfl) (by kernel_rfl) (by kernel_rfl) (by kernel_rfl)) ?_
 intro W base args ds gs before hval0 hW _ _
 have hval : ∀ (j : Nat) t v, Tryz.f5.params[j]? = some t → args[j]? = some v → Value.okWide Tryz.prog W .any base t v := hval0
 have hW' := hW
 obtain ⟨p, q, hA0, hV, rfl, hfz, hnd⟩ := hW
 have hA : DataW.TrodAll enc Tryz.prog W 0 (fun _ => true) true Tryz.f5.params.toList args.toList ds p := hA0
 rw [Tryz.params5] at hA hval
 obtain ⟨v0, vs0, d0, ds0, p0, q0, hargs, rfl, rfl, h0, r0⟩ := trodAll_cons hA
 obtain ⟨v1, vs1, d1, ds1, p1, q1, rfl, rfl, rfl, h1, r1⟩ := trodAll_cons r0
 obtain ⟨v2, vs2, d2, ds2, p2, q2, rfl, rfl, rfl, h2, r2⟩ := trodAll_cons r1
 obtain ⟨rfl, rfl, rfl⟩ := trodAll_nil r2
 obtain rfl : args = #[v0, v1, v2] := by cases args; simp_all
 obtain ⟨rfl, rfl⟩ := trodVars_none hV
 obtain ⟨A0, n0, c0, l0, g0, B0, m0, q0, t0, rfl, e0, f0⟩ := open_L (hval 0 27 _ rfl rfl) h0
 obtain ⟨A1, n1, c1, l1, rfl, e1⟩ := open_RL (hval 1 47 _ rfl rfl) h1
 obtain ⟨A2, n2, c2, l2, rfl, e2⟩ := open_ZL (hval 2 28 _ rfl rfl) h2
 clear hA0 hval0
 refine (belowTells_walk W A0 n0 c0 l0 g0 B0 m0 q0 t0 e0 f0 A1 n1 c1 l1 e1 A2 n2 c2 l2 e2).mono fun e W' ⟨he, hg⟩ => ?_
 subst he
 exact ⟨_, rfl, law_post hW' rfl rfl (by kernel_rfl) (by kernel_rfl) hg⟩

theorem belowTells_over : Rows.belowTellsRow.holds Tryz.pinned (OpenSpec.ofChange Rows.belowTellsSpec) :=
 OpenClaim.holds_of_wide 5 Tryz.f5 rfl rfl rfl rfl rfl rfl rfl ⟨rfl, rfl, rfl, rfl, rfl⟩ rfl rfl rfl rfl rfl (by kernel_rfl) Tryz.func5 (by kernel_rfl)
  (of_decide_eq_true (by kernel_rfl)) (by unfold Func.isWrapper; first | (rw [if_pos (by decide +kernel)]; kernel_rfl) | (rw [if_neg (by decide +kernel)]; exact ⟨rfl, rfl⟩))
  (fun os started H enc _ => belowTells_lifted os started H enc)

theorem belowTells_proved : Rows.BelowTellsSaid := belowTells_over

end Go.Proofs.YtklmnmkmpkobhaaGreat
