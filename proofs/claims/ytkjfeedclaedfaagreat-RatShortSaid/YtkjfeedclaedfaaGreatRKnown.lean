/-
  What each law of layer 5 asks first; an argument that is a fraction opened.
-/
import Derived.Test.YtkjfeedclaedfaaGreatRFaceA
import Derived.Test.YtkjfeedclaedfaaGreatRFaceB
import Derived.Test.YtkjfeedclaedfaaGreatRRefB
namespace Go.Proofs.YtkjfeedclaedfaaGreat
open Go.ChangeShapes Go.WideShapes Go.ChangeAt Go.RowKit
set_option linter.unusedSimpArgs false
set_option linter.unusedVariables false

theorem cells_Rat : Tryz.prog.cellsOf 26 = 3 := by kernel_rfl
section
variable {H : Type} {enc : TypeId × Value → H} {W W' : World}
set_option maxRecDepth 100000 in
/-- An argument that is a fraction, or what is none. -/
theorem open_R {r : Reach} {b0 : Nat} {v : Value} {d : DataW H} {ps : List MemPlace} (hval : Value.okWide Tryz.prog W r b0 26 v) (h : DataW.Trod enc Tryz.prog W 0 (fun _ => true) true 26 v d ps) :
    ∃ g A n c l B m q s, v = .agg #[.bool g, .slice A n c, .slice B m q] ∧ Num W W.heap.size (.slice A n c) l ∧ Num W W.heap.size (.slice B m q) s := by
  obtain ⟨cs, rfl, hsz⟩ := okWide_struct Tryz.underlying26 hval
  obtain ⟨v0, v1, v2, rfl⟩ := Go.Joins.array3 (hsz.trans cells_Rat)
  obtain ⟨fuel, hf⟩ := h
  obtain ⟨y0, y1, n, _, _, h0, h1⟩ := trod_struct2 Tryz.underlying26 hf
  have c0 : Tryz.prog.cellsOf 4 = 1 := by kernel_rfl
  have c1 : Tryz.prog.cellsOf 22 = 1 := by kernel_rfl
  simp only [Value.cells, List.drop_zero, cells_Int, List.take_succ_cons, List.take_zero] at h0
  simp only [Value.cells, List.drop_succ_cons, List.drop_zero, c1, List.take_succ_cons, List.take_zero] at h1
  obtain ⟨z0, z1, n', _, _, k0, k1⟩ := trod_struct2 Tryz.underlying24 h0
  simp only [List.drop_zero, c0, List.take_succ_cons, List.take_zero] at k0
  simp only [List.drop_succ_cons, List.drop_zero, c1, List.take_succ_cons, List.take_zero] at k1
  obtain ⟨b, hb, _⟩ := DataW.trod_bool Tryz.underlying4 k0
  injection hb with hb
  subst hb
  obtain ⟨A, n1, c1', l, rfl, hn⟩ := open_row k1
  obtain ⟨B, m1, q1, s, rfl, hm⟩ := open_row h1
  exact ⟨b, A, n1, c1', l, B, m1, q1, s, rfl, hn, hm⟩
end
theorem few5 {w : World} {g : Bool} {A B : Option Addr} {n c m d : Nat} {l r : List Nat} (hm : Num w w.heap.size (.slice A n c) l) (hr : Num w w.heap.size (.slice B m d) r) {b : Bool} (hb : (decide (l.length ≤ 4) && decide (r.length ≤ 4)) = b) :
    Calls Tryz.prog 8 #[.agg #[.bool g, .slice A n c, .slice B m d]] w (GivesB w b) := by
  have hn : n = l.length := by obtain ⟨_, _, _, e, h, _⟩ := hm; injection e with _ e2; rw [e2, h]
  have hn9 : n ≤ 9223372036854775807 := by obtain ⟨_, _, _, e, _, h1, h2, _⟩ := hm; injection e with _ e2 e3; unfold maxLen at h2; omega
  have hk : m = r.length := by obtain ⟨_, _, _, e, h, _⟩ := hr; injection e with _ e2; rw [e2, h]
  have hk9 : m ≤ 9223372036854775807 := by obtain ⟨_, _, _, e, _, h1, h2, _⟩ := hr; injection e with _ e2 e3; unfold maxLen at h2; omega
  rw [← hn, ← hk] at hb
  clear hm hr hn hk
  subst hb
  rw [show decide (n ≤ 4) = decide ((n : Int) ≤ 4) by rw [Bool.eq_iff_iff, decide_eq_true_iff, decide_eq_true_iff]; omega, show decide (m ≤ 4) = decide ((m : Int) ≤ 4) by rw [Bool.eq_iff_iff, decide_eq_true_iff, decide_eq_true_iff]; omega]
  obtain ⟨p, hp⟩ : ∃ b : Bool, decide ((n : Int) ≤ 4) = b := ⟨_, rfl⟩
  obtain ⟨q, hq⟩ : ∃ b : Bool, decide ((m : Int) ≤ 4) = b := ⟨_, rfl⟩
  rw [hp, hq]
  cases p
  · go_enter Tryz.func8, Tryz.ntmps8
    go_wp2
    go_ret
    exact ⟨rfl, Ext.alloc _ _⟩
  · cases q
    all_goals
      go_enter Tryz.func8, Tryz.ntmps8
      go_wp2
      go_ret
      exact ⟨rfl, Ext.alloc _ _⟩
theorem worthR_of {w : World} {g : Bool} {A B : Option Addr} {n c m d k : Nat} {l r : List Nat} (hm : Num w w.heap.size (.slice A n c) l) (hr : Num w w.heap.size (.slice B m d) r) (hl : l.length ≤ k) (hk : r.length ≤ k) {x : Rat} (hx : x = M.rv g l r) : WorthR w (.agg #[.bool g, .slice A n c, .slice B m d]) x k :=
  ⟨g, A, n, c, l, B, m, d, r, rfl, hm, hr, hl, hk, hx.symm⟩
theorem few_l {l r : List Nat} (h : (decide (l.length ≤ 4) && decide (r.length ≤ 4)) = true) : l.length ≤ 4 := by simp at h; exact h.1
theorem few_r {l r : List Nat} (h : (decide (l.length ≤ 4) && decide (r.length ≤ 4)) = true) : r.length ≤ 4 := by simp at h; exact h.2

set_option maxHeartbeats 1000000 in
theorem frac5 {p q : Int} (h1 : -9223372036854775808 ≤ p) (h2 : p ≤ 9223372036854775807) (h3 : -9223372036854775808 ≤ q) (h4 : q ≤ 9223372036854775807) (w : World) :
    Calls Tryz.prog 38 #[.int .i64 p, .int .i64 q] w (GivesR w (Rat.divInt p q) 4) := by
  have HP1 := hid h1
  have HP2 := hid h2
  have HQ1 := hid h3
  have HQ2 := hid h4
  clear h1 h2 h3 h4
  go_enter Tryz.func38, Tryz.ntmps38
  go_upto_region 1 with (fail)
  have E := hid ((Ext.refl w).alloc' (.cells #[.bool false, .slice none 0 0, .slice none 0 0] 26))
  have BX0 : Hid (Box (w.alloc (.cells #[.bool false, .slice none 0 0, .slice none 0 0] 26)) (w.heap.size) #[.bool false, .slice none 0 0, .slice none 0 0] 26) := hid (Box.at_ (w := w) #[.bool false, .slice none 0 0, .slice none 0 0] 26 (by simp))
  refine wp_region_T [(0, 0), (1, 1), (2, 0), (3, 1), (4, 1), (5, 4)] (by kernel_rfl) fun wd hb => ?_
  replace E := hid (E.out.trans hb)
  replace BX0 := hid (BX0.out.up hb)
  clear hb
  have EY := hid (Ext.refl wd)
  refine WE.pure (d := some 5) rfl rfl (by rfl) (v := (.int .i64 p)) (fun w' hk => by go_simp) ?_
  simp only [Act.put, pA, pB, pC]
  refine WE.call (d := some 6) rfl rfl (by rfl) (by go_simp) ((rOf_z (n := p) HP1.out HP2.out _).mono ?_)
  rintro e wn ⟨v1, rfl, x1, hb⟩
  obtain ⟨g11, A11, n11, c11, rfl⟩ := x1.shape
  refine ⟨_, rfl, hb, ?_⟩
  replace EY := hid (EY.out.trans hb)
  have Q11 := hid x1
  clear hb x1
  simp only [Act.put, pA, pB, pC]
  refine WE.pure (d := some 7) rfl rfl (by rfl) (v := (.int .i64 q)) (fun w' hk => by go_simp) ?_
  simp only [Act.put, pA, pB, pC]
  refine WE.call (d := some 8) rfl rfl (by rfl) (by go_simp) ((rOf_z (n := q) HQ1.out HQ2.out _).mono ?_)
  rintro e wn ⟨v1, rfl, x1, hb⟩
  obtain ⟨g12, A12, n12, c12, rfl⟩ := x1.shape
  refine ⟨_, rfl, hb, ?_⟩
  replace EY := hid (EY.out.trans hb)
  replace Q11 := hid (Q11.out.up hb)
  have Q12 := hid x1
  clear hb x1
  simp only [Act.put, pA, pB, pC]
  refine WE.call (d := some 9) rfl rfl (by rfl) (by go_simp) ((rOfR_r (Worth.wide Q11.out.worth (k := 3) (by omega)) (Worth.wide Q12.out.worth (k := 3) (by omega)) (by omega)).mono ?_)
  rintro e wn ⟨v1, rfl, x1, hb⟩
  obtain ⟨g13, A13, n13, c13, B13, m13, d13, rfl, p1, q1⟩ := x1
  refine ⟨_, rfl, hb, ?_⟩
  replace EY := hid (EY.out.trans hb)
  have P13 := hid p1
  have D13 := hid q1
  clear hb p1 q1
  simp only [Act.put, pA, pB, pC]
  clear Q11
  clear Q12
  refine WE.store3 (g := (w.heap.size)) (x := .bool g13) (y := .slice A13 n13 c13) (z := .slice B13 m13 d13) (t := 26) rfl rfl (by rfl) (fun w hb => ?_) (BX0.out.up EY.out) (by rfl) fun ws hk hs => ?_
  · obtain ⟨ce0, ce1, ce2⟩ := hb.c3; obtain ⟨f0, f1, f2⟩ := hb.f3; go_simp
  intro hbx
  replace E := hid ((E.out.trans EY.out).keptG hk (by simp))
  replace BX0 := hid hbx
  replace P13 := hid (P13.out.kz hs)
  replace D13 := hid (D13.out.kz hs)
  clear hk hs hbx
  replace EY := hid (Ext.refl ws)
  refine WE.done ?_
  have r0 := (BX0.out.up EY.out).cell (o := 0) (v := .bool g13) rfl
  have r1 := (BX0.out.up EY.out).cell (o := 1) (v := .slice A13 n13 c13) rfl
  have r2 := (BX0.out.up EY.out).cell (o := 2) (v := .slice B13 m13 d13) rfl
  repeat go_step
  exact bodyPost_ret (v := .agg #[.bool g13, .slice A13 n13 c13, .slice B13 m13 d13]) (by simp [results, Tryz.results38, go_sem, r0, r1, r2]) rfl ⟨_, rfl, (IsR.mk (P13.out.up EY.out) (D13.out.up EY.out)), (E.out.trans EY.out)⟩

set_option maxRecDepth 100000 in
set_option maxHeartbeats 4000000 in
theorem known5 (W : World) :
    Calls Tryz.prog 7 #[] W (fun e w' => e = .returned (.bool true) ∧ Ext W w') := by
  go_enter Tryz.func7, Tryz.ntmps7
  go_upto_region 1 with (fail)
  have E := hid (Ext.refl W)
  refine wp_region_T [(0, 1), (1, 1), (2, 1), (3, 1), (4, 4)] (by kernel_rfl) fun wd hb => ?_
  replace E := hid (E.out.trans hb)
  clear hb
  have EY := hid (Ext.refl wd)
  refine WE.call (d := some 6) rfl rfl (by rfl) (by go_simp) ((rOf_z (n := (6)) (by decide) (by decide) _).mono ?_)
  rintro e wn ⟨v1, rfl, x1, hb⟩
  obtain ⟨g11, A11, n11, c11, rfl⟩ := x1.shape
  refine ⟨_, rfl, hb, ?_⟩
  replace EY := hid (EY.out.trans hb)
  have Q11 := hid x1
  clear hb x1
  simp only [Act.put, pA, pB, pC]
  refine WE.call (d := some 7) rfl rfl (by rfl) (by go_simp) ((rOf_z (n := (-4)) (by decide) (by decide) _).mono ?_)
  rintro e wn ⟨v1, rfl, x1, hb⟩
  obtain ⟨g12, A12, n12, c12, rfl⟩ := x1.shape
  refine ⟨_, rfl, hb, ?_⟩
  replace EY := hid (EY.out.trans hb)
  replace Q11 := hid (Q11.out.up hb)
  have Q12 := hid x1
  clear hb x1
  simp only [Act.put, pA, pB, pC]
  refine WE.call (d := some 8) rfl rfl (by rfl) (by go_simp) ((fOf_r (Worth.wide Q11.out.worth (k := 3) (by omega)) (Worth.wide Q12.out.worth (k := 3) (by omega)) (by omega)).mono ?_)
  rintro e wn ⟨v1, rfl, x1, hb⟩
  obtain ⟨g13, A13, n13, c13, B13, m13, d13, rfl, p1, q1⟩ := x1
  refine ⟨_, rfl, hb, ?_⟩
  replace EY := hid (EY.out.trans hb)
  have P13 := hid p1
  have D13 := hid q1
  clear hb p1 q1
  simp only [Act.put, pA, pB, pC]
  clear Q11
  clear Q12
  refine WE.new (d := some 1) (cs := #[.bool false, .slice none 0 0, .slice none 0 0]) (t := 26) (v := fun g => (.pointer (some ⟨g, 0, none⟩))) rfl rfl (by rfl) (fun w => by go_simp) fun gV1 wv hx0 hbox hge => ?_
  have HGV1 := hid (show W.heap.size ≤ gV1 by have := (E.out.trans EY.out).size; omega)
  replace EY := hid (EY.out.trans hx0)
  replace P13 := hid (P13.out.up hx0)
  replace D13 := hid (D13.out.up hx0)
  have V1 : Hid (Box wv gV1 #[.bool false, .slice none 0 0, .slice none 0 0] 26) := hid hbox
  clear hx0 hbox hge
  simp only [Act.put, pA, pB, pC]
  refine WE.store3 (g := gV1) (x := .bool g13) (y := .slice A13 n13 c13) (z := .slice B13 m13 d13) (t := 26) rfl rfl (by rfl) (fun w hb => ?_) V1.out (by rfl) fun ws hk hs => ?_
  · obtain ⟨ce0, ce1, ce2⟩ := hb.c3; obtain ⟨f0, f1, f2⟩ := hb.f3; go_simp
  intro hbx
  replace E := hid ((E.out.trans EY.out).keptG hk HGV1.out)
  replace V1 := hid hbx
  replace P13 := hid (P13.out.kz hs)
  replace D13 := hid (D13.out.kz hs)
  clear hk hs hbx
  replace EY := hid (Ext.refl ws)
  refine WE.done ?_
  go_upto_region 2 with (fail)
  refine wp_region_E [(0, 0), (1, 2), (2, 2), (3, 0), (4, 0), (5, 5), (6, 3), (7, 4), (8, 5)] (fun _ => (26, #[.bool false, .slice none 0 0, .slice none 0 0])) rfl (by kernel_rfl) (by intro j hj; simp [pend] at hj; obtain rfl := hj; exact ⟨_, rfl, rfl, rfl, fun w => by go_simp⟩) (fun _ _ d _ _ => by cases d <;> exact Iff.rfl) fun wd hb => ?_
  replace EY := hid (EY.out.trans hb)
  clear hb
  have HL1V1 := hid (V1.out.up EY.out).lt
  have HW1 := hid (show W.heap.size ≤ wd.heap.size from (E.out.trans EY.out).size)
  refine WE.pure (d := some 10) rfl rfl (by rfl) (v := (.agg #[.bool g13, .slice A13 n13 c13, .slice B13 m13 d13])) (fun w' hk => ?_) ?_
  · obtain ⟨ce0, ce1, ce2⟩ := ((V1.out.up EY.out).up hk).c3; go_simp
  simp only [Act.put, pA, pB, pC]
  refine WE.callR (d := some 11) rfl rfl (by rfl) (f := 38) (args := #[(.int .i64 (1)), (.int .i64 (2))]) (fun w => by go_simp) (fun wx hx0 => ?_)
  replace EY := hid (EY.out.trans hx0)
  clear hx0
  refine (frac5 (p := (1)) (q := (2)) (by decide) (by decide) (by decide) (by decide) _).mono ?_
  rintro e wn ⟨v1, rfl, x1, hb⟩
  obtain ⟨g14, A14, n14, c14, B14, m14, d14, rfl, p1, q1⟩ := x1
  refine ⟨_, rfl, hb, ?_⟩
  replace EY := hid (EY.out.trans hb)
  have P14 := hid p1
  have D14 := hid q1
  clear hb p1 q1
  simp only [Act.put, pA, pB, pC]
  refine WE.callR (d := some 12) rfl rfl (by rfl) (f := 9) (args := #[(.agg #[.bool g13, .slice A13 n13 c13, .slice B13 m13 d13]), (.agg #[.bool g14, .slice A14 n14 c14, .slice B14 m14 d14])]) (fun w => by go_simp) (fun wx hx0 => ?_)
  replace EY := hid (EY.out.trans hx0)
  replace P14 := hid (P14.out.up hx0)
  replace D14 := hid (D14.out.up hx0)
  clear hx0
  refine (fDiv_some (WorthR.wide (IsR.mk (P13.out.up EY.out) (D13.out.up EY.out)).worth (k := 4) (by omega)) (WorthR.wide (IsR.mk P14.out D14.out).worth (k := 4) (by omega)) (by omega) (by omega) (by decide +kernel)).mono ?_
  rintro e wn ⟨v1, rfl, x1, hb⟩
  obtain ⟨g15, A15, n15, c15, B15, m15, d15, rfl, p1, q1⟩ := x1
  refine ⟨_, rfl, hb, ?_⟩
  replace EY := hid (EY.out.trans hb)
  have P15 := hid p1
  have D15 := hid q1
  clear hb p1 q1
  simp only [Act.put, pA, pB, pC]
  refine WE.pure (d := some 9) rfl rfl (by rfl) (v := (.tuple #[(.agg #[.bool g15, .slice A15 n15 c15, .slice B15 m15 d15]), (.int .i64 0)])) (fun w' hk => by go_simp) ?_
  simp only [Act.put, pA, pB, pC]
  as_aux_lemma =>
  refine WE.pure (d := some 13) rfl rfl (by rfl) (v := (.agg #[.bool g15, .slice A15 n15 c15, .slice B15 m15 d15])) (fun w' hk => by go_simp) ?_
  simp only [Act.put, pA, pB, pC]
  refine WE.any (d := some 14) rfl rfl (by rfl) (v := (.int .i64 0)) (fun w' => by go_simp) ?_
  simp only [Act.put, pA, pB, pC]
  refine WE.var (d := some 2) rfl fun gV2 wv hx0 hbox hge hng => ?_
  have HNV2V1 := hid (show gV2 ≠ gV1 by have := HL1V1.out; omega)
  have HGV2 := hid (show W.heap.size ≤ gV2 by have := HW1.out; omega)
  replace EY := hid (EY.out.trans hx0)
  replace P15 := hid (P15.out.up hx0)
  replace D15 := hid (D15.out.up hx0)
  have V2 : Hid (Box wv gV2 #[.bool false, .slice none 0 0, .slice none 0 0] 26) := hid hbox
  clear hx0 hbox hge hng
  simp only [Act.put, pA, pB, pC]
  refine WE.store3 (g := gV2) (x := .bool g15) (y := .slice A15 n15 c15) (z := .slice B15 m15 d15) (t := 26) rfl rfl (by rfl) (fun w hb => ?_) V2.out (by rfl) fun ws hk hs => ?_
  · obtain ⟨ce0, ce1, ce2⟩ := hb.c3; obtain ⟨f0, f1, f2⟩ := hb.f3; go_simp
  intro hbx
  replace E := hid ((E.out.trans EY.out).keptG hk HGV2.out)
  replace V1 := hid ((V1.out.up EY.out).kept hk (by simpa using HNV2V1.out.symm))
  replace V2 := hid hbx
  replace P13 := hid ((P13.out.up EY.out).kz hs)
  replace D13 := hid ((D13.out.up EY.out).kz hs)
  replace P15 := hid (P15.out.kz hs)
  replace D15 := hid (D15.out.kz hs)
  clear hk hs hbx
  replace EY := hid (Ext.refl ws)
  refine WE.any (d := some 3) rfl rfl (by rfl) (v := (.int .i64 0)) (fun w' => by go_simp) ?_
  simp only [Act.put, pA, pB, pC]
  refine WE.done ?_
  go_upto_region 3 with (fail)
  refine wp_region_E [(0, 0), (1, 2), (2, 2), (3, 0), (4, 0), (5, 5), (6, 3), (7, 4), (8, 5)] (fun _ => (26, #[.bool false, .slice none 0 0, .slice none 0 0])) rfl (by kernel_rfl) (by intro j hj; simp [pend] at hj; obtain rfl := hj; exact ⟨_, rfl, rfl, rfl, fun w => by go_simp⟩) (fun _ _ d _ _ => by cases d <;> exact Iff.rfl) fun wd hb => ?_
  replace EY := hid (EY.out.trans hb)
  clear hb
  have HL2V1 := hid (V1.out.up EY.out).lt
  have HL2V2 := hid (V2.out.up EY.out).lt
  have HW2 := hid (show W.heap.size ≤ wd.heap.size from (E.out.trans EY.out).size)
  refine WE.pure (d := some 16) rfl rfl (by rfl) (v := (.agg #[.bool g13, .slice A13 n13 c13, .slice B13 m13 d13])) (fun w' hk => ?_) ?_
  · obtain ⟨ce0, ce1, ce2⟩ := ((V1.out.up EY.out).up hk).c3; go_simp
  simp only [Act.put, pA, pB, pC]
  refine WE.callR (d := some 17) rfl rfl (by rfl) (f := 38) (args := #[(.int .i64 (0)), (.int .i64 (1))]) (fun w => by go_simp) (fun wx hx0 => ?_)
  replace EY := hid (EY.out.trans hx0)
  clear hx0
  refine (frac5 (p := (0)) (q := (1)) (by decide) (by decide) (by decide) (by decide) _).mono ?_
  rintro e wn ⟨v1, rfl, x1, hb⟩
  obtain ⟨g16, A16, n16, c16, B16, m16, d16, rfl, p1, q1⟩ := x1
  refine ⟨_, rfl, hb, ?_⟩
  replace EY := hid (EY.out.trans hb)
  have P16 := hid p1
  have D16 := hid q1
  clear hb p1 q1
  simp only [Act.put, pA, pB, pC]
  refine WE.callR (d := some 18) rfl rfl (by rfl) (f := 9) (args := #[(.agg #[.bool g13, .slice A13 n13 c13, .slice B13 m13 d13]), (.agg #[.bool g16, .slice A16 n16 c16, .slice B16 m16 d16])]) (fun w => by go_simp) (fun wx hx0 => ?_)
  replace EY := hid (EY.out.trans hx0)
  replace P16 := hid (P16.out.up hx0)
  replace D16 := hid (D16.out.up hx0)
  clear hx0
  refine (fDiv_zero (WorthR.wide (IsR.mk (P13.out.up EY.out) (D13.out.up EY.out)).worth (k := 4) (by omega)) (WorthR.wide (IsR.mk P16.out D16.out).worth (k := 4) (by omega)) (by omega) (by omega) (by decide +kernel)).mono ?_
  rintro e wn ⟨v1, rfl, x1, hb⟩
  obtain ⟨g17, A17, n17, c17, B17, m17, d17, rfl, p1, q1⟩ := x1
  refine ⟨_, rfl, hb, ?_⟩
  replace EY := hid (EY.out.trans hb)
  clear hb p1 q1
  simp only [Act.put, pA, pB, pC]
  refine WE.pure (d := some 15) rfl rfl (by rfl) (v := (.tuple #[(.agg #[.bool g17, .slice A17 n17 c17, .slice B17 m17 d17]), (.int .i64 12)])) (fun w' hk => by go_simp) ?_
  simp only [Act.put, pA, pB, pC]
  refine WE.pure (d := some 19) rfl rfl (by rfl) (v := (.agg #[.bool g17, .slice A17 n17 c17, .slice B17 m17 d17])) (fun w' hk => by go_simp) ?_
  simp only [Act.put, pA, pB, pC]
  as_aux_lemma =>
  refine WE.any (d := some 20) rfl rfl (by rfl) (v := (.int .i64 12)) (fun w' => by go_simp) ?_
  simp only [Act.put, pA, pB, pC]
  refine WE.var (d := some 4) rfl fun gV4 wv hx0 hbox hge hng => ?_
  have HNV4V1 := hid (show gV4 ≠ gV1 by have := HL2V1.out; omega)
  have HNV4V2 := hid (show gV4 ≠ gV2 by have := HL2V2.out; omega)
  have HGV4 := hid (show W.heap.size ≤ gV4 by have := HW2.out; omega)
  replace EY := hid (EY.out.trans hx0)
  have V4 : Hid (Box wv gV4 #[.bool false, .slice none 0 0, .slice none 0 0] 26) := hid hbox
  clear hx0 hbox hge hng
  simp only [Act.put, pA, pB, pC]
  refine WE.store3 (g := gV4) (x := .bool g17) (y := .slice A17 n17 c17) (z := .slice B17 m17 d17) (t := 26) rfl rfl (by rfl) (fun w hb => ?_) V4.out (by rfl) fun ws hk hs => ?_
  · obtain ⟨ce0, ce1, ce2⟩ := hb.c3; obtain ⟨f0, f1, f2⟩ := hb.f3; go_simp
  intro hbx
  replace E := hid ((E.out.trans EY.out).keptG hk HGV4.out)
  replace V1 := hid ((V1.out.up EY.out).kept hk (by simpa using HNV4V1.out.symm))
  replace V2 := hid ((V2.out.up EY.out).kept hk (by simpa using HNV4V2.out.symm))
  replace P13 := hid ((P13.out.up EY.out).kz hs)
  replace D13 := hid ((D13.out.up EY.out).kz hs)
  replace P15 := hid ((P15.out.up EY.out).kz hs)
  replace D15 := hid ((D15.out.up EY.out).kz hs)
  clear hk hs hbx
  replace EY := hid (Ext.refl ws)
  refine WE.any (d := some 5) rfl rfl (by rfl) (v := (.int .i64 12)) (fun w' => by go_simp) ?_
  simp only [Act.put, pA, pB, pC]
  refine WE.done ?_
  go_upto_region 4 with (fail)
  refine wp_region_E [(0, 0), (1, 1), (2, 1), (3, 0), (4, 0), (5, 1), (6, 0), (7, 0), (8, 0), (9, 1), (10, 0), (11, 0), (12, 0), (13, 0), (14, 0), (15, 0), (16, 0), (17, 0), (18, 1), (19, 1), (20, 0), (21, 0), (22, 0), (23, 0), (24, 0), (25, 0), (26, 0), (27, 1), (28, 1), (29, 1), (30, 0), (31, 0), (32, 0), (33, 1), (34, 1), (35, 1), (36, 0), (37, 0), (38, 0), (39, 1), (40, 0), (41, 0), (42, 0), (43, 0), (44, 1), (45, 0), (46, 0), (47, 0), (48, 0), (49, 1), (50, 0), (51, 0), (52, 0)] (fun _ => (0, #[])) rfl (by kernel_rfl) (by intro j hj; cases hj) (fun _ _ d _ _ => by cases d <;> exact Iff.rfl) fun wd hb => ?_
  replace EY := hid (EY.out.trans hb)
  clear hb
  refine WE.pure (d := some 21) rfl rfl (by rfl) (v := (.agg #[.bool g13, .slice A13 n13 c13, .slice B13 m13 d13])) (fun w' hk => ?_) ?_
  · obtain ⟨ce0, ce1, ce2⟩ := ((V1.out.up EY.out).up hk).c3; go_simp
  simp only [Act.put, pA, pB, pC]
  refine WE.call (d := some 22) rfl rfl (by rfl) (by go_simp) ((frac5 (p := (-3)) (q := (2)) (by decide) (by decide) (by decide) (by decide) _).mono ?_)
  rintro e wn ⟨v1, rfl, x1, hb⟩
  obtain ⟨g18, A18, n18, c18, B18, m18, d18, rfl, p1, q1⟩ := x1
  refine ⟨_, rfl, hb, ?_⟩
  replace EY := hid (EY.out.trans hb)
  have P18 := hid p1
  have D18 := hid q1
  clear hb p1 q1
  simp only [Act.put, pA, pB, pC]
  clear P14
  clear D14
  clear P16
  clear D16
  refine WE.call (d := some 23) rfl rfl (by rfl) (by go_simp) ((rEqualR_r ((IsR.mk (P13.out.up EY.out) (D13.out.up EY.out)).to (by decide +kernel)) (IsR.mk P18.out D18.out)).mono ?_)
  rintro e wn ⟨rfl, hb⟩
  refine ⟨_, rfl, hb, ?_⟩
  replace EY := hid (EY.out.trans hb)
  clear hb
  simp only [Act.put, pA, pB, pC]
  clear P18
  clear D18
  refine WE.pure (d := some 24) rfl rfl (by rfl) (v := (.bool true)) (fun w' hk => by go_simp) ?_
  simp only [Act.put, pA, pB, pC]
  refine WE.pure (d := some 25) rfl rfl (by rfl) (v := (.agg #[.bool g13, .slice A13 n13 c13, .slice B13 m13 d13])) (fun w' hk => ?_) ?_
  · obtain ⟨ce0, ce1, ce2⟩ := ((V1.out.up EY.out).up hk).c3; go_simp
  simp only [Act.put, pA, pB, pC]
  refine WE.call (d := some 26) rfl rfl (by rfl) (by go_simp) ((fIs_r (IsR.mk (P13.out.up EY.out) (D13.out.up EY.out)) (by omega)).mono ?_)
  rintro e wn ⟨rfl, hb⟩
  refine ⟨_, rfl, hb, ?_⟩
  replace EY := hid (EY.out.trans hb)
  clear hb
  simp only [Act.put, pA, pB, pC]
  as_aux_lemma =>
  refine WE.pure (d := some 27) rfl rfl (by rfl) (v := (.bool true)) (fun w' hk => by go_simp) ?_
  simp only [Act.put, pA, pB, pC]
  refine WE.pure (d := some 28) rfl rfl (by rfl) (v := (.bool true)) (fun w' hk => by go_simp) ?_
  simp only [Act.put, pA, pB, pC]
  refine WE.pure (d := some 29) rfl rfl (by rfl) (v := (.agg #[.bool false, .slice none 0 0, .slice none 0 0])) (fun w' hk => by go_simp) ?_
  simp only [Act.put, pA, pB, pC]
  refine WE.call (d := some 30) rfl rfl (by rfl) (by go_simp) ((fIs_any (g1 := false) (l1 := []) (r1 := []) (K := 1) (Num.nil _ _) (Num.nil _ _) (by decide) (by decide) (by decide) (b := false) (by decide)).mono ?_)
  rintro e wn ⟨rfl, hb⟩
  refine ⟨_, rfl, hb, ?_⟩
  replace EY := hid (EY.out.trans hb)
  clear hb
  simp only [Act.put, pA, pB, pC]
  refine WE.pure (d := some 31) rfl rfl (by rfl) (v := (.bool true)) (fun w' hk => by go_simp) ?_
  simp only [Act.put, pA, pB, pC]
  refine WE.pure (d := some 32) rfl rfl (by rfl) (v := (.bool true)) (fun w' hk => by go_simp) ?_
  simp only [Act.put, pA, pB, pC]
  refine WE.pure (d := some 33) rfl rfl (by rfl) (v := (.bool true)) (fun w' hk => by go_simp) ?_
  simp only [Act.put, pA, pB, pC]
  refine WE.pure (d := some 34) rfl rfl (by rfl) (v := (.int .i64 0)) (fun w' hk => by go_simp) ?_
  simp only [Act.put, pA, pB, pC]
  refine WE.pure (d := some 35) rfl rfl (by rfl) (v := (.bool true)) (fun w' hk => by go_simp) ?_
  simp only [Act.put, pA, pB, pC]
  refine WE.pure (d := some 36) rfl rfl (by rfl) (v := (.bool true)) (fun w' hk => by go_simp) ?_
  simp only [Act.put, pA, pB, pC]
  as_aux_lemma =>
  refine WE.pure (d := some 37) rfl rfl (by rfl) (v := (.bool true)) (fun w' hk => by go_simp) ?_
  simp only [Act.put, pA, pB, pC]
  refine WE.pure (d := some 38) rfl rfl (by rfl) (v := (.agg #[.bool g15, .slice A15 n15 c15, .slice B15 m15 d15])) (fun w' hk => ?_) ?_
  · obtain ⟨ce0, ce1, ce2⟩ := ((V2.out.up EY.out).up hk).c3; go_simp
  simp only [Act.put, pA, pB, pC]
  refine WE.call (d := some 39) rfl rfl (by rfl) (by go_simp) ((frac5 (p := (-3)) (q := (1)) (by decide) (by decide) (by decide) (by decide) _).mono ?_)
  rintro e wn ⟨v1, rfl, x1, hb⟩
  obtain ⟨g19, A19, n19, c19, B19, m19, d19, rfl, p1, q1⟩ := x1
  refine ⟨_, rfl, hb, ?_⟩
  replace EY := hid (EY.out.trans hb)
  have P19 := hid p1
  have D19 := hid q1
  clear hb p1 q1
  simp only [Act.put, pA, pB, pC]
  refine WE.call (d := some 40) rfl rfl (by rfl) (by go_simp) ((rEqualR_r ((IsR.mk (P15.out.up EY.out) (D15.out.up EY.out)).to (by decide +kernel)) (IsR.mk P19.out D19.out)).mono ?_)
  rintro e wn ⟨rfl, hb⟩
  refine ⟨_, rfl, hb, ?_⟩
  replace EY := hid (EY.out.trans hb)
  clear hb
  simp only [Act.put, pA, pB, pC]
  clear P19
  clear D19
  refine WE.pure (d := some 41) rfl rfl (by rfl) (v := (.bool true)) (fun w' hk => by go_simp) ?_
  simp only [Act.put, pA, pB, pC]
  refine WE.pure (d := some 42) rfl rfl (by rfl) (v := (.bool true)) (fun w' hk => by go_simp) ?_
  simp only [Act.put, pA, pB, pC]
  refine WE.pure (d := some 43) rfl rfl (by rfl) (v := (.int .i64 12)) (fun w' hk => by go_simp) ?_
  simp only [Act.put, pA, pB, pC]
  refine WE.pure (d := some 44) rfl rfl (by rfl) (v := (.bool true)) (fun w' hk => by go_simp) ?_
  simp only [Act.put, pA, pB, pC]
  refine WE.pure (d := some 45) rfl rfl (by rfl) (v := (.bool true)) (fun w' hk => by go_simp) ?_
  simp only [Act.put, pA, pB, pC]
  refine WE.pure (d := some 46) rfl rfl (by rfl) (v := (.bool true)) (fun w' hk => by go_simp) ?_
  simp only [Act.put, pA, pB, pC]
  as_aux_lemma =>
  refine WE.pure (d := some 47) rfl rfl (by rfl) (v := (.agg #[.bool g13, .slice A13 n13 c13, .slice B13 m13 d13])) (fun w' hk => ?_) ?_
  · obtain ⟨ce0, ce1, ce2⟩ := ((V1.out.up EY.out).up hk).c3; go_simp
  simp only [Act.put, pA, pB, pC]
  refine WE.call (d := some 48) rfl rfl (by rfl) (by go_simp) ((fFloor_r (WorthR.wide (IsR.mk (P13.out.up EY.out) (D13.out.up EY.out)).worth (k := 4) (by omega)) (by omega) (by omega)).mono ?_)
  rintro e wn ⟨v1, rfl, x1, hb⟩
  obtain ⟨g20, A20, n20, c20, rfl⟩ := x1.shape
  refine ⟨_, rfl, hb, ?_⟩
  replace EY := hid (EY.out.trans hb)
  have Q20 := hid x1
  clear hb x1
  simp only [Act.put, pA, pB, pC]
  refine WE.call (d := some 49) rfl rfl (by rfl) (by go_simp) ((rOf_z (n := (-2)) (by decide) (by decide) _).mono ?_)
  rintro e wn ⟨v1, rfl, x1, hb⟩
  obtain ⟨g21, A21, n21, c21, rfl⟩ := x1.shape
  refine ⟨_, rfl, hb, ?_⟩
  replace EY := hid (EY.out.trans hb)
  replace Q20 := hid (Q20.out.up hb)
  have Q21 := hid x1
  clear hb x1
  simp only [Act.put, pA, pB, pC]
  refine WE.call (d := some 50) rfl rfl (by rfl) (by go_simp) ((equal_z (Q20.out.to (by decide +kernel)) Q21.out).mono ?_)
  rintro e wn ⟨rfl, hb⟩
  refine ⟨_, rfl, hb, ?_⟩
  replace EY := hid (EY.out.trans hb)
  clear hb
  simp only [Act.put, pA, pB, pC]
  clear Q20
  clear Q21
  refine WE.pure (d := some 51) rfl rfl (by rfl) (v := (.bool true)) (fun w' hk => by go_simp) ?_
  simp only [Act.put, pA, pB, pC]
  refine WE.pure (d := some 52) rfl rfl (by rfl) (v := (.bool true)) (fun w' hk => by go_simp) ?_
  simp only [Act.put, pA, pB, pC]
  refine WE.pure (d := some 53) rfl rfl (by rfl) (v := (.agg #[.bool g13, .slice A13 n13 c13, .slice B13 m13 d13])) (fun w' hk => ?_) ?_
  · obtain ⟨ce0, ce1, ce2⟩ := ((V1.out.up EY.out).up hk).c3; go_simp
  simp only [Act.put, pA, pB, pC]
  refine WE.call (d := some 54) rfl rfl (by rfl) (by go_simp) ((fCeil_r (WorthR.wide (IsR.mk (P13.out.up EY.out) (D13.out.up EY.out)).worth (k := 4) (by omega)) (by omega) (by omega)).mono ?_)
  rintro e wn ⟨v1, rfl, x1, hb⟩
  obtain ⟨g22, A22, n22, c22, rfl⟩ := x1.shape
  refine ⟨_, rfl, hb, ?_⟩
  replace EY := hid (EY.out.trans hb)
  have Q22 := hid x1
  clear hb x1
  simp only [Act.put, pA, pB, pC]
  refine WE.call (d := some 55) rfl rfl (by rfl) (by go_simp) ((rOf_z (n := (-1)) (by decide) (by decide) _).mono ?_)
  rintro e wn ⟨v1, rfl, x1, hb⟩
  obtain ⟨g23, A23, n23, c23, rfl⟩ := x1.shape
  refine ⟨_, rfl, hb, ?_⟩
  replace EY := hid (EY.out.trans hb)
  replace Q22 := hid (Q22.out.up hb)
  have Q23 := hid x1
  clear hb x1
  simp only [Act.put, pA, pB, pC]
  refine WE.call (d := some 56) rfl rfl (by rfl) (by go_simp) ((equal_z (Q22.out.to (by decide +kernel)) Q23.out).mono ?_)
  rintro e wn ⟨rfl, hb⟩
  refine ⟨_, rfl, hb, ?_⟩
  replace EY := hid (EY.out.trans hb)
  clear hb
  simp only [Act.put, pA, pB, pC]
  clear Q22
  clear Q23
  as_aux_lemma =>
  refine WE.pure (d := some 57) rfl rfl (by rfl) (v := (.bool true)) (fun w' hk => by go_simp) ?_
  simp only [Act.put, pA, pB, pC]
  refine WE.pure (d := some 58) rfl rfl (by rfl) (v := (.bool true)) (fun w' hk => by go_simp) ?_
  simp only [Act.put, pA, pB, pC]
  refine WE.pure (d := some 59) rfl rfl (by rfl) (v := (.agg #[.bool g13, .slice A13 n13 c13, .slice B13 m13 d13])) (fun w' hk => ?_) ?_
  · obtain ⟨ce0, ce1, ce2⟩ := ((V1.out.up EY.out).up hk).c3; go_simp
  simp only [Act.put, pA, pB, pC]
  refine WE.call (d := some 60) rfl rfl (by rfl) (by go_simp) ((fWhole_r (WorthR.wide (IsR.mk (P13.out.up EY.out) (D13.out.up EY.out)).worth (k := 4) (by omega)) (by omega) (by omega) (b := false) (by decide +kernel)).mono ?_)
  rintro e wn ⟨rfl, hb⟩
  refine ⟨_, rfl, hb, ?_⟩
  replace EY := hid (EY.out.trans hb)
  clear hb
  simp only [Act.put, pA, pB, pC]
  refine WE.pure (d := some 61) rfl rfl (by rfl) (v := (.bool true)) (fun w' hk => by go_simp) ?_
  simp only [Act.put, pA, pB, pC]
  refine WE.pure (d := some 62) rfl rfl (by rfl) (v := (.bool true)) (fun w' hk => by go_simp) ?_
  simp only [Act.put, pA, pB, pC]
  refine WE.pure (d := some 63) rfl rfl (by rfl) (v := (.bool true)) (fun w' hk => by go_simp) ?_
  simp only [Act.put, pA, pB, pC]
  refine WE.pure (d := some 64) rfl rfl (by rfl) (v := (.agg #[.bool g15, .slice A15 n15 c15, .slice B15 m15 d15])) (fun w' hk => ?_) ?_
  · obtain ⟨ce0, ce1, ce2⟩ := ((V2.out.up EY.out).up hk).c3; go_simp
  simp only [Act.put, pA, pB, pC]
  refine WE.call (d := some 65) rfl rfl (by rfl) (by go_simp) ((fWhole_r (WorthR.wide (IsR.mk (P15.out.up EY.out) (D15.out.up EY.out)).worth (k := 13) (by omega)) (by omega) (by omega) (b := true) (by decide +kernel)).mono ?_)
  rintro e wn ⟨rfl, hb⟩
  refine ⟨_, rfl, hb, ?_⟩
  replace EY := hid (EY.out.trans hb)
  clear hb
  simp only [Act.put, pA, pB, pC]
  refine WE.pure (d := some 66) rfl rfl (by rfl) (v := (.bool true)) (fun w' hk => by go_simp) ?_
  simp only [Act.put, pA, pB, pC]
  as_aux_lemma =>
  refine WE.pure (d := some 67) rfl rfl (by rfl) (v := (.bool true)) (fun w' hk => by go_simp) ?_
  simp only [Act.put, pA, pB, pC]
  refine WE.pure (d := some 68) rfl rfl (by rfl) (v := (.agg #[.bool g13, .slice A13 n13 c13, .slice B13 m13 d13])) (fun w' hk => ?_) ?_
  · obtain ⟨ce0, ce1, ce2⟩ := ((V1.out.up EY.out).up hk).c3; go_simp
  simp only [Act.put, pA, pB, pC]
  refine WE.pure (d := some 69) rfl rfl (by rfl) (v := (.agg #[.bool g15, .slice A15 n15 c15, .slice B15 m15 d15])) (fun w' hk => ?_) ?_
  · obtain ⟨ce0, ce1, ce2⟩ := ((V2.out.up EY.out).up hk).c3; go_simp
  simp only [Act.put, pA, pB, pC]
  refine WE.call (d := some 70) rfl rfl (by rfl) (by go_simp) ((fCmp_r (WorthR.wide (IsR.mk (P13.out.up EY.out) (D13.out.up EY.out)).worth (k := 13) (by omega)) (WorthR.wide (IsR.mk (P15.out.up EY.out) (D15.out.up EY.out)).worth (k := 13) (by omega)) (by omega) (by omega) (z := 1) (by decide +kernel)).mono ?_)
  rintro e wn ⟨rfl, hb⟩
  refine ⟨_, rfl, hb, ?_⟩
  replace EY := hid (EY.out.trans hb)
  clear hb
  simp only [Act.put, pA, pB, pC]
  refine WE.pure (d := some 71) rfl rfl (by rfl) (v := (.bool true)) (fun w' hk => by go_simp) ?_
  simp only [Act.put, pA, pB, pC]
  refine WE.pure (d := some 72) rfl rfl (by rfl) (v := (.bool true)) (fun w' hk => by go_simp) ?_
  simp only [Act.put, pA, pB, pC]
  refine WE.pure (d := some 0) rfl rfl (by rfl) (v := (.bool true)) (fun w' hk => by go_simp) ?_
  simp only [Act.put, pA, pB, pC]
  refine WE.done ?_
  repeat go_step
  go_ret
  exact ⟨rfl, (E.out.trans EY.out)⟩

end Go.Proofs.YtkjfeedclaedfaaGreat
