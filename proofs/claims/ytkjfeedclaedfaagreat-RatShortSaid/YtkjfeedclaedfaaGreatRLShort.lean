/-
  RatShort: whatever two numbers of 32 bits and one of 16: true. No conditions.
-/
import Derived.Test.YtkjfeedclaedfaaGreatRKnown
import Derived.Test.YtkjfeedclaedfaaGreatRLMath
namespace Go.Proofs.YtkjfeedclaedfaaGreat
open Go.ChangeShapes Go.WideShapes Go.ChangeAt Go.RowKit
set_option linter.unusedSimpArgs false
set_option linter.unusedVariables false

set_option maxRecDepth 100000 in
set_option maxHeartbeats 2000000 in
theorem ratShort_skip0 (W : World) (p q c : Int) (hp : -2147483648 ≤ p ∧ p ≤ 2147483647) (hq : -2147483648 ≤ q ∧ q ≤ 2147483647) (hc : -32768 ≤ c ∧ c ≤ 32767) (h : q = 0) :
    Calls Tryz.prog 5 #[.int .i32 p, .int .i32 q, .int .i16 c] W (fun e w' => e = .returned (.bool true) ∧ Ext W w') := by
  have hq0 : (q == 0) = true := by rw [h]; rfl
  clear hp hq hc h
  go_enter Tryz.func5, Tryz.ntmps5
  go_upto_region 1 with (fail)
  have E := hid (Ext.refl W)
  refine wp_region_T [(0, 1), (1, 0)] (by kernel_rfl) fun wd hb => ?_
  replace E := hid (E.out.trans hb)
  clear hb
  have EY := hid (Ext.refl wd)
  refine WE.call (d := some 10) rfl rfl (by rfl) (by go_simp) ((known5 _).mono ?_)
  rintro e wn ⟨rfl, hb⟩
  refine ⟨_, rfl, hb, ?_⟩
  replace EY := hid (EY.out.trans hb)
  clear hb
  simp only [Act.put, pA, pB, pC]
  refine WE.pure (d := some 11) rfl rfl (by rfl) (v := (.bool false)) (fun w' hk => by go_simp) ?_
  simp only [Act.put, pA, pB, pC]
  refine WE.done ?_
  go_upto_region 3 with (fail)
  refine wp_region_T [(0, 0), (1, 0), (2, 0), (3, 0), (4, 0), (5, 0)] (by kernel_rfl) fun wd hb => ?_
  replace EY := hid (EY.out.trans hb)
  clear hb
  refine WE.pure (d := some 12) rfl rfl (by rfl) (v := (.int .i32 q)) (fun w' hk => by go_simp) ?_
  simp only [Act.put, pA, pB, pC]
  refine WE.pure (d := some 13) rfl rfl (by rfl) (v := (.bool true)) (fun w' hk => by go_simp) ?_
  simp only [Act.put, pA, pB, pC]
  refine WE.pure (d := some 14) rfl rfl (by rfl) (v := (.bool true)) (fun w' hk => by go_simp) ?_
  simp only [Act.put, pA, pB, pC]
  refine WE.skip (d := some 15) rfl rfl (by rfl) ?_
  simp only [Act.put, pA, pB, pC]
  refine WE.skip (d := some 16) rfl rfl (by rfl) ?_
  simp only [Act.put, pA, pB, pC]
  refine WE.pure (d := some 17) rfl rfl (by rfl) (v := (.bool true)) (fun w' hk => by go_simp) ?_
  simp only [Act.put, pA, pB, pC]
  refine WE.done ?_
  repeat go_step
  go_ret
  exact ⟨rfl, (E.out.trans EY.out)⟩

set_option maxRecDepth 100000 in
set_option maxHeartbeats 2000000 in
theorem ratShort_skip1 (W : World) (p q c : Int) (hp : -2147483648 ≤ p ∧ p ≤ 2147483647) (hq : -2147483648 ≤ q ∧ q ≤ 2147483647) (hc : -32768 ≤ c ∧ c ≤ 32767) (h : q ≠ 0 ∧ c = 0) :
    Calls Tryz.prog 5 #[.int .i32 p, .int .i32 q, .int .i16 c] W (fun e w' => e = .returned (.bool true) ∧ Ext W w') := by
  have hq0 : (q == 0) = false := by simpa using h.1
  have hc0 : (c == 0) = true := by rw [h.2]; rfl
  clear hp hq hc h
  go_enter Tryz.func5, Tryz.ntmps5
  go_upto_region 1 with (fail)
  have E := hid (Ext.refl W)
  refine wp_region_T [(0, 1), (1, 0)] (by kernel_rfl) fun wd hb => ?_
  replace E := hid (E.out.trans hb)
  clear hb
  have EY := hid (Ext.refl wd)
  refine WE.call (d := some 10) rfl rfl (by rfl) (by go_simp) ((known5 _).mono ?_)
  rintro e wn ⟨rfl, hb⟩
  refine ⟨_, rfl, hb, ?_⟩
  replace EY := hid (EY.out.trans hb)
  clear hb
  simp only [Act.put, pA, pB, pC]
  refine WE.pure (d := some 11) rfl rfl (by rfl) (v := (.bool false)) (fun w' hk => by go_simp) ?_
  simp only [Act.put, pA, pB, pC]
  refine WE.done ?_
  go_upto_region 3 with (fail)
  refine wp_region_T [(0, 0), (1, 0), (2, 0), (3, 0), (4, 0), (5, 0)] (by kernel_rfl) fun wd hb => ?_
  replace EY := hid (EY.out.trans hb)
  clear hb
  refine WE.pure (d := some 12) rfl rfl (by rfl) (v := (.int .i32 q)) (fun w' hk => by go_simp) ?_
  simp only [Act.put, pA, pB, pC]
  refine WE.pure (d := some 13) rfl rfl (by rfl) (v := (.bool false)) (fun w' hk => by go_simp) ?_
  simp only [Act.put, pA, pB, pC]
  refine WE.pure (d := some 14) rfl rfl (by rfl) (v := (.bool false)) (fun w' hk => by go_simp) ?_
  simp only [Act.put, pA, pB, pC]
  refine WE.pure (d := some 15) rfl rfl (by rfl) (v := (.int .i16 c)) (fun w' hk => by go_simp) ?_
  simp only [Act.put, pA, pB, pC]
  refine WE.pure (d := some 16) rfl rfl (by rfl) (v := (.bool true)) (fun w' hk => by go_simp) ?_
  simp only [Act.put, pA, pB, pC]
  refine WE.pure (d := some 17) rfl rfl (by rfl) (v := (.bool true)) (fun w' hk => by go_simp) ?_
  simp only [Act.put, pA, pB, pC]
  refine WE.done ?_
  repeat go_step
  go_ret
  exact ⟨rfl, (E.out.trans EY.out)⟩

theorem M.mul_16 {p c : Int} (h : -2147483648 ≤ p ∧ p ≤ 2147483647) (k : -32768 ≤ c ∧ c ≤ 32767) : -70368744177664 ≤ p * c ∧ p * c ≤ 70368744177664 := by
  have h : (p * c).natAbs ≤ 2147483648 * 32768 := by
    rw [Int.natAbs_mul]
    exact Nat.mul_le_mul (by omega) (by omega)
  omega

set_option maxRecDepth 100000 in
set_option maxHeartbeats 8000000 in
theorem ratShort_main (W : World) (p q c : Int) (hp : -2147483648 ≤ p ∧ p ≤ 2147483647) (hq : -2147483648 ≤ q ∧ q ≤ 2147483647) (hc : -32768 ≤ c ∧ c ≤ 32767) (h : q ≠ 0 ∧ c ≠ 0) :
    Calls Tryz.prog 5 #[.int .i32 p, .int .i32 q, .int .i16 c] W (fun e w' => e = .returned (.bool true) ∧ Ext W w') := by
  have hq0 : (q == 0) = false := by simpa using h.1
  have hc0 : (c == 0) = false := by simpa using h.2
  have hqn : ¬ q = 0 := h.1
  have HQ := hid h.1
  have HC := hid h.2
  have HPB := hid (show -9223372036854775808 ≤ p ∧ p ≤ 9223372036854775807 by omega)
  have HQB := hid (show -9223372036854775808 ≤ q ∧ q ≤ 9223372036854775807 by omega)
  have hts := M.mul_16 hp hc
  have hss := M.mul_16 hq hc
  obtain ⟨t, ht⟩ : ∃ t : Int, p * c = t := ⟨_, rfl⟩
  obtain ⟨s, hs⟩ : ∃ s : Int, q * c = s := ⟨_, rfl⟩
  obtain ⟨r, hr⟩ : ∃ r : Int, p.tmod q = r := ⟨_, rfl⟩
  have hrb : r.natAbs ≤ p.natAbs := by rw [← hr, Int.natAbs_tmod]; exact Nat.mod_le _ _
  have hwp : IntKind.i64.wrap p = p := by rw [IntKind.wrap_i64]; omega
  have hwq : IntKind.i64.wrap q = q := by rw [IntKind.wrap_i64]; omega
  have hwc : IntKind.i64.wrap c = c := by rw [IntKind.wrap_i64]; omega
  have hwt : IntKind.i64.wrap (p * c) = t := by rw [ht, IntKind.wrap_i64]; omega
  have hws : IntKind.i64.wrap (q * c) = s := by rw [hs, IntKind.wrap_i64]; omega
  have hwr : IntKind.i64.wrap r = r := by rw [IntKind.wrap_i64]; omega
  have HTB := hid (show -9223372036854775808 ≤ t ∧ t ≤ 9223372036854775807 by omega)
  have HSB := hid (show -9223372036854775808 ≤ s ∧ s ≤ 9223372036854775807 by omega)
  have HE := hid (show Rat.divInt p q = Rat.divInt t s by rw [← ht, ← hs]; exact M.frac_times h.2)
  obtain ⟨b, hb⟩ : ∃ b : Bool, decide ((Rat.divInt p q).den = 1) = b := ⟨_, rfl⟩
  have hrb0 : (r == 0) = b := by rw [← hb, ← hr, Bool.eq_iff_iff, beq_iff_eq, decide_eq_true_iff]; exact (M.whole_mod h.1).symm
  have HB := hid hb
  clear hp hq hc h hts hss ht hs hrb hb
  go_enter Tryz.func5, Tryz.ntmps5
  go_upto_region 1 with (fail)
  have E := hid (Ext.refl W)
  refine wp_region_T [(0, 1), (1, 0)] (by kernel_rfl) fun wd hb => ?_
  replace E := hid (E.out.trans hb)
  clear hb
  have EY := hid (Ext.refl wd)
  refine WE.call (d := some 10) rfl rfl (by rfl) (by go_simp) ((known5 _).mono ?_)
  rintro e wn ⟨rfl, hb⟩
  refine ⟨_, rfl, hb, ?_⟩
  replace EY := hid (EY.out.trans hb)
  clear hb
  simp only [Act.put, pA, pB, pC]
  refine WE.pure (d := some 11) rfl rfl (by rfl) (v := (.bool false)) (fun w' hk => by go_simp) ?_
  simp only [Act.put, pA, pB, pC]
  refine WE.done ?_
  go_upto_region 3 with (fail)
  refine wp_region_T [(0, 0), (1, 0), (2, 0), (3, 0), (4, 0), (5, 0)] (by kernel_rfl) fun wd hb => ?_
  replace EY := hid (EY.out.trans hb)
  clear hb
  refine WE.pure (d := some 12) rfl rfl (by rfl) (v := (.int .i32 q)) (fun w' hk => by go_simp) ?_
  simp only [Act.put, pA, pB, pC]
  refine WE.pure (d := some 13) rfl rfl (by rfl) (v := (.bool false)) (fun w' hk => by go_simp) ?_
  simp only [Act.put, pA, pB, pC]
  refine WE.pure (d := some 14) rfl rfl (by rfl) (v := (.bool false)) (fun w' hk => by go_simp) ?_
  simp only [Act.put, pA, pB, pC]
  refine WE.pure (d := some 15) rfl rfl (by rfl) (v := (.int .i16 c)) (fun w' hk => by go_simp) ?_
  simp only [Act.put, pA, pB, pC]
  refine WE.pure (d := some 16) rfl rfl (by rfl) (v := (.bool false)) (fun w' hk => by go_simp) ?_
  simp only [Act.put, pA, pB, pC]
  refine WE.pure (d := some 17) rfl rfl (by rfl) (v := (.bool false)) (fun w' hk => by go_simp) ?_
  simp only [Act.put, pA, pB, pC]
  refine WE.done ?_
  go_upto_region 5 with (fail)
  refine wp_region_T [(0, 0), (1, 0), (2, 1), (3, 0), (4, 0), (5, 1), (6, 1), (7, 1), (8, 4)] (by kernel_rfl) fun wd hb => ?_
  replace EY := hid (EY.out.trans hb)
  clear hb
  refine WE.pure (d := some 18) rfl rfl (by rfl) (v := (.int .i32 p)) (fun w' hk => by go_simp) ?_
  simp only [Act.put, pA, pB, pC]
  refine WE.pure (d := some 19) rfl rfl (by rfl) (v := (.int .i64 p)) (fun w' hk => by go_simp) ?_
  simp only [Act.put, pA, pB, pC]
  refine WE.call (d := some 20) rfl rfl (by rfl) (by go_simp) ((rOf_z (n := p) HPB.out.1 HPB.out.2 _).mono ?_)
  rintro e wn ⟨v1, rfl, x1, hb⟩
  obtain ⟨g11, A11, n11, c11, rfl⟩ := x1.shape
  refine ⟨_, rfl, hb, ?_⟩
  replace EY := hid (EY.out.trans hb)
  have Q11 := hid x1
  clear hb x1
  simp only [Act.put, pA, pB, pC]
  as_aux_lemma =>
  refine WE.pure (d := some 21) rfl rfl (by rfl) (v := (.int .i32 q)) (fun w' hk => by go_simp) ?_
  simp only [Act.put, pA, pB, pC]
  refine WE.pure (d := some 22) rfl rfl (by rfl) (v := (.int .i64 q)) (fun w' hk => by go_simp) ?_
  simp only [Act.put, pA, pB, pC]
  refine WE.call (d := some 23) rfl rfl (by rfl) (by go_simp) ((rOf_z (n := q) HQB.out.1 HQB.out.2 _).mono ?_)
  rintro e wn ⟨v1, rfl, x1, hb⟩
  obtain ⟨g12, A12, n12, c12, rfl⟩ := x1.shape
  refine ⟨_, rfl, hb, ?_⟩
  replace EY := hid (EY.out.trans hb)
  replace Q11 := hid (Q11.out.up hb)
  have Q12 := hid x1
  clear hb x1
  simp only [Act.put, pA, pB, pC]
  refine WE.call (d := some 24) rfl rfl (by rfl) (by go_simp) ((fOf_r (Worth.wide Q11.out.worth (k := 3) (by omega)) (Worth.wide Q12.out.worth (k := 3) (by omega)) (by omega)).mono ?_)
  rintro e wn ⟨v1, rfl, x1, hb⟩
  obtain ⟨g13, A13, n13, c13, B13, m13, d13, rfl, p1, q1⟩ := x1
  refine ⟨_, rfl, hb, ?_⟩
  replace EY := hid (EY.out.trans hb)
  have P13 := hid p1
  have D13 := hid q1
  clear hb p1 q1
  simp only [Act.put, pA, pB, pC]
  refine WE.new (d := some 7) (cs := #[.bool false, .slice none 0 0, .slice none 0 0]) (t := 26) (v := fun g => (.pointer (some ⟨g, 0, none⟩))) rfl rfl (by rfl) (fun w => by go_simp) fun gV7 wv hx0 hbox hge => ?_
  have HGV7 := hid (show W.heap.size ≤ gV7 by have := (E.out.trans EY.out).size; omega)
  replace EY := hid (EY.out.trans hx0)
  replace P13 := hid (P13.out.up hx0)
  replace D13 := hid (D13.out.up hx0)
  have V7 : Hid (Box wv gV7 #[.bool false, .slice none 0 0, .slice none 0 0] 26) := hid hbox
  clear hx0 hbox hge
  simp only [Act.put, pA, pB, pC]
  refine WE.store3 (g := gV7) (x := .bool g13) (y := .slice A13 n13 c13) (z := .slice B13 m13 d13) (t := 26) rfl rfl (by rfl) (fun w hb => ?_) V7.out (by rfl) fun ws hk hs => ?_
  · obtain ⟨ce0, ce1, ce2⟩ := hb.c3; obtain ⟨f0, f1, f2⟩ := hb.f3; go_simp
  intro hbx
  replace E := hid ((E.out.trans EY.out).keptG hk HGV7.out)
  replace V7 := hid hbx
  replace P13 := hid (P13.out.kz hs)
  replace D13 := hid (D13.out.kz hs)
  clear hk hs hbx
  replace EY := hid (Ext.refl ws)
  refine WE.done ?_
  go_upto_region 6 with (fail)
  refine wp_region_T [(0, 0), (1, 0), (2, 0), (3, 0), (4, 0), (5, 1), (6, 0), (7, 0), (8, 0), (9, 0), (10, 0), (11, 1), (12, 1), (13, 1), (14, 4)] (by kernel_rfl) fun wd hb => ?_
  replace EY := hid (EY.out.trans hb)
  clear hb
  refine WE.pure (d := some 25) rfl rfl (by rfl) (v := (.int .i32 p)) (fun w' hk => by go_simp) ?_
  simp only [Act.put, pA, pB, pC]
  refine WE.pure (d := some 26) rfl rfl (by rfl) (v := (.int .i64 p)) (fun w' hk => by go_simp) ?_
  simp only [Act.put, pA, pB, pC]
  refine WE.pure (d := some 27) rfl rfl (by rfl) (v := (.int .i16 c)) (fun w' hk => by go_simp) ?_
  simp only [Act.put, pA, pB, pC]
  refine WE.pure (d := some 28) rfl rfl (by rfl) (v := (.int .i64 c)) (fun w' hk => by go_simp) ?_
  simp only [Act.put, pA, pB, pC]
  refine WE.pure (d := some 29) rfl rfl (by rfl) (v := (.int .i64 t)) (fun w' hk => by go_simp) ?_
  simp only [Act.put, pA, pB, pC]
  refine WE.call (d := some 30) rfl rfl (by rfl) (by go_simp) ((rOf_z (n := t) HTB.out.1 HTB.out.2 _).mono ?_)
  rintro e wn ⟨v1, rfl, x1, hb⟩
  obtain ⟨g14, A14, n14, c14, rfl⟩ := x1.shape
  refine ⟨_, rfl, hb, ?_⟩
  replace EY := hid (EY.out.trans hb)
  have Q14 := hid x1
  clear hb x1
  simp only [Act.put, pA, pB, pC]
  as_aux_lemma =>
  refine WE.pure (d := some 31) rfl rfl (by rfl) (v := (.int .i32 q)) (fun w' hk => by go_simp) ?_
  simp only [Act.put, pA, pB, pC]
  refine WE.pure (d := some 32) rfl rfl (by rfl) (v := (.int .i64 q)) (fun w' hk => by go_simp) ?_
  simp only [Act.put, pA, pB, pC]
  refine WE.pure (d := some 33) rfl rfl (by rfl) (v := (.int .i16 c)) (fun w' hk => by go_simp) ?_
  simp only [Act.put, pA, pB, pC]
  refine WE.pure (d := some 34) rfl rfl (by rfl) (v := (.int .i64 c)) (fun w' hk => by go_simp) ?_
  simp only [Act.put, pA, pB, pC]
  refine WE.pure (d := some 35) rfl rfl (by rfl) (v := (.int .i64 s)) (fun w' hk => by go_simp) ?_
  simp only [Act.put, pA, pB, pC]
  refine WE.call (d := some 36) rfl rfl (by rfl) (by go_simp) ((rOf_z (n := s) HSB.out.1 HSB.out.2 _).mono ?_)
  rintro e wn ⟨v1, rfl, x1, hb⟩
  obtain ⟨g15, A15, n15, c15, rfl⟩ := x1.shape
  refine ⟨_, rfl, hb, ?_⟩
  replace EY := hid (EY.out.trans hb)
  replace Q14 := hid (Q14.out.up hb)
  have Q15 := hid x1
  clear hb x1
  simp only [Act.put, pA, pB, pC]
  refine WE.call (d := some 37) rfl rfl (by rfl) (by go_simp) ((fOf_r (Worth.wide Q14.out.worth (k := 3) (by omega)) (Worth.wide Q15.out.worth (k := 3) (by omega)) (by omega)).mono ?_)
  rintro e wn ⟨v1, rfl, x1, hb⟩
  obtain ⟨g16, A16, n16, c16, B16, m16, d16, rfl, p1, q1⟩ := x1
  refine ⟨_, rfl, hb, ?_⟩
  replace EY := hid (EY.out.trans hb)
  have P16 := hid p1
  have D16 := hid q1
  clear hb p1 q1
  simp only [Act.put, pA, pB, pC]
  refine WE.new (d := some 8) (cs := #[.bool false, .slice none 0 0, .slice none 0 0]) (t := 26) (v := fun g => (.pointer (some ⟨g, 0, none⟩))) rfl rfl (by rfl) (fun w => by go_simp) fun gV8 wv hx0 hbox hge => ?_
  have HNV8V7 := hid (show gV8 ≠ gV7 by have := (V7.out.up EY.out).lt; omega)
  have HGV8 := hid (show W.heap.size ≤ gV8 by have := (E.out.trans EY.out).size; omega)
  replace EY := hid (EY.out.trans hx0)
  replace P16 := hid (P16.out.up hx0)
  replace D16 := hid (D16.out.up hx0)
  have V8 : Hid (Box wv gV8 #[.bool false, .slice none 0 0, .slice none 0 0] 26) := hid hbox
  clear hx0 hbox hge
  simp only [Act.put, pA, pB, pC]
  refine WE.store3 (g := gV8) (x := .bool g16) (y := .slice A16 n16 c16) (z := .slice B16 m16 d16) (t := 26) rfl rfl (by rfl) (fun w hb => ?_) V8.out (by rfl) fun ws hk hs => ?_
  · obtain ⟨ce0, ce1, ce2⟩ := hb.c3; obtain ⟨f0, f1, f2⟩ := hb.f3; go_simp
  intro hbx
  replace E := hid ((E.out.trans EY.out).keptG hk HGV8.out)
  replace V7 := hid ((V7.out.up EY.out).kept hk (by simpa using HNV8V7.out.symm))
  replace V8 := hid hbx
  replace P13 := hid ((P13.out.up EY.out).kz hs)
  replace D13 := hid ((D13.out.up EY.out).kz hs)
  replace P16 := hid (P16.out.kz hs)
  replace D16 := hid (D16.out.kz hs)
  clear hk hs hbx
  replace EY := hid (Ext.refl ws)
  refine WE.done ?_
  go_upto_region 7 with (fail)
  refine wp_region_T [(0, 0), (1, 0), (2, 1), (3, 0), (4, 1), (5, 1), (6, 4)] (by kernel_rfl) fun wd hb => ?_
  replace EY := hid (EY.out.trans hb)
  clear hb
  refine WE.pure (d := some 38) rfl rfl (by rfl) (v := (.int .i32 p)) (fun w' hk => by go_simp) ?_
  simp only [Act.put, pA, pB, pC]
  refine WE.pure (d := some 39) rfl rfl (by rfl) (v := (.int .i64 p)) (fun w' hk => by go_simp) ?_
  simp only [Act.put, pA, pB, pC]
  refine WE.call (d := some 40) rfl rfl (by rfl) (by go_simp) ((rOf_z (n := p) HPB.out.1 HPB.out.2 _).mono ?_)
  rintro e wn ⟨v1, rfl, x1, hb⟩
  obtain ⟨g17, A17, n17, c17, rfl⟩ := x1.shape
  refine ⟨_, rfl, hb, ?_⟩
  replace EY := hid (EY.out.trans hb)
  have Q17 := hid x1
  clear hb x1
  simp only [Act.put, pA, pB, pC]
  as_aux_lemma =>
  refine WE.pure (d := some 41) rfl rfl (by rfl) (v := (.agg #[.bool false, .slice none 0 0])) (fun w' hk => by go_simp) ?_
  simp only [Act.put, pA, pB, pC]
  refine WE.call (d := some 42) rfl rfl (by rfl) (by go_simp) ((fOf_r (Worth.wide Q17.out.worth (k := 3) (by omega)) (Worth.wide IsZ.nought.worth (k := 3) (by omega)) (by omega)).mono ?_)
  rintro e wn ⟨v1, rfl, x1, hb⟩
  obtain ⟨g18, A18, n18, c18, B18, m18, d18, rfl, p1, q1⟩ := x1
  refine ⟨_, rfl, hb, ?_⟩
  replace EY := hid (EY.out.trans hb)
  have P18 := hid p1
  have D18 := hid q1
  clear hb p1 q1
  simp only [Act.put, pA, pB, pC]
  refine WE.new (d := some 9) (cs := #[.bool false, .slice none 0 0, .slice none 0 0]) (t := 26) (v := fun g => (.pointer (some ⟨g, 0, none⟩))) rfl rfl (by rfl) (fun w => by go_simp) fun gV9 wv hx0 hbox hge => ?_
  have HNV9V7 := hid (show gV9 ≠ gV7 by have := (V7.out.up EY.out).lt; omega)
  have HNV9V8 := hid (show gV9 ≠ gV8 by have := (V8.out.up EY.out).lt; omega)
  have HGV9 := hid (show W.heap.size ≤ gV9 by have := (E.out.trans EY.out).size; omega)
  replace EY := hid (EY.out.trans hx0)
  replace P18 := hid (P18.out.up hx0)
  replace D18 := hid (D18.out.up hx0)
  have V9 : Hid (Box wv gV9 #[.bool false, .slice none 0 0, .slice none 0 0] 26) := hid hbox
  clear hx0 hbox hge
  simp only [Act.put, pA, pB, pC]
  refine WE.store3 (g := gV9) (x := .bool g18) (y := .slice A18 n18 c18) (z := .slice B18 m18 d18) (t := 26) rfl rfl (by rfl) (fun w hb => ?_) V9.out (by rfl) fun ws hk hs => ?_
  · obtain ⟨ce0, ce1, ce2⟩ := hb.c3; obtain ⟨f0, f1, f2⟩ := hb.f3; go_simp
  intro hbx
  replace E := hid ((E.out.trans EY.out).keptG hk HGV9.out)
  replace V7 := hid ((V7.out.up EY.out).kept hk (by simpa using HNV9V7.out.symm))
  replace V8 := hid ((V8.out.up EY.out).kept hk (by simpa using HNV9V8.out.symm))
  replace V9 := hid hbx
  replace P13 := hid ((P13.out.up EY.out).kz hs)
  replace D13 := hid ((D13.out.up EY.out).kz hs)
  replace P16 := hid ((P16.out.up EY.out).kz hs)
  replace D16 := hid ((D16.out.up EY.out).kz hs)
  replace P18 := hid (P18.out.kz hs)
  replace D18 := hid (D18.out.kz hs)
  clear hk hs hbx
  replace EY := hid (Ext.refl ws)
  refine WE.done ?_
  go_upto_region 8 with (fail)
  refine wp_region_E [(0, 0), (1, 1), (2, 0), (3, 0), (4, 0), (5, 1), (6, 0), (7, 0), (8, 0), (9, 1), (10, 0), (11, 0), (12, 0), (13, 0), (14, 1), (15, 0), (16, 0), (17, 0), (19, 0), (20, 0), (21, 0), (22, 0), (23, 0), (24, 0), (18, 1), (25, 0), (26, 0), (27, 0)] (fun _ => (0, #[])) rfl (by kernel_rfl) (by intro j hj; cases hj) (fun _ _ d _ _ => by cases d <;> exact Iff.rfl) fun wd hb => ?_
  replace EY := hid (EY.out.trans hb)
  clear hb
  refine WE.pure (d := some 43) rfl rfl (by rfl) (v := (.agg #[.bool g13, .slice A13 n13 c13, .slice B13 m13 d13])) (fun w' hk => ?_) ?_
  · obtain ⟨ce0, ce1, ce2⟩ := ((V7.out.up EY.out).up hk).c3; go_simp
  simp only [Act.put, pA, pB, pC]
  refine WE.call (d := some 44) rfl rfl (by rfl) (by go_simp) ((fIs_r (IsR.mk (P13.out.up EY.out) (D13.out.up EY.out)) (by omega)).mono ?_)
  rintro e wn ⟨rfl, hb⟩
  refine ⟨_, rfl, hb, ?_⟩
  replace EY := hid (EY.out.trans hb)
  clear hb
  simp only [Act.put, pA, pB, pC]
  clear Q11
  clear Q12
  clear Q14
  clear Q15
  clear Q17
  refine WE.pure (d := some 45) rfl rfl (by rfl) (v := (.bool true)) (fun w' hk => by go_simp) ?_
  simp only [Act.put, pA, pB, pC]
  refine WE.pure (d := some 46) rfl rfl (by rfl) (v := (.agg #[.bool g13, .slice A13 n13 c13, .slice B13 m13 d13])) (fun w' hk => ?_) ?_
  · obtain ⟨ce0, ce1, ce2⟩ := ((V7.out.up EY.out).up hk).c3; go_simp
  simp only [Act.put, pA, pB, pC]
  refine WE.pure (d := some 47) rfl rfl (by rfl) (v := (.agg #[.bool g16, .slice A16 n16 c16, .slice B16 m16 d16])) (fun w' hk => ?_) ?_
  · obtain ⟨ce0, ce1, ce2⟩ := ((V8.out.up EY.out).up hk).c3; go_simp
  simp only [Act.put, pA, pB, pC]
  refine WE.call (d := some 48) rfl rfl (by rfl) (by go_simp) ((rEqualR_r ((IsR.mk (P13.out.up EY.out) (D13.out.up EY.out)).to (HE.out)) (IsR.mk (P16.out.up EY.out) (D16.out.up EY.out))).mono ?_)
  rintro e wn ⟨rfl, hb⟩
  refine ⟨_, rfl, hb, ?_⟩
  replace EY := hid (EY.out.trans hb)
  clear hb
  simp only [Act.put, pA, pB, pC]
  refine WE.pure (d := some 49) rfl rfl (by rfl) (v := (.bool true)) (fun w' hk => by go_simp) ?_
  simp only [Act.put, pA, pB, pC]
  refine WE.pure (d := some 50) rfl rfl (by rfl) (v := (.bool true)) (fun w' hk => by go_simp) ?_
  simp only [Act.put, pA, pB, pC]
  as_aux_lemma =>
  refine WE.pure (d := some 51) rfl rfl (by rfl) (v := (.agg #[.bool g18, .slice A18 n18 c18, .slice B18 m18 d18])) (fun w' hk => ?_) ?_
  · obtain ⟨ce0, ce1, ce2⟩ := ((V9.out.up EY.out).up hk).c3; go_simp
  simp only [Act.put, pA, pB, pC]
  refine WE.call (d := some 52) rfl rfl (by rfl) (by go_simp) ((rSignR_r (WorthR.wide (IsR.mk (P18.out.up EY.out) (D18.out.up EY.out)).worth (k := 4) (by omega)) (by omega) (by omega) (s := 0) (by rw [M.frac_none rfl]; rfl)).mono ?_)
  rintro e wn ⟨rfl, hb⟩
  refine ⟨_, rfl, hb, ?_⟩
  replace EY := hid (EY.out.trans hb)
  clear hb
  simp only [Act.put, pA, pB, pC]
  refine WE.pure (d := some 53) rfl rfl (by rfl) (v := (.bool true)) (fun w' hk => by go_simp) ?_
  simp only [Act.put, pA, pB, pC]
  refine WE.pure (d := some 54) rfl rfl (by rfl) (v := (.bool true)) (fun w' hk => by go_simp) ?_
  simp only [Act.put, pA, pB, pC]
  refine WE.pure (d := some 55) rfl rfl (by rfl) (v := (.bool true)) (fun w' hk => by go_simp) ?_
  simp only [Act.put, pA, pB, pC]
  refine WE.pure (d := some 56) rfl rfl (by rfl) (v := (.agg #[.bool g18, .slice A18 n18 c18, .slice B18 m18 d18])) (fun w' hk => ?_) ?_
  · obtain ⟨ce0, ce1, ce2⟩ := ((V9.out.up EY.out).up hk).c3; go_simp
  simp only [Act.put, pA, pB, pC]
  refine WE.call (d := some 57) rfl rfl (by rfl) (by go_simp) ((fIs_r (IsR.mk (P18.out.up EY.out) (D18.out.up EY.out)) (by omega)).mono ?_)
  rintro e wn ⟨rfl, hb⟩
  refine ⟨_, rfl, hb, ?_⟩
  replace EY := hid (EY.out.trans hb)
  clear hb
  simp only [Act.put, pA, pB, pC]
  refine WE.pure (d := some 58) rfl rfl (by rfl) (v := (.bool true)) (fun w' hk => by go_simp) ?_
  simp only [Act.put, pA, pB, pC]
  refine WE.pure (d := some 59) rfl rfl (by rfl) (v := (.bool true)) (fun w' hk => by go_simp) ?_
  simp only [Act.put, pA, pB, pC]
  refine WE.pure (d := some 60) rfl rfl (by rfl) (v := (.agg #[.bool g13, .slice A13 n13 c13, .slice B13 m13 d13])) (fun w' hk => ?_) ?_
  · obtain ⟨ce0, ce1, ce2⟩ := ((V7.out.up EY.out).up hk).c3; go_simp
  simp only [Act.put, pA, pB, pC]
  refine WE.pure (d := some 62) rfl rfl (by rfl) (v := (.int .i32 p)) (fun w' hk => by go_simp) ?_
  simp only [Act.put, pA, pB, pC]
  refine WE.pure (d := some 63) rfl rfl (by rfl) (v := (.int .i64 p)) (fun w' hk => by go_simp) ?_
  simp only [Act.put, pA, pB, pC]
  as_aux_lemma =>
  refine WE.pure (d := some 64) rfl rfl (by rfl) (v := (.int .i32 q)) (fun w' hk => by go_simp) ?_
  simp only [Act.put, pA, pB, pC]
  refine WE.pure (d := some 65) rfl rfl (by rfl) (v := (.int .i64 q)) (fun w' hk => by go_simp) ?_
  simp only [Act.put, pA, pB, pC]
  refine WE.pure (d := some 66) rfl rfl (by rfl) (v := (.int .i64 r)) (fun w' hk => by go_simp) ?_
  simp only [Act.put, pA, pB, pC]
  refine WE.pure (d := some 67) rfl rfl (by rfl) (v := (.bool b)) (fun w' hk => by go_simp) ?_
  simp only [Act.put, pA, pB, pC]
  refine WE.call (d := some 61) rfl rfl (by rfl) (by go_simp) ((fWhole_r (WorthR.wide (IsR.mk (P13.out.up EY.out) (D13.out.up EY.out)).worth (k := 4) (by omega)) (by omega) (by omega) (b := b) (HB.out)).mono ?_)
  rintro e wn ⟨rfl, hb⟩
  refine ⟨_, rfl, hb, ?_⟩
  replace EY := hid (EY.out.trans hb)
  clear hb
  simp only [Act.put, pA, pB, pC]
  refine WE.pure (d := some 68) rfl rfl (by rfl) (v := (.bool true)) (fun w' hk => by go_simp) ?_
  simp only [Act.put, pA, pB, pC]
  refine WE.pure (d := some 69) rfl rfl (by rfl) (v := (.bool true)) (fun w' hk => by go_simp) ?_
  simp only [Act.put, pA, pB, pC]
  refine WE.pure (d := some 6) rfl rfl (by rfl) (v := (.bool true)) (fun w' hk => by go_simp) ?_
  simp only [Act.put, pA, pB, pC]
  refine WE.done ?_
  repeat go_step
  go_ret
  exact ⟨rfl, (E.out.trans EY.out)⟩

theorem ratShort_walk (W : World) (p q c : Int) (hp : -2147483648 ≤ p ∧ p ≤ 2147483647) (hq : -2147483648 ≤ q ∧ q ≤ 2147483647) (hc : -32768 ≤ c ∧ c ≤ 32767) :
    Calls Tryz.prog 5 #[.int .i32 p, .int .i32 q, .int .i16 c] W (fun e w' => e = .returned (.bool true) ∧ Ext W w') := by
  by_cases h1 : q = 0
  · exact ratShort_skip0 W p q c hp hq hc h1
  · by_cases h2 : c = 0
    · exact ratShort_skip1 W p q c hp hq hc ⟨h1, h2⟩
    · exact ratShort_main W p q c hp hq hc ⟨h1, h2⟩
theorem i32_of_wf {n : Int} (h : (Lit.int .i32 n).wf = true) : -2147483648 ≤ n ∧ n ≤ 2147483647 := by
  simpa [Lit.wf, IntKind.min, IntKind.max, IntKind.signed, IntKind.bits] using h
theorem i16_of_wf {n : Int} (h : (Lit.int .i16 n).wf = true) : -32768 ≤ n ∧ n ≤ 32767 := by
  simpa [Lit.wf, IntKind.min, IntKind.max, IntKind.signed, IntKind.bits] using h

set_option maxRecDepth 100000 in
theorem ratShort_lifted (os : Os) (started : os.Started) (H : Type) (enc : TypeId × Value → H) :
    ReturnsInHanded {} Tryz.checked os 5 .any (Rows.ratShortSpec.pre6 enc Tryz.prog Tryz.f5 Rows.ratShortRow.domain false) (Rows.ratShortSpec.post enc Tryz.prog Tryz.f5 false true false false) := by
  refine returnsInHanded_of_change (C := Tryz.checked) own started (by kernel_rfl) Tryz.func5
    (ChangeSpec.witness6 (enc := enc) (C := Tryz.checked) false ⟨#[], #[.int .i32 0, .int .i32 0, .int .i16 0], []⟩ 8 (by kernel_rfl) (by kernel_rfl) (by kernel_rfl) (by kernel_rfl)) ?_
  intro W base args ds gs before hval0 hW _ _
  have hval : ∀ (j : Nat) t v, Tryz.f5.params[j]? = some t → args[j]? = some v → Value.okWide Tryz.prog W .any base t v := hval0
  have hW' := hW
  obtain ⟨p, q, hA0, hV, rfl, hfz, hnd⟩ := hW
  have hA : DataW.TrodAll enc Tryz.prog W 0 (fun _ => true) true Tryz.f5.params.toList args.toList ds p := hA0
  rw [Tryz.params5] at hA hval
  obtain ⟨v0, vs0, d0, ds0, p0, q0, hargs, rfl, rfl, h0, r0⟩ := trodAll_cons hA
  obtain ⟨v1, vs1, d1, ds1, p1, q1, rfl, rfl, rfl, h1, r1⟩ := trodAll_cons r0
  obtain ⟨v2, vs2, d2, ds2, p2, q2, rfl, rfl, rfl, h2, r2⟩ := trodAll_cons r1
  obtain ⟨rfl, rfl, rfl⟩ := trodAll_nil r2
  obtain rfl : args = #[v0, v1, v2] := by cases args; simp_all
  obtain ⟨rfl, rfl⟩ := trodVars_none hV
  obtain ⟨a0, rfl, -, -, w0⟩ := open_int Tryz.underlying21 (hval 0 21 v0 rfl rfl) h0
  obtain ⟨a1, rfl, -, -, w1⟩ := open_int Tryz.underlying21 (hval 1 21 v1 rfl rfl) h1
  obtain ⟨a2, rfl, -, -, w2⟩ := open_int Tryz.underlying46 (hval 2 46 v2 rfl rfl) h2
  clear hA0 hval0
  refine (ratShort_walk W a0 a1 a2 (i32_of_wf w0) (i32_of_wf w1) (i16_of_wf w2)).mono fun e W' ⟨he, hg⟩ => ?_
  subst he
  exact ⟨_, rfl, law_post hW' rfl rfl (by kernel_rfl) (by kernel_rfl) hg⟩

theorem ratShort_over : Rows.ratShortRow.holds Tryz.pinned (OpenSpec.ofChange Rows.ratShortSpec) :=
  OpenClaim.holds_of_wide 5 Tryz.f5 rfl rfl rfl rfl rfl rfl rfl ⟨rfl, rfl, rfl, rfl, rfl⟩ rfl rfl rfl rfl rfl (by kernel_rfl) Tryz.func5 (by kernel_rfl)
    (of_decide_eq_true (by kernel_rfl)) (by unfold Func.isWrapper; first | (rw [if_pos (by decide +kernel)]; kernel_rfl) | (rw [if_neg (by decide +kernel)]; exact ⟨rfl, rfl⟩))
    (fun os started H enc _ => ratShort_lifted os started H enc)

theorem ratShort_proved : Rows.RatShortSaid := ratShort_over

end Go.Proofs.YtkjfeedclaedfaaGreat
