/-
  BelowRounds: whatever number of 8 bits, whatever number of 16 bits: true. No conditions.
-/
import Derived.Test.YtklmnmkmpkobhaaGreatBKnown
import Derived.Test.YtklmnmkmpkobhaaGreatLRefD
namespace Go.Proofs.YtklmnmkmpkobhaaGreat
open Go.ChangeShapes Go.WideShapes Go.ChangeAt Go.RowKit
set_option linter.unusedSimpArgs false
set_option linter.unusedVariables false

theorem u8_of_wf {n : Int} (h : (Lit.int .u8 n).wf = true) : 0 ≤ n ∧ n ≤ 255 := by
 simpa [Lit.wf, IntKind.min, IntKind.max, IntKind.signed, IntKind.bits] using h
theorem i16_of_wf {n : Int} (h : (Lit.int .i16 n).wf = true) : -32768 ≤ n ∧ n ≤ 32767 := by
 simpa [Lit.wf, IntKind.min, IntKind.max, IntKind.signed, IntKind.bits] using h

theorem M.cm_one {m : Int} (v : Int) : M.cm [(v, m)] = m.natAbs := by
 unfold M.cm M.gcdT
 rw [if_neg (by simp)]
 show Nat.gcd 0 m.natAbs = _
 exact Nat.gcd_zero_left _
theorem M.nT_one {m : Int} (v : Int) (hm : 0 < m) : M.nT [(v, m)] = [(v, 1)] := by
 unfold M.nT
 rw [M.cm_one, show ((m.natAbs : Nat) : Int) = m by omega]
 show [(v, m / m)] = _
 rw [Int.ediv_self (by omega)]
theorem M.nT_neg {m : Int} (v : Int) (hm : 0 < m) : M.nT (M.scaleT [(v, m)] (-1)) = [(v, -1)] := by
 rw [show M.scaleT [(v, m)] (-1) = [(v, m * -1)] from rfl]
 unfold M.nT
 rw [M.cm_one, show (((m * -1).natAbs : Nat) : Int) = m by omega]
 show [(v, (m * -1) / m)] = _
 rw [Int.mul_comm, Int.mul_ediv_cancel _ (by omega)]
theorem M.floor_of {k m lo s : Int} (hm : 0 < m) (he : s + m * lo = k) (h0 : 0 ≤ s) (h1 : s < m) : k.fdiv m = lo := by
 rw [M.down_exact hm]
 exact ((Int.ediv_emod_unique hm).2 ⟨he, h0, h1⟩).1

set_option maxRecDepth 100000 in
set_option maxHeartbeats 8000000 in
theorem belowRounds_neg (W : World) (cc : Int) (hc : 0 ≤ cc ∧ cc ≤ 255) (kk : Int) (hk : -32768 ≤ kk ∧ kk ≤ 32767) (hw : Hid (kk.tmod (cc + 1) < 0)) :
 Calls Tryz.prog 7 #[.int .u8 cc, .int .i16 kk] W (fun e w' => e = .returned (.bool true) ∧ Ext W w') := by
 have hway := hw.out
 have hkl := hk.1
 have hku := hk.2
 have hcl := hc.1
 have hcu := hc.2
 obtain ⟨mm, hmm⟩ : ∃ m : Int, cc + 1 = m := ⟨_, rfl⟩
 obtain ⟨nk, hnk⟩ : ∃ m : Int, -kk = m := ⟨_, rfl⟩
 rw [hmm] at hway
 obtain ⟨q0, hq0⟩ : ∃ q : Int, kk.tdiv mm = q := ⟨_, rfl⟩
 obtain ⟨r0, hr0⟩ : ∃ r : Int, kk.tmod mm = r := ⟨_, rfl⟩
 rw [hr0] at hway
 have hm1 : 0 < mm := by omega
 have hm2 : mm ≤ 256 := by omega
 have hm0 : ¬ mm = 0 := by omega
 obtain ⟨pp, hpp⟩ : ∃ p : Int, mm * q0 = p := ⟨_, rfl⟩
 have heq : pp + r0 = kk := by rw [← hpp, ← hq0, ← hr0]; exact Int.mul_tdiv_add_tmod kk mm
 have hr1 : -mm < r0 := by rw [← hr0]; have := Int.lt_tmod_of_pos kk hm1; omega
 have hr2 : r0 < mm := by rw [← hr0]; exact Int.tmod_lt_of_pos kk hm1
 have hqb : -40000 ≤ q0 ∧ q0 ≤ 40000 := by
  have h := Int.natAbs_tdiv_le_natAbs kk mm
  rw [hq0] at h; omega
 obtain ⟨lo, hlo⟩ : ∃ l : Int, q0 - 1 = l := ⟨_, rfl⟩
 obtain ⟨nl, hnl⟩ : ∃ l : Int, -lo = l := ⟨_, rfl⟩
 have HT1 := hid (M.nT_one 2 hm1)
 have HT2 := hid (M.nT_neg 2 hm1)
 have HK1 := hid (show M.nK [(2, mm)] nk = nl by unfold M.nK; rw [M.cm_one, show ((mm.natAbs : Nat) : Int) = mm by omega, show -nk = kk by omega, show kk.fdiv mm = lo from M.floor_of (s := r0 + mm) hm1 (by rw [← hlo, Int.mul_sub, hpp]; omega) (by omega) (by omega)]; exact hnl)
 have HK2 := hid (show M.nK (M.scaleT [(2, mm)] (-1)) (nk * -1) = q0 by unfold M.nK; rw [show M.scaleT [(2, mm)] (-1) = [(2, mm * -1)] from rfl, M.cm_one, show (((mm * -1).natAbs : Nat) : Int) = mm by omega, show -(nk * -1) = -kk by omega, show (-kk).fdiv mm = -q0 from M.floor_of (lo := -q0) (s := -r0) hm1 (by rw [Int.mul_neg, hpp]; omega) (by omega) (by omega)]; omega)
 have HMM := hid (show 0 < mm ∧ mm ≤ 256 from ⟨hm1, hm2⟩)
 have HNK := hid (show -40000 ≤ nk ∧ nk ≤ 40000 by omega)
 have HNL := hid (show -40010 ≤ nl ∧ nl ≤ 40010 by omega)
 have HHI := hid (show -40010 ≤ q0 ∧ q0 ≤ 40010 by omega)
 have hw_cc : IntKind.i64.wrap cc = cc := by rw [IntKind.wrap_i64]; omega
 have hw_kk : IntKind.i64.wrap kk = kk := by rw [IntKind.wrap_i64]; omega
 have hw_mm : IntKind.i64.wrap mm = mm := by rw [IntKind.wrap_i64]; omega
 have hw_nk : IntKind.i64.wrap nk = nk := by rw [IntKind.wrap_i64]; omega
 have hw_q0 : IntKind.i64.wrap q0 = q0 := by rw [IntKind.wrap_i64]; omega
 have hw_r0 : IntKind.i64.wrap r0 = r0 := by rw [IntKind.wrap_i64]; omega
 have hw_nl : IntKind.i64.wrap nl = nl := by rw [IntKind.wrap_i64]; omega
 have hw_lo : IntKind.i64.wrap lo = lo := by rw [IntKind.wrap_i64]; omega
 have hrn : decide (r0 < 0) = true := decide_eq_true (by omega)
 have hrp : decide (0 < r0) = false := decide_eq_false (by omega)
 clear hway hkl hku hcl hcu hm1 hm2 hpp heq hr1 hr2 hqb hc hk
 go_enter Tryz.func7, Tryz.ntmps7
 go_upto_region 1 with (fail)
 have E := hid (Ext.refl W)
 refine wp_region_S [(0, 1), (1, 0)] fun wd hb => ?_
 replace E := hid (E.out.trans hb)
 clear hb
 have EY := hid (Ext.refl wd)
 refine WE.cc 15 ((known7 _).mono ?_)
 rintro e wn ⟨rfl, hb⟩
 refine ⟨_, rfl, hb, ?_⟩
 replace EY := hid (EY.out.trans hb)
 clear hb
 refine WE.pp 16 (.bool false) ?_
 simp only [Act.put, pA, pB, pC]
 refine WE.done ?_
 go_upto_region 3 with (fail)
 refine wp_region_S [(0, 0), (1, 0), (2, 0), (3, 0)] fun wd hb => ?_
 replace EY := hid (EY.out.trans hb)
 clear hb
 refine WE.pp 17 (.int .u8 cc) ?_
 refine WE.pp 18 (.int .i64 cc) ?_
 refine WE.pp 19 (.int .i64 mm) ?_
 refine WE.pp 5 (.int .i64 mm) ?_
 simp only [Act.put, pA, pB, pC]
 refine WE.done ?_
 go_upto_region 4 with (fail)
 refine wp_region_S [(0, 0), (1, 1), (2, 0), (3, 1), (4, 0), (5, 0), (6, 0), (7, 1), (8, 0), (9, 1), (10, 4)] fun wd hb => ?_
 replace EY := hid (EY.out.trans hb)
 clear hb
 refine WE.pp 20 (.int .i64 mm) ?_
 refine WE.cc 21 ((rOf_z (n := mm) (by have := HMM.out; omega) (by have := HMM.out; omega) _).mono ?_)
 rintro e wn ⟨v1, rfl, x1, hb⟩
 obtain ⟨g11, A11, n11, c11, rfl⟩ := x1.shape
 refine ⟨_, rfl, hb, ?_⟩
 replace EY := hid (EY.out.trans hb)
 have Q11 := hid x1
 clear hb x1
 refine WE.pp 22 (.agg #[.int .i64 (2), .bool g11, .slice A11 n11 c11]) ?_
 simp only [Act.put, pA, pB, pC]
 refine WE.new (d := some 23) (cs := #[.int .i64 (2), .bool g11, .slice A11 n11 c11]) (t := 56) (v := fun g => (.slice (some ⟨g, 0, none⟩) 1 1)) rfl rfl (by rfl) (fun w => by go_simp) fun gLM wv hx0 hbox hge => ?_
 replace EY := hid (EY.out.trans hx0)
 replace Q11 := hid (Q11.out.up hx0)
 have LM : Hid (Box wv gLM #[.int .i64 (2), .bool g11, .slice A11 n11 c11] 56) := hid hbox
 clear hx0 hbox hge
 refine WE.pp 24 (.int .i16 kk) ?_
 refine WE.pp 25 (.int .i64 kk) ?_
 refine WE.pp 26 (.int .i64 nk) ?_
 refine WE.cc 27 ((rOf_z (n := nk) (by have := HNK.out; omega) (by have := HNK.out; omega) _).mono ?_)
 rintro e wn ⟨v1, rfl, x1, hb⟩
 obtain ⟨g12, A12, n12, c12, rfl⟩ := x1.shape
 refine ⟨_, rfl, hb, ?_⟩
 replace EY := hid (EY.out.trans hb)
 replace LM := hid (LM.out.up hb)
 replace Q11 := hid (Q11.out.up hb)
 have Q12 := hid x1
 clear hb x1
 refine WE.pp 28 (.agg #[.slice (some ⟨gLM, 0, none⟩) 1 1, .bool g12, .slice A12 n12 c12]) ?_
 simp only [Act.put, pA, pB, pC]
 have S13 := hid (show IsL _ (.agg #[.slice (some ⟨gLM, 0, none⟩) 1 1, .bool g12, .slice A12 n12 c12]) [(2, mm)] nk 3 from ⟨_, _, _, _, _, _, _, rfl, LTm.lit LM.out (Q11.out.wide (by omega)), Q12.out.wide (by omega), ⟨by decide, by show mm ≠ 0; have := HMM.out; omega, trivial⟩⟩)
 refine WE.new (d := some 6) (cs := #[.slice none 0 0, .bool false, .slice none 0 0]) (t := 27) (v := fun g => (.pointer (some ⟨g, 0, none⟩))) rfl rfl (by rfl) (fun w => by go_simp) fun gV6 wv hx0 hbox hge => ?_
 have HNV6LM := hid (show gV6 ≠ gLM by have := LM.out.lt; omega)
 have HGV6 := hid (show W.heap.size ≤ gV6 by have := (E.out.trans EY.out).size; omega)
 replace EY := hid (EY.out.trans hx0)
 replace LM := hid (LM.out.up hx0)
 replace S13 := hid (S13.out.up hx0)
 have V6 : Hid (Box wv gV6 #[.slice none 0 0, .bool false, .slice none 0 0] 27) := hid hbox
 clear hx0 hbox hge
 simp only [Act.put, pA, pB, pC]
 refine WE.store3 (g := gV6) (x := .slice (some ⟨gLM, 0, none⟩) 1 1) (y := .bool g12) (z := .slice A12 n12 c12) (t := 27) rfl rfl (by rfl) (fun w hb => ?_) V6.out (by rfl) fun ws hk hs => ?_
 ·obtain ⟨ce0, ce1, ce2⟩ := hb.c3; obtain ⟨f0, f1, f2⟩ := hb.f3; go_simp
 intro hbx
 replace S13 := hid (S13.out.kb V6.out (by rfl) hk hs)
 replace E := hid ((E.out.trans EY.out).keptG hk HGV6.out)
 replace LM := hid (LM.out.kept hk (by simpa using HNV6LM.out.symm))
 replace V6 := hid hbx
 clear hk hs hbx
 replace EY := hid (Ext.refl ws)
 refine WE.done ?_
 go_upto_region 5 with (fail)
 refine wp_region_S [(0, 0), (1, 1), (2, 0), (3, 0), (4, 0), (5, 1), (6, 4), (7, 0)] fun wd hb => ?_
 replace EY := hid (EY.out.trans hb)
 clear hb
 refine WE.qq 30 (.agg #[.slice (some ⟨gLM, 0, none⟩) 1 1, .bool g12, .slice A12 n12 c12]) rfl (fun w' hk => by obtain ⟨ce0, ce1, ce2⟩ := ((V6.out.up EY.out).up hk).c3; go_simp) ?_
 refine WE.cc 31 ((normB_to (WorthL.wide (S13.out.up EY.out).worth (U := 3) (by omega)) (by omega) (Nat.le_trans (Nat.le_refl 1) (by decide)) (s := [(2, 1)]) (μ := nl) (c := 1) (HT1.out) (HK1.out) (M.nC_some (by simp) _)).mono ?_)
 rintro e wn ⟨v1, rfl, x1, hb⟩
 obtain ⟨A14, n14, c14, g14, B14, m14, d14, rfl⟩ := x1.shape
 refine ⟨_, rfl, hb, ?_⟩
 replace EY := hid (EY.out.trans hb)
 have S14 := hid x1
 clear hb x1
 refine WE.pp 29 (.tuple #[(.agg #[.slice A14 n14 c14, .bool g14, .slice B14 m14 d14]), (.int .i64 1)]) ?_
 refine WE.pp 32 (.agg #[.slice A14 n14 c14, .bool g14, .slice B14 m14 d14]) ?_
 refine WE.pp 33 (.int .i64 1) ?_
 simp only [Act.put, pA, pB, pC]
 refine WE.new (d := some 7) (cs := #[.slice none 0 0, .bool false, .slice none 0 0]) (t := 27) (v := fun g => (.pointer (some ⟨g, 0, none⟩))) rfl rfl (by rfl) (fun w => by go_simp) fun gV7 wv hx0 hbox hge => ?_
 have HNV7LM := hid (show gV7 ≠ gLM by have := (LM.out.up EY.out).lt; omega)
 have HNV7V6 := hid (show gV7 ≠ gV6 by have := (V6.out.up EY.out).lt; omega)
 have HGV7 := hid (show W.heap.size ≤ gV7 by have := (E.out.trans EY.out).size; omega)
 replace EY := hid (EY.out.trans hx0)
 replace S14 := hid (S14.out.up hx0)
 have V7 : Hid (Box wv gV7 #[.slice none 0 0, .bool false, .slice none 0 0] 27) := hid hbox
 clear hx0 hbox hge
 simp only [Act.put, pA, pB, pC]
 refine WE.store3 (g := gV7) (x := .slice A14 n14 c14) (y := .bool g14) (z := .slice B14 m14 d14) (t := 27) rfl rfl (by rfl) (fun w hb => ?_) V7.out (by rfl) fun ws hk hs => ?_
 ·obtain ⟨ce0, ce1, ce2⟩ := hb.c3; obtain ⟨f0, f1, f2⟩ := hb.f3; go_simp
 intro hbx
 replace S13 := hid ((S13.out.up EY.out).kb V7.out (by rfl) hk hs)
 replace S14 := hid (S14.out.kb V7.out (by rfl) hk hs)
 replace E := hid ((E.out.trans EY.out).keptG hk HGV7.out)
 replace LM := hid ((LM.out.up EY.out).kept hk (by simpa using HNV7LM.out.symm))
 replace V6 := hid ((V6.out.up EY.out).kept hk (by simpa using HNV7V6.out.symm))
 replace V7 := hid hbx
 clear hk hs hbx
 replace EY := hid (Ext.refl ws)
 refine WE.pp 8 (.int .i64 1) ?_
 simp only [Act.put, pA, pB, pC]
 refine WE.done ?_
 go_upto_region 6 with (fail)
 refine wp_region_S [(0, 0), (1, 0), (2, 0), (3, 0), (4, 0)] fun wd hb => ?_
 replace EY := hid (EY.out.trans hb)
 clear hb
 refine WE.pp 34 (.int .i16 kk) ?_
 refine WE.pp 35 (.int .i64 kk) ?_
 refine WE.pp 36 (.int .i64 mm) ?_
 refine WE.pp 37 (.int .i64 q0) ?_
 refine WE.pp 9 (.int .i64 q0) ?_
 simp only [Act.put, pA, pB, pC]
 refine WE.done ?_
 go_upto_region 7 with (fail)
 refine wp_region_S [(0, 0), (1, 0), (2, 0), (3, 0), (4, 0)] fun wd hb => ?_
 replace EY := hid (EY.out.trans hb)
 clear hb
 refine WE.pp 38 (.int .i16 kk) ?_
 refine WE.pp 39 (.int .i64 kk) ?_
 refine WE.pp 40 (.int .i64 mm) ?_
 refine WE.pp 41 (.int .i64 r0) ?_
 refine WE.pp 42 (.bool true) ?_
 simp only [Act.put, pA, pB, pC]
 refine WE.done ?_
 go_upto_region 8 with (fail)
 refine wp_region_S [(0, 0), (1, 0), (2, 0)] fun wd hb => ?_
 replace EY := hid (EY.out.trans hb)
 clear hb
 refine WE.pp 43 (.int .i64 q0) ?_
 refine WE.pp 44 (.int .i64 lo) ?_
 refine WE.pp 9 (.int .i64 lo) ?_
 simp only [Act.put, pA, pB, pC]
 refine WE.done ?_
 go_upto_region 9 with (fail)
 refine wp_region_S [(0, 1), (1, 0), (2, 1), (3, 0), (4, 0), (5, 1), (6, 0), (7, 1), (8, 4)] fun wd hb => ?_
 replace EY := hid (EY.out.trans hb)
 clear hb
 refine WE.cc 45 ((rOf_z (n := (1)) (by decide) (by decide) _).mono ?_)
 rintro e wn ⟨v1, rfl, x1, hb⟩
 obtain ⟨g15, A15, n15, c15, rfl⟩ := x1.shape
 refine ⟨_, rfl, hb, ?_⟩
 replace EY := hid (EY.out.trans hb)
 have Q15 := hid x1
 clear hb x1
 refine WE.pp 46 (.agg #[.int .i64 (2), .bool g15, .slice A15 n15 c15]) ?_
 simp only [Act.put, pA, pB, pC]
 refine WE.new (d := some 47) (cs := #[.int .i64 (2), .bool g15, .slice A15 n15 c15]) (t := 56) (v := fun g => (.slice (some ⟨g, 0, none⟩) 1 1)) rfl rfl (by rfl) (fun w => by go_simp) fun gLN wv hx0 hbox hge => ?_
 replace EY := hid (EY.out.trans hx0)
 replace Q15 := hid (Q15.out.up hx0)
 have LN : Hid (Box wv gLN #[.int .i64 (2), .bool g15, .slice A15 n15 c15] 56) := hid hbox
 clear hx0 hbox hge
 refine WE.pp 48 (.int .i64 lo) ?_
 refine WE.pp 49 (.int .i64 nl) ?_
 refine WE.cc 50 ((rOf_z (n := nl) (by have := HNL.out; omega) (by have := HNL.out; omega) _).mono ?_)
 rintro e wn ⟨v1, rfl, x1, hb⟩
 obtain ⟨g16, A16, n16, c16, rfl⟩ := x1.shape
 refine ⟨_, rfl, hb, ?_⟩
 replace EY := hid (EY.out.trans hb)
 replace LN := hid (LN.out.up hb)
 replace Q15 := hid (Q15.out.up hb)
 have Q16 := hid x1
 clear hb x1
 refine WE.pp 51 (.agg #[.slice (some ⟨gLN, 0, none⟩) 1 1, .bool g16, .slice A16 n16 c16]) ?_
 simp only [Act.put, pA, pB, pC]
 have S17 := hid (show IsL _ (.agg #[.slice (some ⟨gLN, 0, none⟩) 1 1, .bool g16, .slice A16 n16 c16]) [(2, 1)] nl 3 from ⟨_, _, _, _, _, _, _, rfl, LTm.lit LN.out (Q15.out.wide (by omega)), Q16.out.wide (by omega), ⟨by decide, by decide, trivial⟩⟩)
 refine WE.new (d := some 10) (cs := #[.slice none 0 0, .bool false, .slice none 0 0]) (t := 27) (v := fun g => (.pointer (some ⟨g, 0, none⟩))) rfl rfl (by rfl) (fun w => by go_simp) fun gV10 wv hx0 hbox hge => ?_
 have HNV10LM := hid (show gV10 ≠ gLM by have := (LM.out.up EY.out).lt; omega)
 have HNV10V6 := hid (show gV10 ≠ gV6 by have := (V6.out.up EY.out).lt; omega)
 have HNV10V7 := hid (show gV10 ≠ gV7 by have := (V7.out.up EY.out).lt; omega)
 have HNV10LN := hid (show gV10 ≠ gLN by have := LN.out.lt; omega)
 have HGV10 := hid (show W.heap.size ≤ gV10 by have := (E.out.trans EY.out).size; omega)
 replace EY := hid (EY.out.trans hx0)
 replace LN := hid (LN.out.up hx0)
 replace S17 := hid (S17.out.up hx0)
 have V10 : Hid (Box wv gV10 #[.slice none 0 0, .bool false, .slice none 0 0] 27) := hid hbox
 clear hx0 hbox hge
 simp only [Act.put, pA, pB, pC]
 refine WE.store3 (g := gV10) (x := .slice (some ⟨gLN, 0, none⟩) 1 1) (y := .bool g16) (z := .slice A16 n16 c16) (t := 27) rfl rfl (by rfl) (fun w hb => ?_) V10.out (by rfl) fun ws hk hs => ?_
 ·obtain ⟨ce0, ce1, ce2⟩ := hb.c3; obtain ⟨f0, f1, f2⟩ := hb.f3; go_simp
 intro hbx
 replace S13 := hid ((S13.out.up EY.out).kb V10.out (by rfl) hk hs)
 replace S14 := hid ((S14.out.up EY.out).kb V10.out (by rfl) hk hs)
 replace S17 := hid (S17.out.kb V10.out (by rfl) hk hs)
 replace E := hid ((E.out.trans EY.out).keptG hk HGV10.out)
 replace LM := hid ((LM.out.up EY.out).kept hk (by simpa using HNV10LM.out.symm))
 replace V6 := hid ((V6.out.up EY.out).kept hk (by simpa using HNV10V6.out.symm))
 replace V7 := hid ((V7.out.up EY.out).kept hk (by simpa using HNV10V7.out.symm))
 replace LN := hid (LN.out.kept hk (by simpa using HNV10LN.out.symm))
 replace V10 := hid hbx
 clear hk hs hbx
 replace EY := hid (Ext.refl ws)
 refine WE.done ?_
 go_upto_region 10 with (fail)
 refine wp_region_L [(0, 0), (1, 2), (2, 2), (3, 2), (4, 0), (5, 0), (6, 5), (7, 3), (8, 4), (9, 5)] 27 #[.slice none 0 0, .bool false, .slice none 0 0] fun wd hb => ?_
 replace EY := hid (EY.out.trans hb)
 clear hb
 have HL1LM := hid (LM.out.up EY.out).lt
 have HL1V6 := hid (V6.out.up EY.out).lt
 have HL1V7 := hid (V7.out.up EY.out).lt
 have HL1LN := hid (LN.out.up EY.out).lt
 have HL1V10 := hid (V10.out.up EY.out).lt
 have HW1 := hid (show W.heap.size ≤ wd.heap.size from (E.out.trans EY.out).size)
 refine WE.qq 53 (.agg #[.slice (some ⟨gLM, 0, none⟩) 1 1, .bool g12, .slice A12 n12 c12]) rfl (fun w' hk => by obtain ⟨ce0, ce1, ce2⟩ := ((V6.out.up EY.out).up hk).c3; go_simp) ?_
 simp only [Act.put, pA, pB, pC]
 refine WE.callR (d := some 54) rfl rfl (by rfl) (f := 51) (args := #[(.int .i64 (-1))]) (fun w => by go_simp) (fun wx hx0 => ?_)
 replace EY := hid (EY.out.trans hx0)
 clear hx0
 refine (rOf_z (n := (-1)) (by decide) (by decide) _).mono ?_
 rintro e wn ⟨v1, rfl, x1, hb⟩
 obtain ⟨g18, A18, n18, c18, rfl⟩ := x1.shape
 refine ⟨_, rfl, hb, ?_⟩
 replace EY := hid (EY.out.trans hb)
 have Q18 := hid x1
 clear hb x1
 simp only [Act.put, pA, pB, pC]
 refine WE.callR (d := some 55) rfl rfl (by rfl) (f := 26) (args := #[(.agg #[.slice (some ⟨gLM, 0, none⟩) 1 1, .bool g12, .slice A12 n12 c12]), (.agg #[.bool g18, .slice A18 n18 c18])]) (fun w => by go_simp) (fun wx hx0 => ?_)
 replace EY := hid (EY.out.trans hx0)
 replace Q18 := hid (Q18.out.up hx0)
 clear hx0
 refine (rScaleL_l (WorthL.wide (S13.out.up EY.out).worth (U := 3) (by omega)) (Worth.wide Q18.out.worth (k := 3) (by omega)) (by omega) (Nat.le_trans (Nat.le_refl 1) (by decide))).mono ?_
 rintro e wn ⟨v1, rfl, x1, hb⟩
 obtain ⟨A19, n19, c19, g19, B19, m19, d19, rfl⟩ := x1.shape
 refine ⟨_, rfl, hb, ?_⟩
 replace EY := hid (EY.out.trans hb)
 have S19 := hid x1
 clear hb x1
 simp only [Act.put, pA, pB, pC]
 refine WE.callR (d := some 56) rfl rfl (by rfl) (f := 43) (args := #[(.agg #[.slice A19 n19 c19, .bool g19, .slice B19 m19 d19])]) (fun w => by go_simp) (fun wx hx0 => ?_)
 replace EY := hid (EY.out.trans hx0)
 replace S19 := hid (S19.out.up hx0)
 clear hx0
 refine (normB_to (WorthL.wide S19.out.worth (U := 6) (by omega)) (by omega) (Nat.le_trans (Nat.le_trans (M.scaleT_len _ _) (Nat.le_refl 1)) (by decide)) (s := [(2, -1)]) (μ := q0) (c := 1) (HT2.out) (HK2.out) (M.nC_some (show [((2 : Int), mm * -1)] ≠ [] by simp) _)).mono ?_
 rintro e wn ⟨v1, rfl, x1, hb⟩
 obtain ⟨A20, n20, c20, g20, B20, m20, d20, rfl⟩ := x1.shape
 refine ⟨_, rfl, hb, ?_⟩
 replace EY := hid (EY.out.trans hb)
 have S20 := hid x1
 clear hb x1
 refine WE.pp 52 (.tuple #[(.agg #[.slice A20 n20 c20, .bool g20, .slice B20 m20 d20]), (.int .i64 1)]) ?_
 refine WE.pp 57 (.agg #[.slice A20 n20 c20, .bool g20, .slice B20 m20 d20]) ?_
 refine WE.any (d := some 58) rfl rfl (by rfl) (v := (.int .i64 1)) (fun w' => by go_simp) ?_
 simp only [Act.put, pA, pB, pC]
 refine WE.var (d := some 11) rfl fun gV11 wv hx0 hbox hge hng => ?_
 have HNV11V7 := hid (show gV11 ≠ gV7 by have := HL1V7.out; omega)
 have HNV11V10 := hid (show gV11 ≠ gV10 by have := HL1V10.out; omega)
 have HGV11 := hid (show W.heap.size ≤ gV11 by have := HW1.out; omega)
 replace EY := hid (EY.out.trans hx0)
 replace S20 := hid (S20.out.up hx0)
 have V11 : Hid (Box wv gV11 #[.slice none 0 0, .bool false, .slice none 0 0] 27) := hid hbox
 clear hx0 hbox hge hng
 simp only [Act.put, pA, pB, pC]
 refine WE.store3 (g := gV11) (x := .slice A20 n20 c20) (y := .bool g20) (z := .slice B20 m20 d20) (t := 27) rfl rfl (by rfl) (fun w hb => ?_) V11.out (by rfl) fun ws hk hs => ?_
 ·obtain ⟨ce0, ce1, ce2⟩ := hb.c3; obtain ⟨f0, f1, f2⟩ := hb.f3; go_simp
 intro hbx
 replace S14 := hid ((S14.out.up EY.out).kb V11.out (by rfl) hk hs)
 replace S17 := hid ((S17.out.up EY.out).kb V11.out (by rfl) hk hs)
 replace S20 := hid (S20.out.kb V11.out (by rfl) hk hs)
 replace E := hid ((E.out.trans EY.out).keptG hk HGV11.out)
 replace V7 := hid ((V7.out.up EY.out).kept hk (by simpa using HNV11V7.out.symm))
 replace V10 := hid ((V10.out.up EY.out).kept hk (by simpa using HNV11V10.out.symm))
 replace V11 := hid hbx
 clear hk hs hbx
 replace EY := hid (Ext.refl ws)
 refine WE.any (d := some 12) rfl rfl (by rfl) (v := (.int .i64 1)) (fun w' => by go_simp) ?_
 simp only [Act.put, pA, pB, pC]
 refine WE.done ?_
 go_upto_region 11 with (fail)
 refine wp_region_S [(0, 0), (1, 0), (2, 0), (3, 0), (4, 0)] fun wd hb => ?_
 replace EY := hid (EY.out.trans hb)
 clear hb
 refine WE.pp 59 (.int .i16 kk) ?_
 refine WE.pp 60 (.int .i64 kk) ?_
 refine WE.pp 61 (.int .i64 mm) ?_
 refine WE.pp 62 (.int .i64 q0) ?_
 refine WE.pp 13 (.int .i64 q0) ?_
 simp only [Act.put, pA, pB, pC]
 refine WE.done ?_
 go_upto_region 12 with (fail)
 refine wp_region_S [(0, 0), (1, 0), (2, 0), (3, 0), (4, 0)] fun wd hb => ?_
 replace EY := hid (EY.out.trans hb)
 clear hb
 refine WE.pp 63 (.int .i16 kk) ?_
 refine WE.pp 64 (.int .i64 kk) ?_
 refine WE.pp 65 (.int .i64 mm) ?_
 refine WE.pp 66 (.int .i64 r0) ?_
 refine WE.pp 67 (.bool false) ?_
 simp only [Act.put, pA, pB, pC]
 refine WE.done ?_
 go_upto_region 14 with (fail)
 refine wp_region_S [(0, 1), (1, 0), (2, 1), (3, 0), (4, 1), (5, 0), (6, 1), (7, 4)] fun wd hb => ?_
 replace EY := hid (EY.out.trans hb)
 clear hb
 refine WE.cc 70 ((rOf_z (n := (-1)) (by decide) (by decide) _).mono ?_)
 rintro e wn ⟨v1, rfl, x1, hb⟩
 obtain ⟨g21, A21, n21, c21, rfl⟩ := x1.shape
 refine ⟨_, rfl, hb, ?_⟩
 replace EY := hid (EY.out.trans hb)
 have Q21 := hid x1
 clear hb x1
 refine WE.pp 71 (.agg #[.int .i64 (2), .bool g21, .slice A21 n21 c21]) ?_
 simp only [Act.put, pA, pB, pC]
 refine WE.new (d := some 72) (cs := #[.int .i64 (2), .bool g21, .slice A21 n21 c21]) (t := 56) (v := fun g => (.slice (some ⟨g, 0, none⟩) 1 1)) rfl rfl (by rfl) (fun w => by go_simp) fun gLP wv hx0 hbox hge => ?_
 replace EY := hid (EY.out.trans hx0)
 replace Q21 := hid (Q21.out.up hx0)
 have LP : Hid (Box wv gLP #[.int .i64 (2), .bool g21, .slice A21 n21 c21] 56) := hid hbox
 clear hx0 hbox hge
 refine WE.pp 73 (.int .i64 q0) ?_
 refine WE.cc 74 ((rOf_z (n := q0) (by have := HHI.out; omega) (by have := HHI.out; omega) _).mono ?_)
 rintro e wn ⟨v1, rfl, x1, hb⟩
 obtain ⟨g22, A22, n22, c22, rfl⟩ := x1.shape
 refine ⟨_, rfl, hb, ?_⟩
 replace EY := hid (EY.out.trans hb)
 replace LP := hid (LP.out.up hb)
 replace Q21 := hid (Q21.out.up hb)
 have Q22 := hid x1
 clear hb x1
 refine WE.pp 75 (.agg #[.slice (some ⟨gLP, 0, none⟩) 1 1, .bool g22, .slice A22 n22 c22]) ?_
 simp only [Act.put, pA, pB, pC]
 have S23 := hid (show IsL _ (.agg #[.slice (some ⟨gLP, 0, none⟩) 1 1, .bool g22, .slice A22 n22 c22]) [(2, -1)] q0 3 from ⟨_, _, _, _, _, _, _, rfl, LTm.lit LP.out (Q21.out.wide (by omega)), Q22.out.wide (by omega), ⟨by decide, by decide, trivial⟩⟩)
 refine WE.new (d := some 14) (cs := #[.slice none 0 0, .bool false, .slice none 0 0]) (t := 27) (v := fun g => (.pointer (some ⟨g, 0, none⟩))) rfl rfl (by rfl) (fun w => by go_simp) fun gV14 wv hx0 hbox hge => ?_
 have HNV14V7 := hid (show gV14 ≠ gV7 by have := (V7.out.up EY.out).lt; omega)
 have HNV14V10 := hid (show gV14 ≠ gV10 by have := (V10.out.up EY.out).lt; omega)
 have HNV14V11 := hid (show gV14 ≠ gV11 by have := (V11.out.up EY.out).lt; omega)
 have HGV14 := hid (show W.heap.size ≤ gV14 by have := (E.out.trans EY.out).size; omega)
 replace EY := hid (EY.out.trans hx0)
 replace S23 := hid (S23.out.up hx0)
 have V14 : Hid (Box wv gV14 #[.slice none 0 0, .bool false, .slice none 0 0] 27) := hid hbox
 clear hx0 hbox hge
 simp only [Act.put, pA, pB, pC]
 refine WE.store3 (g := gV14) (x := .slice (some ⟨gLP, 0, none⟩) 1 1) (y := .bool g22) (z := .slice A22 n22 c22) (t := 27) rfl rfl (by rfl) (fun w hb => ?_) V14.out (by rfl) fun ws hk hs => ?_
 ·obtain ⟨ce0, ce1, ce2⟩ := hb.c3; obtain ⟨f0, f1, f2⟩ := hb.f3; go_simp
 intro hbx
 replace S14 := hid ((S14.out.up EY.out).kb V14.out (by rfl) hk hs)
 replace S17 := hid ((S17.out.up EY.out).kb V14.out (by rfl) hk hs)
 replace S20 := hid ((S20.out.up EY.out).kb V14.out (by rfl) hk hs)
 replace S23 := hid (S23.out.kb V14.out (by rfl) hk hs)
 replace E := hid ((E.out.trans EY.out).keptG hk HGV14.out)
 replace V7 := hid ((V7.out.up EY.out).kept hk (by simpa using HNV14V7.out.symm))
 replace V10 := hid ((V10.out.up EY.out).kept hk (by simpa using HNV14V10.out.symm))
 replace V11 := hid ((V11.out.up EY.out).kept hk (by simpa using HNV14V11.out.symm))
 replace V14 := hid hbx
 clear hk hs hbx
 replace EY := hid (Ext.refl ws)
 refine WE.done ?_
 go_upto_region 15 with (fail)
 refine wp_region_S [(0, 0), (1, 0), (2, 0), (3, 0), (4, 0), (5, 1), (6, 0), (7, 0), (8, 0), (9, 0), (10, 1), (11, 0), (12, 0)] fun wd hb => ?_
 replace EY := hid (EY.out.trans hb)
 clear hb
 refine WE.pp 76 (.int .i64 1) ?_
 refine WE.pp 77 (.bool true) ?_
 refine WE.pp 78 (.bool true) ?_
 refine WE.qq 79 (.agg #[.slice A14 n14 c14, .bool g14, .slice B14 m14 d14]) rfl (fun w' hk => by obtain ⟨ce0, ce1, ce2⟩ := ((V7.out.up EY.out).up hk).c3; go_simp) ?_
 refine WE.qq 80 (.agg #[.slice (some ⟨gLN, 0, none⟩) 1 1, .bool g16, .slice A16 n16 c16]) rfl (fun w' hk => by obtain ⟨ce0, ce1, ce2⟩ := ((V10.out.up EY.out).up hk).c3; go_simp) ?_
 refine WE.cc 81 ((rEqualL_l (S14.out.up EY.out) (S17.out.up EY.out) (b := true) (decide_eq_true ⟨rfl, rfl⟩)).mono ?_)
 rintro e wn ⟨rfl, hb⟩
 refine ⟨_, rfl, hb, ?_⟩
 replace EY := hid (EY.out.trans hb)
 clear hb
 simp only [Act.put, pA, pB, pC]
 refine WE.pp 82 (.bool true) ?_
 refine WE.pp 83 (.bool true) ?_
 refine WE.qq 84 (.agg #[.slice A20 n20 c20, .bool g20, .slice B20 m20 d20]) rfl (fun w' hk => by obtain ⟨ce0, ce1, ce2⟩ := ((V11.out.up EY.out).up hk).c3; go_simp) ?_
 refine WE.qq 85 (.agg #[.slice (some ⟨gLP, 0, none⟩) 1 1, .bool g22, .slice A22 n22 c22]) rfl (fun w' hk => by obtain ⟨ce0, ce1, ce2⟩ := ((V14.out.up EY.out).up hk).c3; go_simp) ?_
 refine WE.cc 86 ((rEqualL_l (S20.out.up EY.out) (S23.out.up EY.out) (b := true) (decide_eq_true ⟨rfl, rfl⟩)).mono ?_)
 rintro e wn ⟨rfl, hb⟩
 refine ⟨_, rfl, hb, ?_⟩
 replace EY := hid (EY.out.trans hb)
 clear hb
 refine WE.pp 87 (.bool true) ?_
 simp only [Act.put, pA, pB, pC]
 refine WE.pp 4 (.bool true) ?_
 simp only [Act.put, pA, pB, pC]
 refine WE.done ?_
 repeat go_step
 go_ret
 exact ⟨rfl, (E.out.trans EY.out)⟩

set_option maxRecDepth 100000 in
set_option maxHeartbeats 8000000 in
theorem belowRounds_zero (W : World) (cc : Int) (hc : 0 ≤ cc ∧ cc ≤ 255) (kk : Int) (hk : -32768 ≤ kk ∧ kk ≤ 32767) (hw : Hid (kk.tmod (cc + 1) = 0)) :
 Calls Tryz.prog 7 #[.int .u8 cc, .int .i16 kk] W (fun e w' => e = .returned (.bool true) ∧ Ext W w') := by
 have hway := hw.out
 have hkl := hk.1
 have hku := hk.2
 have hcl := hc.1
 have hcu := hc.2
 obtain ⟨mm, hmm⟩ : ∃ m : Int, cc + 1 = m := ⟨_, rfl⟩
 obtain ⟨nk, hnk⟩ : ∃ m : Int, -kk = m := ⟨_, rfl⟩
 rw [hmm] at hway
 obtain ⟨q0, hq0⟩ : ∃ q : Int, kk.tdiv mm = q := ⟨_, rfl⟩
 obtain ⟨r0, hr0⟩ : ∃ r : Int, kk.tmod mm = r := ⟨_, rfl⟩
 rw [hr0] at hway
 have hm1 : 0 < mm := by omega
 have hm2 : mm ≤ 256 := by omega
 have hm0 : ¬ mm = 0 := by omega
 obtain ⟨pp, hpp⟩ : ∃ p : Int, mm * q0 = p := ⟨_, rfl⟩
 have heq : pp + r0 = kk := by rw [← hpp, ← hq0, ← hr0]; exact Int.mul_tdiv_add_tmod kk mm
 have hr1 : -mm < r0 := by rw [← hr0]; have := Int.lt_tmod_of_pos kk hm1; omega
 have hr2 : r0 < mm := by rw [← hr0]; exact Int.tmod_lt_of_pos kk hm1
 have hqb : -40000 ≤ q0 ∧ q0 ≤ 40000 := by
  have h := Int.natAbs_tdiv_le_natAbs kk mm
  rw [hq0] at h; omega
 obtain ⟨nl, hnl⟩ : ∃ l : Int, -q0 = l := ⟨_, rfl⟩
 have HT1 := hid (M.nT_one 2 hm1)
 have HT2 := hid (M.nT_neg 2 hm1)
 have HK1 := hid (show M.nK [(2, mm)] nk = nl by unfold M.nK; rw [M.cm_one, show ((mm.natAbs : Nat) : Int) = mm by omega, show -nk = kk by omega, show kk.fdiv mm = q0 from M.floor_of (s := 0) hm1 (by rw [hpp]; omega) (by omega) hm1]; exact hnl)
 have HK2 := hid (show M.nK (M.scaleT [(2, mm)] (-1)) (nk * -1) = q0 by unfold M.nK; rw [show M.scaleT [(2, mm)] (-1) = [(2, mm * -1)] from rfl, M.cm_one, show (((mm * -1).natAbs : Nat) : Int) = mm by omega, show -(nk * -1) = -kk by omega, show (-kk).fdiv mm = -q0 from M.floor_of (lo := -q0) (s := 0) hm1 (by rw [Int.mul_neg, hpp]; omega) (by omega) hm1]; omega)
 have HMM := hid (show 0 < mm ∧ mm ≤ 256 from ⟨hm1, hm2⟩)
 have HNK := hid (show -40000 ≤ nk ∧ nk ≤ 40000 by omega)
 have HNL := hid (show -40010 ≤ nl ∧ nl ≤ 40010 by omega)
 have HHI := hid (show -40010 ≤ q0 ∧ q0 ≤ 40010 by omega)
 have hw_cc : IntKind.i64.wrap cc = cc := by rw [IntKind.wrap_i64]; omega
 have hw_kk : IntKind.i64.wrap kk = kk := by rw [IntKind.wrap_i64]; omega
 have hw_mm : IntKind.i64.wrap mm = mm := by rw [IntKind.wrap_i64]; omega
 have hw_nk : IntKind.i64.wrap nk = nk := by rw [IntKind.wrap_i64]; omega
 have hw_q0 : IntKind.i64.wrap q0 = q0 := by rw [IntKind.wrap_i64]; omega
 have hw_r0 : IntKind.i64.wrap r0 = r0 := by rw [IntKind.wrap_i64]; omega
 have hw_nl : IntKind.i64.wrap nl = nl := by rw [IntKind.wrap_i64]; omega
 have hrn : decide (r0 < 0) = false := decide_eq_false (by omega)
 have hrp : decide (0 < r0) = false := decide_eq_false (by omega)
 clear hway hkl hku hcl hcu hm1 hm2 hpp heq hr1 hr2 hqb hc hk
 go_enter Tryz.func7, Tryz.ntmps7
 go_upto_region 1 with (fail)
 have E := hid (Ext.refl W)
 refine wp_region_S [(0, 1), (1, 0)] fun wd hb => ?_
 replace E := hid (E.out.trans hb)
 clear hb
 have EY := hid (Ext.refl wd)
 refine WE.cc 15 ((known7 _).mono ?_)
 rintro e wn ⟨rfl, hb⟩
 refine ⟨_, rfl, hb, ?_⟩
 replace EY := hid (EY.out.trans hb)
 clear hb
 refine WE.pp 16 (.bool false) ?_
 simp only [Act.put, pA, pB, pC]
 refine WE.done ?_
 go_upto_region 3 with (fail)
 refine wp_region_S [(0, 0), (1, 0), (2, 0), (3, 0)] fun wd hb => ?_
 replace EY := hid (EY.out.trans hb)
 clear hb
 refine WE.pp 17 (.int .u8 cc) ?_
 refine WE.pp 18 (.int .i64 cc) ?_
 refine WE.pp 19 (.int .i64 mm) ?_
 refine WE.pp 5 (.int .i64 mm) ?_
 simp only [Act.put, pA, pB, pC]
 refine WE.done ?_
 go_upto_region 4 with (fail)
 refine wp_region_S [(0, 0), (1, 1), (2, 0), (3, 1), (4, 0), (5, 0), (6, 0), (7, 1), (8, 0), (9, 1), (10, 4)] fun wd hb => ?_
 replace EY := hid (EY.out.trans hb)
 clear hb
 refine WE.pp 20 (.int .i64 mm) ?_
 refine WE.cc 21 ((rOf_z (n := mm) (by have := HMM.out; omega) (by have := HMM.out; omega) _).mono ?_)
 rintro e wn ⟨v1, rfl, x1, hb⟩
 obtain ⟨g11, A11, n11, c11, rfl⟩ := x1.shape
 refine ⟨_, rfl, hb, ?_⟩
 replace EY := hid (EY.out.trans hb)
 have Q11 := hid x1
 clear hb x1
 refine WE.pp 22 (.agg #[.int .i64 (2), .bool g11, .slice A11 n11 c11]) ?_
 simp only [Act.put, pA, pB, pC]
 refine WE.new (d := some 23) (cs := #[.int .i64 (2), .bool g11, .slice A11 n11 c11]) (t := 56) (v := fun g => (.slice (some ⟨g, 0, none⟩) 1 1)) rfl rfl (by rfl) (fun w => by go_simp) fun gLM wv hx0 hbox hge => ?_
 replace EY := hid (EY.out.trans hx0)
 replace Q11 := hid (Q11.out.up hx0)
 have LM : Hid (Box wv gLM #[.int .i64 (2), .bool g11, .slice A11 n11 c11] 56) := hid hbox
 clear hx0 hbox hge
 refine WE.pp 24 (.int .i16 kk) ?_
 refine WE.pp 25 (.int .i64 kk) ?_
 refine WE.pp 26 (.int .i64 nk) ?_
 refine WE.cc 27 ((rOf_z (n := nk) (by have := HNK.out; omega) (by have := HNK.out; omega) _).mono ?_)
 rintro e wn ⟨v1, rfl, x1, hb⟩
 obtain ⟨g12, A12, n12, c12, rfl⟩ := x1.shape
 refine ⟨_, rfl, hb, ?_⟩
 replace EY := hid (EY.out.trans hb)
 replace LM := hid (LM.out.up hb)
 replace Q11 := hid (Q11.out.up hb)
 have Q12 := hid x1
 clear hb x1
 refine WE.pp 28 (.agg #[.slice (some ⟨gLM, 0, none⟩) 1 1, .bool g12, .slice A12 n12 c12]) ?_
 simp only [Act.put, pA, pB, pC]
 have S13 := hid (show IsL _ (.agg #[.slice (some ⟨gLM, 0, none⟩) 1 1, .bool g12, .slice A12 n12 c12]) [(2, mm)] nk 3 from ⟨_, _, _, _, _, _, _, rfl, LTm.lit LM.out (Q11.out.wide (by omega)), Q12.out.wide (by omega), ⟨by decide, by show mm ≠ 0; have := HMM.out; omega, trivial⟩⟩)
 refine WE.new (d := some 6) (cs := #[.slice none 0 0, .bool false, .slice none 0 0]) (t := 27) (v := fun g => (.pointer (some ⟨g, 0, none⟩))) rfl rfl (by rfl) (fun w => by go_simp) fun gV6 wv hx0 hbox hge => ?_
 have HNV6LM := hid (show gV6 ≠ gLM by have := LM.out.lt; omega)
 have HGV6 := hid (show W.heap.size ≤ gV6 by have := (E.out.trans EY.out).size; omega)
 replace EY := hid (EY.out.trans hx0)
 replace LM := hid (LM.out.up hx0)
 replace S13 := hid (S13.out.up hx0)
 have V6 : Hid (Box wv gV6 #[.slice none 0 0, .bool false, .slice none 0 0] 27) := hid hbox
 clear hx0 hbox hge
 simp only [Act.put, pA, pB, pC]
 refine WE.store3 (g := gV6) (x := .slice (some ⟨gLM, 0, none⟩) 1 1) (y := .bool g12) (z := .slice A12 n12 c12) (t := 27) rfl rfl (by rfl) (fun w hb => ?_) V6.out (by rfl) fun ws hk hs => ?_
 ·obtain ⟨ce0, ce1, ce2⟩ := hb.c3; obtain ⟨f0, f1, f2⟩ := hb.f3; go_simp
 intro hbx
 replace S13 := hid (S13.out.kb V6.out (by rfl) hk hs)
 replace E := hid ((E.out.trans EY.out).keptG hk HGV6.out)
 replace LM := hid (LM.out.kept hk (by simpa using HNV6LM.out.symm))
 replace V6 := hid hbx
 clear hk hs hbx
 replace EY := hid (Ext.refl ws)
 refine WE.done ?_
 go_upto_region 5 with (fail)
 refine wp_region_S [(0, 0), (1, 1), (2, 0), (3, 0), (4, 0), (5, 1), (6, 4), (7, 0)] fun wd hb => ?_
 replace EY := hid (EY.out.trans hb)
 clear hb
 refine WE.qq 30 (.agg #[.slice (some ⟨gLM, 0, none⟩) 1 1, .bool g12, .slice A12 n12 c12]) rfl (fun w' hk => by obtain ⟨ce0, ce1, ce2⟩ := ((V6.out.up EY.out).up hk).c3; go_simp) ?_
 refine WE.cc 31 ((normB_to (WorthL.wide (S13.out.up EY.out).worth (U := 3) (by omega)) (by omega) (Nat.le_trans (Nat.le_refl 1) (by decide)) (s := [(2, 1)]) (μ := nl) (c := 1) (HT1.out) (HK1.out) (M.nC_some (by simp) _)).mono ?_)
 rintro e wn ⟨v1, rfl, x1, hb⟩
 obtain ⟨A14, n14, c14, g14, B14, m14, d14, rfl⟩ := x1.shape
 refine ⟨_, rfl, hb, ?_⟩
 replace EY := hid (EY.out.trans hb)
 have S14 := hid x1
 clear hb x1
 refine WE.pp 29 (.tuple #[(.agg #[.slice A14 n14 c14, .bool g14, .slice B14 m14 d14]), (.int .i64 1)]) ?_
 refine WE.pp 32 (.agg #[.slice A14 n14 c14, .bool g14, .slice B14 m14 d14]) ?_
 refine WE.pp 33 (.int .i64 1) ?_
 simp only [Act.put, pA, pB, pC]
 refine WE.new (d := some 7) (cs := #[.slice none 0 0, .bool false, .slice none 0 0]) (t := 27) (v := fun g => (.pointer (some ⟨g, 0, none⟩))) rfl rfl (by rfl) (fun w => by go_simp) fun gV7 wv hx0 hbox hge => ?_
 have HNV7LM := hid (show gV7 ≠ gLM by have := (LM.out.up EY.out).lt; omega)
 have HNV7V6 := hid (show gV7 ≠ gV6 by have := (V6.out.up EY.out).lt; omega)
 have HGV7 := hid (show W.heap.size ≤ gV7 by have := (E.out.trans EY.out).size; omega)
 replace EY := hid (EY.out.trans hx0)
 replace S14 := hid (S14.out.up hx0)
 have V7 : Hid (Box wv gV7 #[.slice none 0 0, .bool false, .slice none 0 0] 27) := hid hbox
 clear hx0 hbox hge
 simp only [Act.put, pA, pB, pC]
 refine WE.store3 (g := gV7) (x := .slice A14 n14 c14) (y := .bool g14) (z := .slice B14 m14 d14) (t := 27) rfl rfl (by rfl) (fun w hb => ?_) V7.out (by rfl) fun ws hk hs => ?_
 ·obtain ⟨ce0, ce1, ce2⟩ := hb.c3; obtain ⟨f0, f1, f2⟩ := hb.f3; go_simp
 intro hbx
 replace S13 := hid ((S13.out.up EY.out).kb V7.out (by rfl) hk hs)
 replace S14 := hid (S14.out.kb V7.out (by rfl) hk hs)
 replace E := hid ((E.out.trans EY.out).keptG hk HGV7.out)
 replace LM := hid ((LM.out.up EY.out).kept hk (by simpa using HNV7LM.out.symm))
 replace V6 := hid ((V6.out.up EY.out).kept hk (by simpa using HNV7V6.out.symm))
 replace V7 := hid hbx
 clear hk hs hbx
 replace EY := hid (Ext.refl ws)
 refine WE.pp 8 (.int .i64 1) ?_
 simp only [Act.put, pA, pB, pC]
 refine WE.done ?_
 go_upto_region 6 with (fail)
 refine wp_region_S [(0, 0), (1, 0), (2, 0), (3, 0), (4, 0)] fun wd hb => ?_
 replace EY := hid (EY.out.trans hb)
 clear hb
 refine WE.pp 34 (.int .i16 kk) ?_
 refine WE.pp 35 (.int .i64 kk) ?_
 refine WE.pp 36 (.int .i64 mm) ?_
 refine WE.pp 37 (.int .i64 q0) ?_
 refine WE.pp 9 (.int .i64 q0) ?_
 simp only [Act.put, pA, pB, pC]
 refine WE.done ?_
 go_upto_region 7 with (fail)
 refine wp_region_S [(0, 0), (1, 0), (2, 0), (3, 0), (4, 0)] fun wd hb => ?_
 replace EY := hid (EY.out.trans hb)
 clear hb
 refine WE.pp 38 (.int .i16 kk) ?_
 refine WE.pp 39 (.int .i64 kk) ?_
 refine WE.pp 40 (.int .i64 mm) ?_
 refine WE.pp 41 (.int .i64 r0) ?_
 refine WE.pp 42 (.bool false) ?_
 simp only [Act.put, pA, pB, pC]
 refine WE.done ?_
 go_upto_region 9 with (fail)
 refine wp_region_S [(0, 1), (1, 0), (2, 1), (3, 0), (4, 0), (5, 1), (6, 0), (7, 1), (8, 4)] fun wd hb => ?_
 replace EY := hid (EY.out.trans hb)
 clear hb
 refine WE.cc 45 ((rOf_z (n := (1)) (by decide) (by decide) _).mono ?_)
 rintro e wn ⟨v1, rfl, x1, hb⟩
 obtain ⟨g15, A15, n15, c15, rfl⟩ := x1.shape
 refine ⟨_, rfl, hb, ?_⟩
 replace EY := hid (EY.out.trans hb)
 have Q15 := hid x1
 clear hb x1
 refine WE.pp 46 (.agg #[.int .i64 (2), .bool g15, .slice A15 n15 c15]) ?_
 simp only [Act.put, pA, pB, pC]
 refine WE.new (d := some 47) (cs := #[.int .i64 (2), .bool g15, .slice A15 n15 c15]) (t := 56) (v := fun g => (.slice (some ⟨g, 0, none⟩) 1 1)) rfl rfl (by rfl) (fun w => by go_simp) fun gLN wv hx0 hbox hge => ?_
 replace EY := hid (EY.out.trans hx0)
 replace Q15 := hid (Q15.out.up hx0)
 have LN : Hid (Box wv gLN #[.int .i64 (2), .bool g15, .slice A15 n15 c15] 56) := hid hbox
 clear hx0 hbox hge
 refine WE.pp 48 (.int .i64 q0) ?_
 refine WE.pp 49 (.int .i64 nl) ?_
 refine WE.cc 50 ((rOf_z (n := nl) (by have := HNL.out; omega) (by have := HNL.out; omega) _).mono ?_)
 rintro e wn ⟨v1, rfl, x1, hb⟩
 obtain ⟨g16, A16, n16, c16, rfl⟩ := x1.shape
 refine ⟨_, rfl, hb, ?_⟩
 replace EY := hid (EY.out.trans hb)
 replace LN := hid (LN.out.up hb)
 replace Q15 := hid (Q15.out.up hb)
 have Q16 := hid x1
 clear hb x1
 refine WE.pp 51 (.agg #[.slice (some ⟨gLN, 0, none⟩) 1 1, .bool g16, .slice A16 n16 c16]) ?_
 simp only [Act.put, pA, pB, pC]
 have S17 := hid (show IsL _ (.agg #[.slice (some ⟨gLN, 0, none⟩) 1 1, .bool g16, .slice A16 n16 c16]) [(2, 1)] nl 3 from ⟨_, _, _, _, _, _, _, rfl, LTm.lit LN.out (Q15.out.wide (by omega)), Q16.out.wide (by omega), ⟨by decide, by decide, trivial⟩⟩)
 refine WE.new (d := some 10) (cs := #[.slice none 0 0, .bool false, .slice none 0 0]) (t := 27) (v := fun g => (.pointer (some ⟨g, 0, none⟩))) rfl rfl (by rfl) (fun w => by go_simp) fun gV10 wv hx0 hbox hge => ?_
 have HNV10LM := hid (show gV10 ≠ gLM by have := (LM.out.up EY.out).lt; omega)
 have HNV10V6 := hid (show gV10 ≠ gV6 by have := (V6.out.up EY.out).lt; omega)
 have HNV10V7 := hid (show gV10 ≠ gV7 by have := (V7.out.up EY.out).lt; omega)
 have HNV10LN := hid (show gV10 ≠ gLN by have := LN.out.lt; omega)
 have HGV10 := hid (show W.heap.size ≤ gV10 by have := (E.out.trans EY.out).size; omega)
 replace EY := hid (EY.out.trans hx0)
 replace LN := hid (LN.out.up hx0)
 replace S17 := hid (S17.out.up hx0)
 have V10 : Hid (Box wv gV10 #[.slice none 0 0, .bool false, .slice none 0 0] 27) := hid hbox
 clear hx0 hbox hge
 simp only [Act.put, pA, pB, pC]
 refine WE.store3 (g := gV10) (x := .slice (some ⟨gLN, 0, none⟩) 1 1) (y := .bool g16) (z := .slice A16 n16 c16) (t := 27) rfl rfl (by rfl) (fun w hb => ?_) V10.out (by rfl) fun ws hk hs => ?_
 ·obtain ⟨ce0, ce1, ce2⟩ := hb.c3; obtain ⟨f0, f1, f2⟩ := hb.f3; go_simp
 intro hbx
 replace S13 := hid ((S13.out.up EY.out).kb V10.out (by rfl) hk hs)
 replace S14 := hid ((S14.out.up EY.out).kb V10.out (by rfl) hk hs)
 replace S17 := hid (S17.out.kb V10.out (by rfl) hk hs)
 replace E := hid ((E.out.trans EY.out).keptG hk HGV10.out)
 replace LM := hid ((LM.out.up EY.out).kept hk (by simpa using HNV10LM.out.symm))
 replace V6 := hid ((V6.out.up EY.out).kept hk (by simpa using HNV10V6.out.symm))
 replace V7 := hid ((V7.out.up EY.out).kept hk (by simpa using HNV10V7.out.symm))
 replace LN := hid (LN.out.kept hk (by simpa using HNV10LN.out.symm))
 replace V10 := hid hbx
 clear hk hs hbx
 replace EY := hid (Ext.refl ws)
 refine WE.done ?_
 go_upto_region 10 with (fail)
 refine wp_region_L [(0, 0), (1, 2), (2, 2), (3, 2), (4, 0), (5, 0), (6, 5), (7, 3), (8, 4), (9, 5)] 27 #[.slice none 0 0, .bool false, .slice none 0 0] fun wd hb => ?_
 replace EY := hid (EY.out.trans hb)
 clear hb
 have HL1LM := hid (LM.out.up EY.out).lt
 have HL1V6 := hid (V6.out.up EY.out).lt
 have HL1V7 := hid (V7.out.up EY.out).lt
 have HL1LN := hid (LN.out.up EY.out).lt
 have HL1V10 := hid (V10.out.up EY.out).lt
 have HW1 := hid (show W.heap.size ≤ wd.heap.size from (E.out.trans EY.out).size)
 refine WE.qq 53 (.agg #[.slice (some ⟨gLM, 0, none⟩) 1 1, .bool g12, .slice A12 n12 c12]) rfl (fun w' hk => by obtain ⟨ce0, ce1, ce2⟩ := ((V6.out.up EY.out).up hk).c3; go_simp) ?_
 simp only [Act.put, pA, pB, pC]
 refine WE.callR (d := some 54) rfl rfl (by rfl) (f := 51) (args := #[(.int .i64 (-1))]) (fun w => by go_simp) (fun wx hx0 => ?_)
 replace EY := hid (EY.out.trans hx0)
 clear hx0
 refine (rOf_z (n := (-1)) (by decide) (by decide) _).mono ?_
 rintro e wn ⟨v1, rfl, x1, hb⟩
 obtain ⟨g18, A18, n18, c18, rfl⟩ := x1.shape
 refine ⟨_, rfl, hb, ?_⟩
 replace EY := hid (EY.out.trans hb)
 have Q18 := hid x1
 clear hb x1
 simp only [Act.put, pA, pB, pC]
 refine WE.callR (d := some 55) rfl rfl (by rfl) (f := 26) (args := #[(.agg #[.slice (some ⟨gLM, 0, none⟩) 1 1, .bool g12, .slice A12 n12 c12]), (.agg #[.bool g18, .slice A18 n18 c18])]) (fun w => by go_simp) (fun wx hx0 => ?_)
 replace EY := hid (EY.out.trans hx0)
 replace Q18 := hid (Q18.out.up hx0)
 clear hx0
 refine (rScaleL_l (WorthL.wide (S13.out.up EY.out).worth (U := 3) (by omega)) (Worth.wide Q18.out.worth (k := 3) (by omega)) (by omega) (Nat.le_trans (Nat.le_refl 1) (by decide))).mono ?_
 rintro e wn ⟨v1, rfl, x1, hb⟩
 obtain ⟨A19, n19, c19, g19, B19, m19, d19, rfl⟩ := x1.shape
 refine ⟨_, rfl, hb, ?_⟩
 replace EY := hid (EY.out.trans hb)
 have S19 := hid x1
 clear hb x1
 simp only [Act.put, pA, pB, pC]
 refine WE.callR (d := some 56) rfl rfl (by rfl) (f := 43) (args := #[(.agg #[.slice A19 n19 c19, .bool g19, .slice B19 m19 d19])]) (fun w => by go_simp) (fun wx hx0 => ?_)
 replace EY := hid (EY.out.trans hx0)
 replace S19 := hid (S19.out.up hx0)
 clear hx0
 refine (normB_to (WorthL.wide S19.out.worth (U := 6) (by omega)) (by omega) (Nat.le_trans (Nat.le_trans (M.scaleT_len _ _) (Nat.le_refl 1)) (by decide)) (s := [(2, -1)]) (μ := q0) (c := 1) (HT2.out) (HK2.out) (M.nC_some (show [((2 : Int), mm * -1)] ≠ [] by simp) _)).mono ?_
 rintro e wn ⟨v1, rfl, x1, hb⟩
 obtain ⟨A20, n20, c20, g20, B20, m20, d20, rfl⟩ := x1.shape
 refine ⟨_, rfl, hb, ?_⟩
 replace EY := hid (EY.out.trans hb)
 have S20 := hid x1
 clear hb x1
 refine WE.pp 52 (.tuple #[(.agg #[.slice A20 n20 c20, .bool g20, .slice B20 m20 d20]), (.int .i64 1)]) ?_
 refine WE.pp 57 (.agg #[.slice A20 n20 c20, .bool g20, .slice B20 m20 d20]) ?_
 refine WE.any (d := some 58) rfl rfl (by rfl) (v := (.int .i64 1)) (fun w' => by go_simp) ?_
 simp only [Act.put, pA, pB, pC]
 refine WE.var (d := some 11) rfl fun gV11 wv hx0 hbox hge hng => ?_
 have HNV11V7 := hid (show gV11 ≠ gV7 by have := HL1V7.out; omega)
 have HNV11V10 := hid (show gV11 ≠ gV10 by have := HL1V10.out; omega)
 have HGV11 := hid (show W.heap.size ≤ gV11 by have := HW1.out; omega)
 replace EY := hid (EY.out.trans hx0)
 replace S20 := hid (S20.out.up hx0)
 have V11 : Hid (Box wv gV11 #[.slice none 0 0, .bool false, .slice none 0 0] 27) := hid hbox
 clear hx0 hbox hge hng
 simp only [Act.put, pA, pB, pC]
 refine WE.store3 (g := gV11) (x := .slice A20 n20 c20) (y := .bool g20) (z := .slice B20 m20 d20) (t := 27) rfl rfl (by rfl) (fun w hb => ?_) V11.out (by rfl) fun ws hk hs => ?_
 ·obtain ⟨ce0, ce1, ce2⟩ := hb.c3; obtain ⟨f0, f1, f2⟩ := hb.f3; go_simp
 intro hbx
 replace S14 := hid ((S14.out.up EY.out).kb V11.out (by rfl) hk hs)
 replace S17 := hid ((S17.out.up EY.out).kb V11.out (by rfl) hk hs)
 replace S20 := hid (S20.out.kb V11.out (by rfl) hk hs)
 replace E := hid ((E.out.trans EY.out).keptG hk HGV11.out)
 replace V7 := hid ((V7.out.up EY.out).kept hk (by simpa using HNV11V7.out.symm))
 replace V10 := hid ((V10.out.up EY.out).kept hk (by simpa using HNV11V10.out.symm))
 replace V11 := hid hbx
 clear hk hs hbx
 replace EY := hid (Ext.refl ws)
 refine WE.any (d := some 12) rfl rfl (by rfl) (v := (.int .i64 1)) (fun w' => by go_simp) ?_
 simp only [Act.put, pA, pB, pC]
 refine WE.done ?_
 go_upto_region 11 with (fail)
 refine wp_region_S [(0, 0), (1, 0), (2, 0), (3, 0), (4, 0)] fun wd hb => ?_
 replace EY := hid (EY.out.trans hb)
 clear hb
 refine WE.pp 59 (.int .i16 kk) ?_
 refine WE.pp 60 (.int .i64 kk) ?_
 refine WE.pp 61 (.int .i64 mm) ?_
 refine WE.pp 62 (.int .i64 q0) ?_
 refine WE.pp 13 (.int .i64 q0) ?_
 simp only [Act.put, pA, pB, pC]
 refine WE.done ?_
 go_upto_region 12 with (fail)
 refine wp_region_S [(0, 0), (1, 0), (2, 0), (3, 0), (4, 0)] fun wd hb => ?_
 replace EY := hid (EY.out.trans hb)
 clear hb
 refine WE.pp 63 (.int .i16 kk) ?_
 refine WE.pp 64 (.int .i64 kk) ?_
 refine WE.pp 65 (.int .i64 mm) ?_
 refine WE.pp 66 (.int .i64 r0) ?_
 refine WE.pp 67 (.bool false) ?_
 simp only [Act.put, pA, pB, pC]
 refine WE.done ?_
 go_upto_region 14 with (fail)
 refine wp_region_S [(0, 1), (1, 0), (2, 1), (3, 0), (4, 1), (5, 0), (6, 1), (7, 4)] fun wd hb => ?_
 replace EY := hid (EY.out.trans hb)
 clear hb
 refine WE.cc 70 ((rOf_z (n := (-1)) (by decide) (by decide) _).mono ?_)
 rintro e wn ⟨v1, rfl, x1, hb⟩
 obtain ⟨g21, A21, n21, c21, rfl⟩ := x1.shape
 refine ⟨_, rfl, hb, ?_⟩
 replace EY := hid (EY.out.trans hb)
 have Q21 := hid x1
 clear hb x1
 refine WE.pp 71 (.agg #[.int .i64 (2), .bool g21, .slice A21 n21 c21]) ?_
 simp only [Act.put, pA, pB, pC]
 refine WE.new (d := some 72) (cs := #[.int .i64 (2), .bool g21, .slice A21 n21 c21]) (t := 56) (v := fun g => (.slice (some ⟨g, 0, none⟩) 1 1)) rfl rfl (by rfl) (fun w => by go_simp) fun gLP wv hx0 hbox hge => ?_
 replace EY := hid (EY.out.trans hx0)
 replace Q21 := hid (Q21.out.up hx0)
 have LP : Hid (Box wv gLP #[.int .i64 (2), .bool g21, .slice A21 n21 c21] 56) := hid hbox
 clear hx0 hbox hge
 refine WE.pp 73 (.int .i64 q0) ?_
 refine WE.cc 74 ((rOf_z (n := q0) (by have := HHI.out; omega) (by have := HHI.out; omega) _).mono ?_)
 rintro e wn ⟨v1, rfl, x1, hb⟩
 obtain ⟨g22, A22, n22, c22, rfl⟩ := x1.shape
 refine ⟨_, rfl, hb, ?_⟩
 replace EY := hid (EY.out.trans hb)
 replace LP := hid (LP.out.up hb)
 replace Q21 := hid (Q21.out.up hb)
 have Q22 := hid x1
 clear hb x1
 refine WE.pp 75 (.agg #[.slice (some ⟨gLP, 0, none⟩) 1 1, .bool g22, .slice A22 n22 c22]) ?_
 simp only [Act.put, pA, pB, pC]
 have S23 := hid (show IsL _ (.agg #[.slice (some ⟨gLP, 0, none⟩) 1 1, .bool g22, .slice A22 n22 c22]) [(2, -1)] q0 3 from ⟨_, _, _, _, _, _, _, rfl, LTm.lit LP.out (Q21.out.wide (by omega)), Q22.out.wide (by omega), ⟨by decide, by decide, trivial⟩⟩)
 refine WE.new (d := some 14) (cs := #[.slice none 0 0, .bool false, .slice none 0 0]) (t := 27) (v := fun g => (.pointer (some ⟨g, 0, none⟩))) rfl rfl (by rfl) (fun w => by go_simp) fun gV14 wv hx0 hbox hge => ?_
 have HNV14V7 := hid (show gV14 ≠ gV7 by have := (V7.out.up EY.out).lt; omega)
 have HNV14V10 := hid (show gV14 ≠ gV10 by have := (V10.out.up EY.out).lt; omega)
 have HNV14V11 := hid (show gV14 ≠ gV11 by have := (V11.out.up EY.out).lt; omega)
 have HGV14 := hid (show W.heap.size ≤ gV14 by have := (E.out.trans EY.out).size; omega)
 replace EY := hid (EY.out.trans hx0)
 replace S23 := hid (S23.out.up hx0)
 have V14 : Hid (Box wv gV14 #[.slice none 0 0, .bool false, .slice none 0 0] 27) := hid hbox
 clear hx0 hbox hge
 simp only [Act.put, pA, pB, pC]
 refine WE.store3 (g := gV14) (x := .slice (some ⟨gLP, 0, none⟩) 1 1) (y := .bool g22) (z := .slice A22 n22 c22) (t := 27) rfl rfl (by rfl) (fun w hb => ?_) V14.out (by rfl) fun ws hk hs => ?_
 ·obtain ⟨ce0, ce1, ce2⟩ := hb.c3; obtain ⟨f0, f1, f2⟩ := hb.f3; go_simp
 intro hbx
 replace S14 := hid ((S14.out.up EY.out).kb V14.out (by rfl) hk hs)
 replace S17 := hid ((S17.out.up EY.out).kb V14.out (by rfl) hk hs)
 replace S20 := hid ((S20.out.up EY.out).kb V14.out (by rfl) hk hs)
 replace S23 := hid (S23.out.kb V14.out (by rfl) hk hs)
 replace E := hid ((E.out.trans EY.out).keptG hk HGV14.out)
 replace V7 := hid ((V7.out.up EY.out).kept hk (by simpa using HNV14V7.out.symm))
 replace V10 := hid ((V10.out.up EY.out).kept hk (by simpa using HNV14V10.out.symm))
 replace V11 := hid ((V11.out.up EY.out).kept hk (by simpa using HNV14V11.out.symm))
 replace V14 := hid hbx
 clear hk hs hbx
 replace EY := hid (Ext.refl ws)
 refine WE.done ?_
 go_upto_region 15 with (fail)
 refine wp_region_S [(0, 0), (1, 0), (2, 0), (3, 0), (4, 0), (5, 1), (6, 0), (7, 0), (8, 0), (9, 0), (10, 1), (11, 0), (12, 0)] fun wd hb => ?_
 replace EY := hid (EY.out.trans hb)
 clear hb
 refine WE.pp 76 (.int .i64 1) ?_
 refine WE.pp 77 (.bool true) ?_
 refine WE.pp 78 (.bool true) ?_
 refine WE.qq 79 (.agg #[.slice A14 n14 c14, .bool g14, .slice B14 m14 d14]) rfl (fun w' hk => by obtain ⟨ce0, ce1, ce2⟩ := ((V7.out.up EY.out).up hk).c3; go_simp) ?_
 refine WE.qq 80 (.agg #[.slice (some ⟨gLN, 0, none⟩) 1 1, .bool g16, .slice A16 n16 c16]) rfl (fun w' hk => by obtain ⟨ce0, ce1, ce2⟩ := ((V10.out.up EY.out).up hk).c3; go_simp) ?_
 refine WE.cc 81 ((rEqualL_l (S14.out.up EY.out) (S17.out.up EY.out) (b := true) (decide_eq_true ⟨rfl, rfl⟩)).mono ?_)
 rintro e wn ⟨rfl, hb⟩
 refine ⟨_, rfl, hb, ?_⟩
 replace EY := hid (EY.out.trans hb)
 clear hb
 simp only [Act.put, pA, pB, pC]
 refine WE.pp 82 (.bool true) ?_
 refine WE.pp 83 (.bool true) ?_
 refine WE.qq 84 (.agg #[.slice A20 n20 c20, .bool g20, .slice B20 m20 d20]) rfl (fun w' hk => by obtain ⟨ce0, ce1, ce2⟩ := ((V11.out.up EY.out).up hk).c3; go_simp) ?_
 refine WE.qq 85 (.agg #[.slice (some ⟨gLP, 0, none⟩) 1 1, .bool g22, .slice A22 n22 c22]) rfl (fun w' hk => by obtain ⟨ce0, ce1, ce2⟩ := ((V14.out.up EY.out).up hk).c3; go_simp) ?_
 refine WE.cc 86 ((rEqualL_l (S20.out.up EY.out) (S23.out.up EY.out) (b := true) (decide_eq_true ⟨rfl, rfl⟩)).mono ?_)
 rintro e wn ⟨rfl, hb⟩
 refine ⟨_, rfl, hb, ?_⟩
 replace EY := hid (EY.out.trans hb)
 clear hb
 refine WE.pp 87 (.bool true) ?_
 simp only [Act.put, pA, pB, pC]
 refine WE.pp 4 (.bool true) ?_
 simp only [Act.put, pA, pB, pC]
 refine WE.done ?_
 repeat go_step
 go_ret
 exact ⟨rfl, (E.out.trans EY.out)⟩

set_option maxRecDepth 100000 in
set_option maxHeartbeats 8000000 in
theorem belowRounds_pos (W : World) (cc : Int) (hc : 0 ≤ cc ∧ cc ≤ 255) (kk : Int) (hk : -32768 ≤ kk ∧ kk ≤ 32767) (hw : Hid (0 < kk.tmod (cc + 1))) :
 Calls Tryz.prog 7 #[.int .u8 cc, .int .i16 kk] W (fun e w' => e = .returned (.bool true) ∧ Ext W w') := by
 have hway := hw.out
 have hkl := hk.1
 have hku := hk.2
 have hcl := hc.1
 have hcu := hc.2
 obtain ⟨mm, hmm⟩ : ∃ m : Int, cc + 1 = m := ⟨_, rfl⟩
 obtain ⟨nk, hnk⟩ : ∃ m : Int, -kk = m := ⟨_, rfl⟩
 rw [hmm] at hway
 obtain ⟨q0, hq0⟩ : ∃ q : Int, kk.tdiv mm = q := ⟨_, rfl⟩
 obtain ⟨r0, hr0⟩ : ∃ r : Int, kk.tmod mm = r := ⟨_, rfl⟩
 rw [hr0] at hway
 have hm1 : 0 < mm := by omega
 have hm2 : mm ≤ 256 := by omega
 have hm0 : ¬ mm = 0 := by omega
 obtain ⟨pp, hpp⟩ : ∃ p : Int, mm * q0 = p := ⟨_, rfl⟩
 have heq : pp + r0 = kk := by rw [← hpp, ← hq0, ← hr0]; exact Int.mul_tdiv_add_tmod kk mm
 have hr1 : -mm < r0 := by rw [← hr0]; have := Int.lt_tmod_of_pos kk hm1; omega
 have hr2 : r0 < mm := by rw [← hr0]; exact Int.tmod_lt_of_pos kk hm1
 have hqb : -40000 ≤ q0 ∧ q0 ≤ 40000 := by
  have h := Int.natAbs_tdiv_le_natAbs kk mm
  rw [hq0] at h; omega
 obtain ⟨hi, hhi⟩ : ∃ l : Int, q0 + 1 = l := ⟨_, rfl⟩
 obtain ⟨nl, hnl⟩ : ∃ l : Int, -q0 = l := ⟨_, rfl⟩
 have HT1 := hid (M.nT_one 2 hm1)
 have HT2 := hid (M.nT_neg 2 hm1)
 have HK1 := hid (show M.nK [(2, mm)] nk = nl by unfold M.nK; rw [M.cm_one, show ((mm.natAbs : Nat) : Int) = mm by omega, show -nk = kk by omega, show kk.fdiv mm = q0 from M.floor_of (s := r0) hm1 (by rw [hpp]; omega) (by omega) hr2]; exact hnl)
 have HK2 := hid (show M.nK (M.scaleT [(2, mm)] (-1)) (nk * -1) = hi by unfold M.nK; rw [show M.scaleT [(2, mm)] (-1) = [(2, mm * -1)] from rfl, M.cm_one, show (((mm * -1).natAbs : Nat) : Int) = mm by omega, show -(nk * -1) = -kk by omega, show (-kk).fdiv mm = -hi from M.floor_of (lo := -hi) (s := mm - r0) hm1 (by rw [← hhi, Int.mul_neg, Int.mul_add, hpp]; omega) (by omega) (by omega)]; omega)
 have HMM := hid (show 0 < mm ∧ mm ≤ 256 from ⟨hm1, hm2⟩)
 have HNK := hid (show -40000 ≤ nk ∧ nk ≤ 40000 by omega)
 have HNL := hid (show -40010 ≤ nl ∧ nl ≤ 40010 by omega)
 have HHI := hid (show -40010 ≤ hi ∧ hi ≤ 40010 by omega)
 have hw_cc : IntKind.i64.wrap cc = cc := by rw [IntKind.wrap_i64]; omega
 have hw_kk : IntKind.i64.wrap kk = kk := by rw [IntKind.wrap_i64]; omega
 have hw_mm : IntKind.i64.wrap mm = mm := by rw [IntKind.wrap_i64]; omega
 have hw_nk : IntKind.i64.wrap nk = nk := by rw [IntKind.wrap_i64]; omega
 have hw_q0 : IntKind.i64.wrap q0 = q0 := by rw [IntKind.wrap_i64]; omega
 have hw_r0 : IntKind.i64.wrap r0 = r0 := by rw [IntKind.wrap_i64]; omega
 have hw_nl : IntKind.i64.wrap nl = nl := by rw [IntKind.wrap_i64]; omega
 have hw_hi : IntKind.i64.wrap hi = hi := by rw [IntKind.wrap_i64]; omega
 have hrn : decide (r0 < 0) = false := decide_eq_false (by omega)
 have hrp : decide (0 < r0) = true := decide_eq_true (by omega)
 clear hway hkl hku hcl hcu hm1 hm2 hpp heq hr1 hr2 hqb hc hk
 go_enter Tryz.func7, Tryz.ntmps7
 go_upto_region 1 with (fail)
 have E := hid (Ext.refl W)
 refine wp_region_S [(0, 1), (1, 0)] fun wd hb => ?_
 replace E := hid (E.out.trans hb)
 clear hb
 have EY := hid (Ext.refl wd)
 refine WE.cc 15 ((known7 _).mono ?_)
 rintro e wn ⟨rfl, hb⟩
 refine ⟨_, rfl, hb, ?_⟩
 replace EY := hid (EY.out.trans hb)
 clear hb
 refine WE.pp 16 (.bool false) ?_
 simp only [Act.put, pA, pB, pC]
 refine WE.done ?_
 go_upto_region 3 with (fail)
 refine wp_region_S [(0, 0), (1, 0), (2, 0), (3, 0)] fun wd hb => ?_
 replace EY := hid (EY.out.trans hb)
 clear hb
 refine WE.pp 17 (.int .u8 cc) ?_
 refine WE.pp 18 (.int .i64 cc) ?_
 refine WE.pp 19 (.int .i64 mm) ?_
 refine WE.pp 5 (.int .i64 mm) ?_
 simp only [Act.put, pA, pB, pC]
 refine WE.done ?_
 go_upto_region 4 with (fail)
 refine wp_region_S [(0, 0), (1, 1), (2, 0), (3, 1), (4, 0), (5, 0), (6, 0), (7, 1), (8, 0), (9, 1), (10, 4)] fun wd hb => ?_
 replace EY := hid (EY.out.trans hb)
 clear hb
 refine WE.pp 20 (.int .i64 mm) ?_
 refine WE.cc 21 ((rOf_z (n := mm) (by have := HMM.out; omega) (by have := HMM.out; omega) _).mono ?_)
 rintro e wn ⟨v1, rfl, x1, hb⟩
 obtain ⟨g11, A11, n11, c11, rfl⟩ := x1.shape
 refine ⟨_, rfl, hb, ?_⟩
 replace EY := hid (EY.out.trans hb)
 have Q11 := hid x1
 clear hb x1
 refine WE.pp 22 (.agg #[.int .i64 (2), .bool g11, .slice A11 n11 c11]) ?_
 simp only [Act.put, pA, pB, pC]
 refine WE.new (d := some 23) (cs := #[.int .i64 (2), .bool g11, .slice A11 n11 c11]) (t := 56) (v := fun g => (.slice (some ⟨g, 0, none⟩) 1 1)) rfl rfl (by rfl) (fun w => by go_simp) fun gLM wv hx0 hbox hge => ?_
 replace EY := hid (EY.out.trans hx0)
 replace Q11 := hid (Q11.out.up hx0)
 have LM : Hid (Box wv gLM #[.int .i64 (2), .bool g11, .slice A11 n11 c11] 56) := hid hbox
 clear hx0 hbox hge
 refine WE.pp 24 (.int .i16 kk) ?_
 refine WE.pp 25 (.int .i64 kk) ?_
 refine WE.pp 26 (.int .i64 nk) ?_
 refine WE.cc 27 ((rOf_z (n := nk) (by have := HNK.out; omega) (by have := HNK.out; omega) _).mono ?_)
 rintro e wn ⟨v1, rfl, x1, hb⟩
 obtain ⟨g12, A12, n12, c12, rfl⟩ := x1.shape
 refine ⟨_, rfl, hb, ?_⟩
 replace EY := hid (EY.out.trans hb)
 replace LM := hid (LM.out.up hb)
 replace Q11 := hid (Q11.out.up hb)
 have Q12 := hid x1
 clear hb x1
 refine WE.pp 28 (.agg #[.slice (some ⟨gLM, 0, none⟩) 1 1, .bool g12, .slice A12 n12 c12]) ?_
 simp only [Act.put, pA, pB, pC]
 have S13 := hid (show IsL _ (.agg #[.slice (some ⟨gLM, 0, none⟩) 1 1, .bool g12, .slice A12 n12 c12]) [(2, mm)] nk 3 from ⟨_, _, _, _, _, _, _, rfl, LTm.lit LM.out (Q11.out.wide (by omega)), Q12.out.wide (by omega), ⟨by decide, by show mm ≠ 0; have := HMM.out; omega, trivial⟩⟩)
 refine WE.new (d := some 6) (cs := #[.slice none 0 0, .bool false, .slice none 0 0]) (t := 27) (v := fun g => (.pointer (some ⟨g, 0, none⟩))) rfl rfl (by rfl) (fun w => by go_simp) fun gV6 wv hx0 hbox hge => ?_
 have HNV6LM := hid (show gV6 ≠ gLM by have := LM.out.lt; omega)
 have HGV6 := hid (show W.heap.size ≤ gV6 by have := (E.out.trans EY.out).size; omega)
 replace EY := hid (EY.out.trans hx0)
 replace LM := hid (LM.out.up hx0)
 replace S13 := hid (S13.out.up hx0)
 have V6 : Hid (Box wv gV6 #[.slice none 0 0, .bool false, .slice none 0 0] 27) := hid hbox
 clear hx0 hbox hge
 simp only [Act.put, pA, pB, pC]
 refine WE.store3 (g := gV6) (x := .slice (some ⟨gLM, 0, none⟩) 1 1) (y := .bool g12) (z := .slice A12 n12 c12) (t := 27) rfl rfl (by rfl) (fun w hb => ?_) V6.out (by rfl) fun ws hk hs => ?_
 ·obtain ⟨ce0, ce1, ce2⟩ := hb.c3; obtain ⟨f0, f1, f2⟩ := hb.f3; go_simp
 intro hbx
 replace S13 := hid (S13.out.kb V6.out (by rfl) hk hs)
 replace E := hid ((E.out.trans EY.out).keptG hk HGV6.out)
 replace LM := hid (LM.out.kept hk (by simpa using HNV6LM.out.symm))
 replace V6 := hid hbx
 clear hk hs hbx
 replace EY := hid (Ext.refl ws)
 refine WE.done ?_
 go_upto_region 5 with (fail)
 refine wp_region_S [(0, 0), (1, 1), (2, 0), (3, 0), (4, 0), (5, 1), (6, 4), (7, 0)] fun wd hb => ?_
 replace EY := hid (EY.out.trans hb)
 clear hb
 refine WE.qq 30 (.agg #[.slice (some ⟨gLM, 0, none⟩) 1 1, .bool g12, .slice A12 n12 c12]) rfl (fun w' hk => by obtain ⟨ce0, ce1, ce2⟩ := ((V6.out.up EY.out).up hk).c3; go_simp) ?_
 refine WE.cc 31 ((normB_to (WorthL.wide (S13.out.up EY.out).worth (U := 3) (by omega)) (by omega) (Nat.le_trans (Nat.le_refl 1) (by decide)) (s := [(2, 1)]) (μ := nl) (c := 1) (HT1.out) (HK1.out) (M.nC_some (by simp) _)).mono ?_)
 rintro e wn ⟨v1, rfl, x1, hb⟩
 obtain ⟨A14, n14, c14, g14, B14, m14, d14, rfl⟩ := x1.shape
 refine ⟨_, rfl, hb, ?_⟩
 replace EY := hid (EY.out.trans hb)
 have S14 := hid x1
 clear hb x1
 refine WE.pp 29 (.tuple #[(.agg #[.slice A14 n14 c14, .bool g14, .slice B14 m14 d14]), (.int .i64 1)]) ?_
 refine WE.pp 32 (.agg #[.slice A14 n14 c14, .bool g14, .slice B14 m14 d14]) ?_
 refine WE.pp 33 (.int .i64 1) ?_
 simp only [Act.put, pA, pB, pC]
 refine WE.new (d := some 7) (cs := #[.slice none 0 0, .bool false, .slice none 0 0]) (t := 27) (v := fun g => (.pointer (some ⟨g, 0, none⟩))) rfl rfl (by rfl) (fun w => by go_simp) fun gV7 wv hx0 hbox hge => ?_
 have HNV7LM := hid (show gV7 ≠ gLM by have := (LM.out.up EY.out).lt; omega)
 have HNV7V6 := hid (show gV7 ≠ gV6 by have := (V6.out.up EY.out).lt; omega)
 have HGV7 := hid (show W.heap.size ≤ gV7 by have := (E.out.trans EY.out).size; omega)
 replace EY := hid (EY.out.trans hx0)
 replace S14 := hid (S14.out.up hx0)
 have V7 : Hid (Box wv gV7 #[.slice none 0 0, .bool false, .slice none 0 0] 27) := hid hbox
 clear hx0 hbox hge
 simp only [Act.put, pA, pB, pC]
 refine WE.store3 (g := gV7) (x := .slice A14 n14 c14) (y := .bool g14) (z := .slice B14 m14 d14) (t := 27) rfl rfl (by rfl) (fun w hb => ?_) V7.out (by rfl) fun ws hk hs => ?_
 ·obtain ⟨ce0, ce1, ce2⟩ := hb.c3; obtain ⟨f0, f1, f2⟩ := hb.f3; go_simp
 intro hbx
 replace S13 := hid ((S13.out.up EY.out).kb V7.out (by rfl) hk hs)
 replace S14 := hid (S14.out.kb V7.out (by rfl) hk hs)
 replace E := hid ((E.out.trans EY.out).keptG hk HGV7.out)
 replace LM := hid ((LM.out.up EY.out).kept hk (by simpa using HNV7LM.out.symm))
 replace V6 := hid ((V6.out.up EY.out).kept hk (by simpa using HNV7V6.out.symm))
 replace V7 := hid hbx
 clear hk hs hbx
 replace EY := hid (Ext.refl ws)
 refine WE.pp 8 (.int .i64 1) ?_
 simp only [Act.put, pA, pB, pC]
 refine WE.done ?_
 go_upto_region 6 with (fail)
 refine wp_region_S [(0, 0), (1, 0), (2, 0), (3, 0), (4, 0)] fun wd hb => ?_
 replace EY := hid (EY.out.trans hb)
 clear hb
 refine WE.pp 34 (.int .i16 kk) ?_
 refine WE.pp 35 (.int .i64 kk) ?_
 refine WE.pp 36 (.int .i64 mm) ?_
 refine WE.pp 37 (.int .i64 q0) ?_
 refine WE.pp 9 (.int .i64 q0) ?_
 simp only [Act.put, pA, pB, pC]
 refine WE.done ?_
 go_upto_region 7 with (fail)
 refine wp_region_S [(0, 0), (1, 0), (2, 0), (3, 0), (4, 0)] fun wd hb => ?_
 replace EY := hid (EY.out.trans hb)
 clear hb
 refine WE.pp 38 (.int .i16 kk) ?_
 refine WE.pp 39 (.int .i64 kk) ?_
 refine WE.pp 40 (.int .i64 mm) ?_
 refine WE.pp 41 (.int .i64 r0) ?_
 refine WE.pp 42 (.bool false) ?_
 simp only [Act.put, pA, pB, pC]
 refine WE.done ?_
 go_upto_region 9 with (fail)
 refine wp_region_S [(0, 1), (1, 0), (2, 1), (3, 0), (4, 0), (5, 1), (6, 0), (7, 1), (8, 4)] fun wd hb => ?_
 replace EY := hid (EY.out.trans hb)
 clear hb
 refine WE.cc 45 ((rOf_z (n := (1)) (by decide) (by decide) _).mono ?_)
 rintro e wn ⟨v1, rfl, x1, hb⟩
 obtain ⟨g15, A15, n15, c15, rfl⟩ := x1.shape
 refine ⟨_, rfl, hb, ?_⟩
 replace EY := hid (EY.out.trans hb)
 have Q15 := hid x1
 clear hb x1
 refine WE.pp 46 (.agg #[.int .i64 (2), .bool g15, .slice A15 n15 c15]) ?_
 simp only [Act.put, pA, pB, pC]
 refine WE.new (d := some 47) (cs := #[.int .i64 (2), .bool g15, .slice A15 n15 c15]) (t := 56) (v := fun g => (.slice (some ⟨g, 0, none⟩) 1 1)) rfl rfl (by rfl) (fun w => by go_simp) fun gLN wv hx0 hbox hge => ?_
 replace EY := hid (EY.out.trans hx0)
 replace Q15 := hid (Q15.out.up hx0)
 have LN : Hid (Box wv gLN #[.int .i64 (2), .bool g15, .slice A15 n15 c15] 56) := hid hbox
 clear hx0 hbox hge
 refine WE.pp 48 (.int .i64 q0) ?_
 refine WE.pp 49 (.int .i64 nl) ?_
 refine WE.cc 50 ((rOf_z (n := nl) (by have := HNL.out; omega) (by have := HNL.out; omega) _).mono ?_)
 rintro e wn ⟨v1, rfl, x1, hb⟩
 obtain ⟨g16, A16, n16, c16, rfl⟩ := x1.shape
 refine ⟨_, rfl, hb, ?_⟩
 replace EY := hid (EY.out.trans hb)
 replace LN := hid (LN.out.up hb)
 replace Q15 := hid (Q15.out.up hb)
 have Q16 := hid x1
 clear hb x1
 refine WE.pp 51 (.agg #[.slice (some ⟨gLN, 0, none⟩) 1 1, .bool g16, .slice A16 n16 c16]) ?_
 simp only [Act.put, pA, pB, pC]
 have S17 := hid (show IsL _ (.agg #[.slice (some ⟨gLN, 0, none⟩) 1 1, .bool g16, .slice A16 n16 c16]) [(2, 1)] nl 3 from ⟨_, _, _, _, _, _, _, rfl, LTm.lit LN.out (Q15.out.wide (by omega)), Q16.out.wide (by omega), ⟨by decide, by decide, trivial⟩⟩)
 refine WE.new (d := some 10) (cs := #[.slice none 0 0, .bool false, .slice none 0 0]) (t := 27) (v := fun g => (.pointer (some ⟨g, 0, none⟩))) rfl rfl (by rfl) (fun w => by go_simp) fun gV10 wv hx0 hbox hge => ?_
 have HNV10LM := hid (show gV10 ≠ gLM by have := (LM.out.up EY.out).lt; omega)
 have HNV10V6 := hid (show gV10 ≠ gV6 by have := (V6.out.up EY.out).lt; omega)
 have HNV10V7 := hid (show gV10 ≠ gV7 by have := (V7.out.up EY.out).lt; omega)
 have HNV10LN := hid (show gV10 ≠ gLN by have := LN.out.lt; omega)
 have HGV10 := hid (show W.heap.size ≤ gV10 by have := (E.out.trans EY.out).size; omega)
 replace EY := hid (EY.out.trans hx0)
 replace LN := hid (LN.out.up hx0)
 replace S17 := hid (S17.out.up hx0)
 have V10 : Hid (Box wv gV10 #[.slice none 0 0, .bool false, .slice none 0 0] 27) := hid hbox
 clear hx0 hbox hge
 simp only [Act.put, pA, pB, pC]
 refine WE.store3 (g := gV10) (x := .slice (some ⟨gLN, 0, none⟩) 1 1) (y := .bool g16) (z := .slice A16 n16 c16) (t := 27) rfl rfl (by rfl) (fun w hb => ?_) V10.out (by rfl) fun ws hk hs => ?_
 ·obtain ⟨ce0, ce1, ce2⟩ := hb.c3; obtain ⟨f0, f1, f2⟩ := hb.f3; go_simp
 intro hbx
 replace S13 := hid ((S13.out.up EY.out).kb V10.out (by rfl) hk hs)
 replace S14 := hid ((S14.out.up EY.out).kb V10.out (by rfl) hk hs)
 replace S17 := hid (S17.out.kb V10.out (by rfl) hk hs)
 replace E := hid ((E.out.trans EY.out).keptG hk HGV10.out)
 replace LM := hid ((LM.out.up EY.out).kept hk (by simpa using HNV10LM.out.symm))
 replace V6 := hid ((V6.out.up EY.out).kept hk (by simpa using HNV10V6.out.symm))
 replace V7 := hid ((V7.out.up EY.out).kept hk (by simpa using HNV10V7.out.symm))
 replace LN := hid (LN.out.kept hk (by simpa using HNV10LN.out.symm))
 replace V10 := hid hbx
 clear hk hs hbx
 replace EY := hid (Ext.refl ws)
 refine WE.done ?_
 go_upto_region 10 with (fail)
 refine wp_region_L [(0, 0), (1, 2), (2, 2), (3, 2), (4, 0), (5, 0), (6, 5), (7, 3), (8, 4), (9, 5)] 27 #[.slice none 0 0, .bool false, .slice none 0 0] fun wd hb => ?_
 replace EY := hid (EY.out.trans hb)
 clear hb
 have HL1LM := hid (LM.out.up EY.out).lt
 have HL1V6 := hid (V6.out.up EY.out).lt
 have HL1V7 := hid (V7.out.up EY.out).lt
 have HL1LN := hid (LN.out.up EY.out).lt
 have HL1V10 := hid (V10.out.up EY.out).lt
 have HW1 := hid (show W.heap.size ≤ wd.heap.size from (E.out.trans EY.out).size)
 refine WE.qq 53 (.agg #[.slice (some ⟨gLM, 0, none⟩) 1 1, .bool g12, .slice A12 n12 c12]) rfl (fun w' hk => by obtain ⟨ce0, ce1, ce2⟩ := ((V6.out.up EY.out).up hk).c3; go_simp) ?_
 simp only [Act.put, pA, pB, pC]
 refine WE.callR (d := some 54) rfl rfl (by rfl) (f := 51) (args := #[(.int .i64 (-1))]) (fun w => by go_simp) (fun wx hx0 => ?_)
 replace EY := hid (EY.out.trans hx0)
 clear hx0
 refine (rOf_z (n := (-1)) (by decide) (by decide) _).mono ?_
 rintro e wn ⟨v1, rfl, x1, hb⟩
 obtain ⟨g18, A18, n18, c18, rfl⟩ := x1.shape
 refine ⟨_, rfl, hb, ?_⟩
 replace EY := hid (EY.out.trans hb)
 have Q18 := hid x1
 clear hb x1
 simp only [Act.put, pA, pB, pC]
 refine WE.callR (d := some 55) rfl rfl (by rfl) (f := 26) (args := #[(.agg #[.slice (some ⟨gLM, 0, none⟩) 1 1, .bool g12, .slice A12 n12 c12]), (.agg #[.bool g18, .slice A18 n18 c18])]) (fun w => by go_simp) (fun wx hx0 => ?_)
 replace EY := hid (EY.out.trans hx0)
 replace Q18 := hid (Q18.out.up hx0)
 clear hx0
 refine (rScaleL_l (WorthL.wide (S13.out.up EY.out).worth (U := 3) (by omega)) (Worth.wide Q18.out.worth (k := 3) (by omega)) (by omega) (Nat.le_trans (Nat.le_refl 1) (by decide))).mono ?_
 rintro e wn ⟨v1, rfl, x1, hb⟩
 obtain ⟨A19, n19, c19, g19, B19, m19, d19, rfl⟩ := x1.shape
 refine ⟨_, rfl, hb, ?_⟩
 replace EY := hid (EY.out.trans hb)
 have S19 := hid x1
 clear hb x1
 simp only [Act.put, pA, pB, pC]
 refine WE.callR (d := some 56) rfl rfl (by rfl) (f := 43) (args := #[(.agg #[.slice A19 n19 c19, .bool g19, .slice B19 m19 d19])]) (fun w => by go_simp) (fun wx hx0 => ?_)
 replace EY := hid (EY.out.trans hx0)
 replace S19 := hid (S19.out.up hx0)
 clear hx0
 refine (normB_to (WorthL.wide S19.out.worth (U := 6) (by omega)) (by omega) (Nat.le_trans (Nat.le_trans (M.scaleT_len _ _) (Nat.le_refl 1)) (by decide)) (s := [(2, -1)]) (μ := hi) (c := 1) (HT2.out) (HK2.out) (M.nC_some (show [((2 : Int), mm * -1)] ≠ [] by simp) _)).mono ?_
 rintro e wn ⟨v1, rfl, x1, hb⟩
 obtain ⟨A20, n20, c20, g20, B20, m20, d20, rfl⟩ := x1.shape
 refine ⟨_, rfl, hb, ?_⟩
 replace EY := hid (EY.out.trans hb)
 have S20 := hid x1
 clear hb x1
 refine WE.pp 52 (.tuple #[(.agg #[.slice A20 n20 c20, .bool g20, .slice B20 m20 d20]), (.int .i64 1)]) ?_
 refine WE.pp 57 (.agg #[.slice A20 n20 c20, .bool g20, .slice B20 m20 d20]) ?_
 refine WE.any (d := some 58) rfl rfl (by rfl) (v := (.int .i64 1)) (fun w' => by go_simp) ?_
 simp only [Act.put, pA, pB, pC]
 refine WE.var (d := some 11) rfl fun gV11 wv hx0 hbox hge hng => ?_
 have HNV11V7 := hid (show gV11 ≠ gV7 by have := HL1V7.out; omega)
 have HNV11V10 := hid (show gV11 ≠ gV10 by have := HL1V10.out; omega)
 have HGV11 := hid (show W.heap.size ≤ gV11 by have := HW1.out; omega)
 replace EY := hid (EY.out.trans hx0)
 replace S20 := hid (S20.out.up hx0)
 have V11 : Hid (Box wv gV11 #[.slice none 0 0, .bool false, .slice none 0 0] 27) := hid hbox
 clear hx0 hbox hge hng
 simp only [Act.put, pA, pB, pC]
 refine WE.store3 (g := gV11) (x := .slice A20 n20 c20) (y := .bool g20) (z := .slice B20 m20 d20) (t := 27) rfl rfl (by rfl) (fun w hb => ?_) V11.out (by rfl) fun ws hk hs => ?_
 ·obtain ⟨ce0, ce1, ce2⟩ := hb.c3; obtain ⟨f0, f1, f2⟩ := hb.f3; go_simp
 intro hbx
 replace S14 := hid ((S14.out.up EY.out).kb V11.out (by rfl) hk hs)
 replace S17 := hid ((S17.out.up EY.out).kb V11.out (by rfl) hk hs)
 replace S20 := hid (S20.out.kb V11.out (by rfl) hk hs)
 replace E := hid ((E.out.trans EY.out).keptG hk HGV11.out)
 replace V7 := hid ((V7.out.up EY.out).kept hk (by simpa using HNV11V7.out.symm))
 replace V10 := hid ((V10.out.up EY.out).kept hk (by simpa using HNV11V10.out.symm))
 replace V11 := hid hbx
 clear hk hs hbx
 replace EY := hid (Ext.refl ws)
 refine WE.any (d := some 12) rfl rfl (by rfl) (v := (.int .i64 1)) (fun w' => by go_simp) ?_
 simp only [Act.put, pA, pB, pC]
 refine WE.done ?_
 go_upto_region 11 with (fail)
 refine wp_region_S [(0, 0), (1, 0), (2, 0), (3, 0), (4, 0)] fun wd hb => ?_
 replace EY := hid (EY.out.trans hb)
 clear hb
 refine WE.pp 59 (.int .i16 kk) ?_
 refine WE.pp 60 (.int .i64 kk) ?_
 refine WE.pp 61 (.int .i64 mm) ?_
 refine WE.pp 62 (.int .i64 q0) ?_
 refine WE.pp 13 (.int .i64 q0) ?_
 simp only [Act.put, pA, pB, pC]
 refine WE.done ?_
 go_upto_region 12 with (fail)
 refine wp_region_S [(0, 0), (1, 0), (2, 0), (3, 0), (4, 0)] fun wd hb => ?_
 replace EY := hid (EY.out.trans hb)
 clear hb
 refine WE.pp 63 (.int .i16 kk) ?_
 refine WE.pp 64 (.int .i64 kk) ?_
 refine WE.pp 65 (.int .i64 mm) ?_
 refine WE.pp 66 (.int .i64 r0) ?_
 refine WE.pp 67 (.bool true) ?_
 simp only [Act.put, pA, pB, pC]
 refine WE.done ?_
 go_upto_region 13 with (fail)
 refine wp_region_S [(0, 0), (1, 0), (2, 0)] fun wd hb => ?_
 replace EY := hid (EY.out.trans hb)
 clear hb
 refine WE.pp 68 (.int .i64 q0) ?_
 refine WE.pp 69 (.int .i64 hi) ?_
 refine WE.pp 13 (.int .i64 hi) ?_
 simp only [Act.put, pA, pB, pC]
 refine WE.done ?_
 go_upto_region 14 with (fail)
 refine wp_region_S [(0, 1), (1, 0), (2, 1), (3, 0), (4, 1), (5, 0), (6, 1), (7, 4)] fun wd hb => ?_
 replace EY := hid (EY.out.trans hb)
 clear hb
 refine WE.cc 70 ((rOf_z (n := (-1)) (by decide) (by decide) _).mono ?_)
 rintro e wn ⟨v1, rfl, x1, hb⟩
 obtain ⟨g21, A21, n21, c21, rfl⟩ := x1.shape
 refine ⟨_, rfl, hb, ?_⟩
 replace EY := hid (EY.out.trans hb)
 have Q21 := hid x1
 clear hb x1
 refine WE.pp 71 (.agg #[.int .i64 (2), .bool g21, .slice A21 n21 c21]) ?_
 simp only [Act.put, pA, pB, pC]
 refine WE.new (d := some 72) (cs := #[.int .i64 (2), .bool g21, .slice A21 n21 c21]) (t := 56) (v := fun g => (.slice (some ⟨g, 0, none⟩) 1 1)) rfl rfl (by rfl) (fun w => by go_simp) fun gLP wv hx0 hbox hge => ?_
 replace EY := hid (EY.out.trans hx0)
 replace Q21 := hid (Q21.out.up hx0)
 have LP : Hid (Box wv gLP #[.int .i64 (2), .bool g21, .slice A21 n21 c21] 56) := hid hbox
 clear hx0 hbox hge
 refine WE.pp 73 (.int .i64 hi) ?_
 refine WE.cc 74 ((rOf_z (n := hi) (by have := HHI.out; omega) (by have := HHI.out; omega) _).mono ?_)
 rintro e wn ⟨v1, rfl, x1, hb⟩
 obtain ⟨g22, A22, n22, c22, rfl⟩ := x1.shape
 refine ⟨_, rfl, hb, ?_⟩
 replace EY := hid (EY.out.trans hb)
 replace LP := hid (LP.out.up hb)
 replace Q21 := hid (Q21.out.up hb)
 have Q22 := hid x1
 clear hb x1
 refine WE.pp 75 (.agg #[.slice (some ⟨gLP, 0, none⟩) 1 1, .bool g22, .slice A22 n22 c22]) ?_
 simp only [Act.put, pA, pB, pC]
 have S23 := hid (show IsL _ (.agg #[.slice (some ⟨gLP, 0, none⟩) 1 1, .bool g22, .slice A22 n22 c22]) [(2, -1)] hi 3 from ⟨_, _, _, _, _, _, _, rfl, LTm.lit LP.out (Q21.out.wide (by omega)), Q22.out.wide (by omega), ⟨by decide, by decide, trivial⟩⟩)
 refine WE.new (d := some 14) (cs := #[.slice none 0 0, .bool false, .slice none 0 0]) (t := 27) (v := fun g => (.pointer (some ⟨g, 0, none⟩))) rfl rfl (by rfl) (fun w => by go_simp) fun gV14 wv hx0 hbox hge => ?_
 have HNV14V7 := hid (show gV14 ≠ gV7 by have := (V7.out.up EY.out).lt; omega)
 have HNV14V10 := hid (show gV14 ≠ gV10 by have := (V10.out.up EY.out).lt; omega)
 have HNV14V11 := hid (show gV14 ≠ gV11 by have := (V11.out.up EY.out).lt; omega)
 have HGV14 := hid (show W.heap.size ≤ gV14 by have := (E.out.trans EY.out).size; omega)
 replace EY := hid (EY.out.trans hx0)
 replace S23 := hid (S23.out.up hx0)
 have V14 : Hid (Box wv gV14 #[.slice none 0 0, .bool false, .slice none 0 0] 27) := hid hbox
 clear hx0 hbox hge
 simp only [Act.put, pA, pB, pC]
 refine WE.store3 (g := gV14) (x := .slice (some ⟨gLP, 0, none⟩) 1 1) (y := .bool g22) (z := .slice A22 n22 c22) (t := 27) rfl rfl (by rfl) (fun w hb => ?_) V14.out (by rfl) fun ws hk hs => ?_
 ·obtain ⟨ce0, ce1, ce2⟩ := hb.c3; obtain ⟨f0, f1, f2⟩ := hb.f3; go_simp
 intro hbx
 replace S14 := hid ((S14.out.up EY.out).kb V14.out (by rfl) hk hs)
 replace S17 := hid ((S17.out.up EY.out).kb V14.out (by rfl) hk hs)
 replace S20 := hid ((S20.out.up EY.out).kb V14.out (by rfl) hk hs)
 replace S23 := hid (S23.out.kb V14.out (by rfl) hk hs)
 replace E := hid ((E.out.trans EY.out).keptG hk HGV14.out)
 replace V7 := hid ((V7.out.up EY.out).kept hk (by simpa using HNV14V7.out.symm))
 replace V10 := hid ((V10.out.up EY.out).kept hk (by simpa using HNV14V10.out.symm))
 replace V11 := hid ((V11.out.up EY.out).kept hk (by simpa using HNV14V11.out.symm))
 replace V14 := hid hbx
 clear hk hs hbx
 replace EY := hid (Ext.refl ws)
 refine WE.done ?_
 go_upto_region 15 with (fail)
 refine wp_region_S [(0, 0), (1, 0), (2, 0), (3, 0), (4, 0), (5, 1), (6, 0), (7, 0), (8, 0), (9, 0), (10, 1), (11, 0), (12, 0)] fun wd hb => ?_
 replace EY := hid (EY.out.trans hb)
 clear hb
 refine WE.pp 76 (.int .i64 1) ?_
 refine WE.pp 77 (.bool true) ?_
 refine WE.pp 78 (.bool true) ?_
 refine WE.qq 79 (.agg #[.slice A14 n14 c14, .bool g14, .slice B14 m14 d14]) rfl (fun w' hk => by obtain ⟨ce0, ce1, ce2⟩ := ((V7.out.up EY.out).up hk).c3; go_simp) ?_
 refine WE.qq 80 (.agg #[.slice (some ⟨gLN, 0, none⟩) 1 1, .bool g16, .slice A16 n16 c16]) rfl (fun w' hk => by obtain ⟨ce0, ce1, ce2⟩ := ((V10.out.up EY.out).up hk).c3; go_simp) ?_
 refine WE.cc 81 ((rEqualL_l (S14.out.up EY.out) (S17.out.up EY.out) (b := true) (decide_eq_true ⟨rfl, rfl⟩)).mono ?_)
 rintro e wn ⟨rfl, hb⟩
 refine ⟨_, rfl, hb, ?_⟩
 replace EY := hid (EY.out.trans hb)
 clear hb
 simp only [Act.put, pA, pB, pC]
 refine WE.pp 82 (.bool true) ?_
 refine WE.pp 83 (.bool true) ?_
 refine WE.qq 84 (.agg #[.slice A20 n20 c20, .bool g20, .slice B20 m20 d20]) rfl (fun w' hk => by obtain ⟨ce0, ce1, ce2⟩ := ((V11.out.up EY.out).up hk).c3; go_simp) ?_
 refine WE.qq 85 (.agg #[.slice (some ⟨gLP, 0, none⟩) 1 1, .bool g22, .slice A22 n22 c22]) rfl (fun w' hk => by obtain ⟨ce0, ce1, ce2⟩ := ((V14.out.up EY.out).up hk).c3; go_simp) ?_
 refine WE.cc 86 ((rEqualL_l (S20.out.up EY.out) (S23.out.up EY.out) (b := true) (decide_eq_true ⟨rfl, rfl⟩)).mono ?_)
 rintro e wn ⟨rfl, hb⟩
 refine ⟨_, rfl, hb, ?_⟩
 replace EY := hid (EY.out.trans hb)
 clear hb
 refine WE.pp 87 (.bool true) ?_
 simp only [Act.put, pA, pB, pC]
 refine WE.pp 4 (.bool true) ?_
 simp only [Act.put, pA, pB, pC]
 refine WE.done ?_
 repeat go_step
 go_ret
 exact ⟨rfl, (E.out.trans EY.out)⟩

theorem belowRounds_walk (W : World) (cc : Int) (hc : 0 ≤ cc ∧ cc ≤ 255) (kk : Int) (hk : -32768 ≤ kk ∧ kk ≤ 32767) :
 Calls Tryz.prog 7 #[.int .u8 cc, .int .i16 kk] W (fun e w' => e = .returned (.bool true) ∧ Ext W w') := by
 rcases Int.lt_trichotomy (kk.tmod (cc + 1)) 0 with h | h | h
 ·exact belowRounds_neg W cc hc kk hk (hid h)
 ·exact belowRounds_zero W cc hc kk hk (hid h)
 ·exact belowRounds_pos W cc hc kk hk (hid h)

set_option maxRecDepth 100000 in
theorem belowRounds_lifted (os : Os) (started : os.Started) (H : Type) (enc : TypeId × Value → H) :
 ReturnsInHanded {} Tryz.checked os 7 .any (Rows.belowRoundsSpec.pre6 enc Tryz.prog Tryz.f7 Rows.belowRoundsRow.domain false) (Rows.belowRoundsSpec.post enc Tryz.prog Tryz.f7 false true false false) := by
 refine returnsInHanded_of_change (C := Tryz.checked) own started (by kernel_rfl) Tryz.func7
  (ChangeSpec.witness6 (enc := enc) (C := Tryz.checked) false ⟨#[], #[.int .u8 0, .int .i16 0], []⟩ 8 (by kernel_rfl) (by kernel_rfl) (by kernel_rfl) (by kernel_rfl)) ?_
 intro W base args ds gs before hval0 hW _ _
 have hval : ∀ (j : Nat) t v, Tryz.f7.params[j]? = some t → args[j]? = some v → Value.okWide Tryz.prog W .any base t v := hval0
 have hW' := hW
 obtain ⟨p, q, hA0, hV, rfl, hfz, hnd⟩ := hW
 have hA : DataW.TrodAll enc Tryz.prog W 0 (fun _ => true) true Tryz.f7.params.toList args.toList ds p := hA0
 rw [Tryz.params7] at hA hval
 obtain ⟨v0, vs0, d0, ds0, p0, q0, hargs, rfl, rfl, h0, r0⟩ := trodAll_cons hA
 obtain ⟨v1, vs1, d1, ds1, p1, q1, rfl, rfl, rfl, h1, r1⟩ := trodAll_cons r0
 obtain ⟨rfl, rfl, rfl⟩ := trodAll_nil r1
 obtain rfl : args = #[v0, v1] := by cases args; simp_all
 obtain ⟨rfl, rfl⟩ := trodVars_none hV
 obtain ⟨a0, rfl, -, -, w0⟩ := open_int Tryz.underlying5 (hval 0 5 v0 rfl rfl) h0
 obtain ⟨a1, rfl, -, -, w1⟩ := open_int Tryz.underlying53 (hval 1 53 v1 rfl rfl) h1
 clear hA0 hval0
 refine (belowRounds_walk W a0 (u8_of_wf w0) a1 (i16_of_wf w1)).mono fun e W' ⟨he, hg⟩ => ?_
 subst he
 exact ⟨_, rfl, law_post hW' rfl rfl (by kernel_rfl) (by kernel_rfl) hg⟩

theorem belowRounds_over : Rows.belowRoundsRow.holds Tryz.pinned (OpenSpec.ofChange Rows.belowRoundsSpec) :=
 OpenClaim.holds_of_wide 7 Tryz.f7 rfl rfl rfl rfl rfl rfl rfl ⟨rfl, rfl, rfl, rfl, rfl⟩ rfl rfl rfl rfl rfl (by kernel_rfl) Tryz.func7 (by kernel_rfl)
  (of_decide_eq_true (by kernel_rfl)) (by unfold Func.isWrapper; first | (rw [if_pos (by decide +kernel)]; kernel_rfl) | (rw [if_neg (by decide +kernel)]; exact ⟨rfl, rfl⟩))
  (fun os started H enc _ => belowRounds_lifted os started H enc)

theorem belowRounds_proved : Rows.BelowRoundsSaid := belowRounds_over

end Go.Proofs.YtklmnmkmpkobhaaGreat
