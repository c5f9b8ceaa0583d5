/-
  LinBuilt: whatever at most eight numbers of 8 bits, whatever turn, whatever constant of 16 bits (more numbers: true at once): true. No conditions.
-/
import Derived.Test.YtfjehdcdbejlnaaGreatLKnown
import Derived.Test.YtfjehdcdbejlnaaGreatLBuiltM
namespace Go.Proofs.YtfjehdcdbejlnaaGreat
open Go.ChangeShapes Go.WideShapes Go.ChangeAt Go.RowKit
set_option linter.unusedSimpArgs false
set_option linter.unusedVariables false

theorem u8_of_wf {n : Int} (h : (Lit.int .u8 n).wf = true) : 0 ≤ n ∧ n ≤ 255 := by
  simpa [Lit.wf, IntKind.min, IntKind.max, IntKind.signed, IntKind.bits] using h
theorem i16_of_wf {n : Int} (h : (Lit.int .i16 n).wf = true) : -32768 ≤ n ∧ n ≤ 32767 := by
  simpa [Lit.wf, IntKind.min, IntKind.max, IntKind.signed, IntKind.bits] using h

theorem M.bt_small {xs : List Int} (h : ∀ x ∈ xs, -128 ≤ x ∧ x ≤ 127) (i : Nat) (v : Int) : (M.coef (M.bt xs i) v).natAbs < 1000000000 := by
  rw [M.coef_bt]
  split
  · rcases hx : xs[v.toNat]? with _ | x
    · rw [List.getD_eq_getElem?_getD, hx]; decide
    · rw [List.getD_eq_getElem?_getD, hx]
      have := h x (List.mem_of_getElem? hx)
      show x.natAbs < 1000000000
      omega
  · decide
theorem M.Turned.small {xs : List Int} {n turn i : Nat} {t : M.Tm} (T : M.Turned xs n turn i t) (h : ∀ x ∈ xs, -128 ≤ x ∧ x ≤ 127) (v : Int) : (M.coef t v).natAbs < 1000000000 := by
  rw [T.coef]
  split
  · rcases hx : xs[v.toNat]? with _ | x
    · rw [List.getD_eq_getElem?_getD, hx]; decide
    · rw [List.getD_eq_getElem?_getD, hx]
      have := h x (List.mem_of_getElem? hx)
      show x.natAbs < 1000000000
      omega
  · decide
theorem IsL.zk {w : World} {A B : Option Addr} {n c m d W : Nat} {g : Bool} {t : M.Tm} {κ : Int} (h : IsL w (.agg #[.slice A n c, .bool g, .slice B m d]) t κ W) : IsZ w (.agg #[.bool g, .slice B m d]) κ W := by
  obtain ⟨A', n', c', g', B', m', d', e, _, h2, _⟩ := h
  simp at e
  obtain ⟨⟨rfl, rfl, rfl⟩, rfl, rfl, rfl, rfl⟩ := e
  exact h2
theorem IsL.cnt {w : World} {A B : Option Addr} {n c m d W : Nat} {g : Bool} {t : M.Tm} {κ : Int} (h : IsL w (.agg #[.slice A n c, .bool g, .slice B m d]) t κ W) : n = t.length := by
  obtain ⟨A', n', c', g', B', m', d', e, h1, _, _⟩ := h
  simp at e
  obtain ⟨⟨rfl, rfl, rfl⟩, rfl, rfl, rfl, rfl⟩ := e
  exact h1.count.1
theorem M.getD_of {xs : List Int} {i : Nat} {x : Int} (h : xs[i]? = some x) : xs.getD i 0 = x := by rw [List.getD_eq_getElem?_getD, h]; rfl

set_option maxRecDepth 100000 in
set_option maxHeartbeats 2000000 in
theorem linBuilt_skip (W : World) (Ac : Option Addr) (nc cc : Nat) (xs : List Int) (hc : CList W (.slice Ac nc cc) xs) (tu : Int) (htu : 0 ≤ tu ∧ tu ≤ 255) (kk : Int) (hkk : -32768 ≤ kk ∧ kk ≤ 32767) (h8 : Hid (8 < nc)) :
    Calls Tryz.prog 5 #[.slice Ac nc cc, .int .u8 tu, .int .i16 kk] W (fun e w' => e = .returned (.bool true) ∧ Ext W w') := by
  have HCN := hid hc.count
  have hb9 : nc ≤ 9223372036854775807 := hc.count.2
  have h8d : decide ((8 : Int) < (nc : Int)) = true := by have := h8.out; simp; omega
  clear hc htu hkk
  go_enter Tryz.func5, Tryz.ntmps5
  go_upto_region 1 with (fail)
  have E := hid (Ext.refl W)
  refine wp_region_T [(0, 1), (1, 0)] (by kernel_rfl) fun wd hb => ?_
  replace E := hid (E.out.trans hb)
  clear hb
  have EY := hid (Ext.refl wd)
  refine WE.call (d := some 13) rfl rfl (by rfl) (by go_simp) ((known6 _).mono ?_)
  rintro e wn ⟨rfl, hb⟩
  refine ⟨_, rfl, hb, ?_⟩
  replace EY := hid (EY.out.trans hb)
  clear hb
  simp only [Act.put, pA, pB, pC]
  refine WE.pure (d := some 14) rfl rfl (by rfl) (v := (.bool false)) (fun w' hk => by go_simp) ?_
  simp only [Act.put, pA, pB, pC]
  refine WE.done ?_
  go_upto_region 3 with (fail)
  refine wp_region_T [(0, 0), (1, 0), (2, 0)] (by kernel_rfl) fun wd hb => ?_
  replace EY := hid (EY.out.trans hb)
  clear hb
  refine WE.pure (d := some 15) rfl rfl (by rfl) (v := (.slice Ac nc cc)) (fun w' hk => by go_simp) ?_
  simp only [Act.put, pA, pB, pC]
  refine WE.pure (d := some 16) rfl rfl (by rfl) (v := (.int .i64 (nc : Int))) (fun w' hk => by go_simp) ?_
  simp only [Act.put, pA, pB, pC]
  refine WE.pure (d := some 17) rfl rfl (by rfl) (v := (.bool true)) (fun w' hk => by go_simp) ?_
  simp only [Act.put, pA, pB, pC]
  refine WE.done ?_
  go_upto_region 4 with (fail)
  refine wp_region_T [(0, 0)] (by kernel_rfl) fun wd hb => ?_
  replace EY := hid (EY.out.trans hb)
  clear hb
  refine WE.pure (d := some 6) rfl rfl (by rfl) (v := (.bool true)) (fun w' hk => by go_simp) ?_
  simp only [Act.put, pA, pB, pC]
  refine WE.done ?_
  repeat go_step
  go_ret
  exact ⟨rfl, (E.out.trans EY.out)⟩

set_option maxRecDepth 100000 in
set_option maxHeartbeats 16000000 in
theorem linBuilt_main (W : World) (Ac : Option Addr) (nc cc : Nat) (xs : List Int) (hc : CList W (.slice Ac nc cc) xs) (tu : Int) (htu : 0 ≤ tu ∧ tu ≤ 255) (kk : Int) (hkk : -32768 ≤ kk ∧ kk ≤ 32767) (h8 : Hid (nc ≤ 8)) :
    Calls Tryz.prog 5 #[.slice Ac nc cc, .int .u8 tu, .int .i16 kk] W (fun e w' => e = .returned (.bool true) ∧ Ext W w') := by
  have HCL := hid hc
  have HCN := hid hc.count
  have hb9 : nc ≤ 9223372036854775807 := hc.count.2
  have h8d : decide ((8 : Int) < (nc : Int)) = false := by have := h8.out; simp; omega
  obtain ⟨tn, htn⟩ : ∃ n : Nat, tu = (n : Int) := ⟨tu.toNat, by omega⟩
  subst htn
  have htn255 : tn ≤ 255 := by omega
  have hnc8 : nc ≤ 8 := h8.out
  have HSM := hid (show ∀ x ∈ xs, -128 ≤ x ∧ x ≤ 127 from by obtain ⟨_, _, _, _, _, _, h, _⟩ := hc; exact h)
  have HKK := hid hkk
  have hwt : IntKind.i64.wrap (tn : Int) = (tn : Int) := by rw [IntKind.wrap_i64]; omega
  have hwkk : IntKind.i64.wrap kk = kk := by rw [IntKind.wrap_i64]; omega
  clear hc htu hkk
  go_enter Tryz.func5, Tryz.ntmps5
  go_upto_region 1 with (fail)
  have E := hid (Ext.refl W)
  refine wp_region_T [(0, 1), (1, 0)] (by kernel_rfl) fun wd hb => ?_
  replace E := hid (E.out.trans hb)
  clear hb
  have EY := hid (Ext.refl wd)
  refine WE.call (d := some 13) rfl rfl (by rfl) (by go_simp) ((known6 _).mono ?_)
  rintro e wn ⟨rfl, hb⟩
  refine ⟨_, rfl, hb, ?_⟩
  replace EY := hid (EY.out.trans hb)
  clear hb
  simp only [Act.put, pA, pB, pC]
  refine WE.pure (d := some 14) rfl rfl (by rfl) (v := (.bool false)) (fun w' hk => by go_simp) ?_
  simp only [Act.put, pA, pB, pC]
  refine WE.done ?_
  go_upto_region 3 with (fail)
  refine wp_region_T [(0, 0), (1, 0), (2, 0)] (by kernel_rfl) fun wd hb => ?_
  replace EY := hid (EY.out.trans hb)
  clear hb
  refine WE.pure (d := some 15) rfl rfl (by rfl) (v := (.slice Ac nc cc)) (fun w' hk => by go_simp) ?_
  simp only [Act.put, pA, pB, pC]
  refine WE.pure (d := some 16) rfl rfl (by rfl) (v := (.int .i64 (nc : Int))) (fun w' hk => by go_simp) ?_
  simp only [Act.put, pA, pB, pC]
  refine WE.pure (d := some 17) rfl rfl (by rfl) (v := (.bool false)) (fun w' hk => by go_simp) ?_
  simp only [Act.put, pA, pB, pC]
  refine WE.done ?_
  go_upto_region 5 with (fail)
  refine wp_region_T [(0, 0), (1, 0), (2, 1), (3, 1), (4, 0), (5, 1), (6, 1), (7, 1), (8, 4), (9, 4)] (by kernel_rfl) fun wd hb => ?_
  replace EY := hid (EY.out.trans hb)
  clear hb
  refine WE.pure (d := some 18) rfl rfl (by rfl) (v := (.int .i16 kk)) (fun w' hk => by go_simp) ?_
  simp only [Act.put, pA, pB, pC]
  refine WE.pure (d := some 19) rfl rfl (by rfl) (v := (.int .i64 kk)) (fun w' hk => by go_simp) ?_
  simp only [Act.put, pA, pB, pC]
  refine WE.call (d := some 20) rfl rfl (by rfl) (by go_simp) ((rOf_z (n := kk) (by have := HKK.out; omega) (by have := HKK.out; omega) _).mono ?_)
  rintro e wn ⟨v1, rfl, x1, hb⟩
  obtain ⟨g11, A11, n11, c11, rfl⟩ := x1.shape
  refine ⟨_, rfl, hb, ?_⟩
  replace EY := hid (EY.out.trans hb)
  have Q11 := hid x1
  clear hb x1
  simp only [Act.put, pA, pB, pC]
  refine WE.call (d := some 21) rfl rfl (by rfl) (by go_simp) ((constL_l (Worth.wide Q11.out.worth (k := 3) (by omega)) (by decide)).mono ?_)
  rintro e wn ⟨v1, rfl, x1, hb⟩
  obtain ⟨A12, n12, c12, g12, B12, m12, d12, rfl⟩ := x1.shape
  refine ⟨_, rfl, hb, ?_⟩
  replace EY := hid (EY.out.trans hb)
  have S12 := hid x1
  clear hb x1
  simp only [Act.put, pA, pB, pC]
  refine WE.pure (d := some 22) rfl rfl (by rfl) (v := (.agg #[.bool false, .slice none 0 0])) (fun w' hk => by go_simp) ?_
  simp only [Act.put, pA, pB, pC]
  refine WE.call (d := some 23) rfl rfl (by rfl) (by go_simp) ((constL_l (Worth.wide IsZ.nought.worth (k := 0) (by omega)) (by decide)).mono ?_)
  rintro e wn ⟨v1, rfl, x1, hb⟩
  obtain ⟨A13, n13, c13, g13, B13, m13, d13, rfl⟩ := x1.shape
  refine ⟨_, rfl, hb, ?_⟩
  replace EY := hid (EY.out.trans hb)
  replace S12 := hid (S12.out.up hb)
  have S13 := hid x1
  clear hb x1
  simp only [Act.put, pA, pB, pC]
  refine WE.new (d := some 7) (cs := #[.slice none 0 0, .bool false, .slice none 0 0]) (t := 27) (v := fun g => (.pointer (some ⟨g, 0, none⟩))) rfl rfl (by rfl) (fun w => by go_simp) fun gV7 wv hx0 hbox hge => ?_
  have HGV7 := hid (show W.heap.size ≤ gV7 by have := (E.out.trans EY.out).size; omega)
  replace EY := hid (EY.out.trans hx0)
  replace S12 := hid (S12.out.up hx0)
  replace S13 := hid (S13.out.up hx0)
  have V7 : Hid (Box wv gV7 #[.slice none 0 0, .bool false, .slice none 0 0] 27) := hid hbox
  clear hx0 hbox hge
  simp only [Act.put, pA, pB, pC]
  refine WE.new (d := some 8) (cs := #[.slice none 0 0, .bool false, .slice none 0 0]) (t := 27) (v := fun g => (.pointer (some ⟨g, 0, none⟩))) rfl rfl (by rfl) (fun w => by go_simp) fun gV8 wv hx0 hbox hge => ?_
  have HNV8V7 := hid (show gV8 ≠ gV7 by have := V7.out.lt; omega)
  have HGV8 := hid (show W.heap.size ≤ gV8 by have := (E.out.trans EY.out).size; omega)
  replace EY := hid (EY.out.trans hx0)
  replace V7 := hid (V7.out.up hx0)
  replace S12 := hid (S12.out.up hx0)
  replace S13 := hid (S13.out.up hx0)
  have V8 : Hid (Box wv gV8 #[.slice none 0 0, .bool false, .slice none 0 0] 27) := hid hbox
  clear hx0 hbox hge
  simp only [Act.put, pA, pB, pC]
  refine WE.store3 (g := gV7) (x := .slice A12 n12 c12) (y := .bool g12) (z := .slice B12 m12 d12) (t := 27) rfl rfl (by rfl) (fun w hb => ?_) V7.out (by rfl) fun ws hk hs => ?_
  · obtain ⟨ce0, ce1, ce2⟩ := hb.c3; obtain ⟨f0, f1, f2⟩ := hb.f3; go_simp
  intro hbx
  replace S12 := hid (S12.out.kb V7.out (by rfl) hk hs)
  replace S13 := hid (S13.out.kb V7.out (by rfl) hk hs)
  replace E := hid ((E.out.trans EY.out).keptG hk HGV7.out)
  replace V7 := hid hbx
  replace V8 := hid (V8.out.kept hk (by simpa using HNV8V7.out))
  clear hk hs hbx
  replace EY := hid (Ext.refl ws)
  refine WE.store3 (g := gV8) (x := .slice A13 n13 c13) (y := .bool g13) (z := .slice B13 m13 d13) (t := 27) rfl rfl (by rfl) (fun w hb => ?_) (V8.out.up EY.out) (by rfl) fun ws hk hs => ?_
  · obtain ⟨ce0, ce1, ce2⟩ := hb.c3; obtain ⟨f0, f1, f2⟩ := hb.f3; go_simp
  intro hbx
  replace S12 := hid ((S12.out.up EY.out).kb (V8.out.up EY.out) (by rfl) hk hs)
  replace S13 := hid ((S13.out.up EY.out).kb (V8.out.up EY.out) (by rfl) hk hs)
  replace E := hid ((E.out.trans EY.out).keptG hk HGV8.out)
  replace V7 := hid ((V7.out.up EY.out).kept hk (by simpa using HNV8V7.out.symm))
  replace V8 := hid hbx
  clear hk hs hbx
  replace EY := hid (Ext.refl ws)
  refine WE.done ?_
  go_upto_region 6 with (fail)
  refine wp_region_T [(0, 0)] (by kernel_rfl) fun wd hb => ?_
  replace EY := hid (EY.out.trans hb)
  clear hb
  refine WE.pure (d := some 9) rfl rfl (by rfl) (v := (.int .i64 (0))) (fun w' hk => by go_simp) ?_
  simp only [Act.put, pA, pB, pC]
  refine WE.done ?_
  go_upto_region 7 with (fail)
  refine wp_region_T [(0, 0)] (by kernel_rfl) fun wd hb => ?_
  replace EY := hid (EY.out.trans hb)
  clear hb
  refine WE.pure (d := some 10) rfl rfl (by rfl) (v := (.int .i64 (0))) (fun w' hk => by go_simp) ?_
  simp only [Act.put, pA, pB, pC]
  refine WE.done ?_
  go_wp2
  go_loopw [9, 10] (fun x9 x10 wr => ∃ (cnt : Nat) (i : Nat) (A7 : Option Addr) (n7 : Nat) (c7 : Nat) (g7 : Bool) (B7 : Option Addr) (m7 : Nat) (d7 : Nat) (A8 : Option Addr) (n8 : Nat) (c8 : Nat) (g8 : Bool) (B8 : Option Addr) (m8 : Nat) (d8 : Nat) (t8 : M.Tm), x9 = .int .i64 (cnt : Int) ∧ x10 = .int .i64 (i : Int) ∧ i ≤ nc ∧ cnt = (M.bt xs i).length ∧ Ext W wr ∧ Box wr gV7 #[.slice A7 n7 c7, .bool g7, .slice B7 m7 d7] 27 ∧ Box wr gV8 #[.slice A8 n8 c8, .bool g8, .slice B8 m8 d8] 27 ∧ IsL wr (.agg #[.slice A7 n7 c7, .bool g7, .slice B7 m7 d7]) (M.bt xs i) kk 1 ∧ IsL wr (.agg #[.slice A8 n8 c8, .bool g8, .slice B8 m8 d8]) t8 0 1 ∧ M.Turned xs nc tn i t8) (fun _x9 x10 _ => nc - (intOf x10).toNat)
  case atStart => exact ⟨0, 0, A12, n12, c12, g12, B12, m12, d12, A13, n13, c13, g13, B13, m13, d13, [], rfl, rfl, Nat.zero_le _, rfl, (E.out.trans EY.out), (V7.out.up EY.out), (V8.out.up EY.out), IsL.small (S12.out.up EY.out) (fun v => by show (0 : Int).natAbs < 1000000000; decide) (by have := HKK.out; omega), IsL.small (S13.out.up EY.out) (fun v => by show (0 : Int).natAbs < 1000000000; decide) (by decide), M.Turned.start _ _ _⟩
  case round =>
    clear E EY V7 V8 S12 S13
    obtain ⟨cnt, i, A7, n7, c7, g7, B7, m7, d7, A8, n8, c8, g8, B8, m8, d8, t8, rfl, rfl, hr0, hr1, hr2, hr3, hr4, hr5, hr6, hr7⟩ := hrel
    have HCT := hid hr1
    have E := hid hr2
    have V7 := hid hr3
    have V8 := hid hr4
    have S70 := hid hr5
    have S80 := hid hr6
    have HT := hid hr7
    clear hr1 hr2 hr3 hr4 hr5 hr6 hr7
    have EY := hid (Ext.refl wr)
    have hi9 := hr0
    by_cases hlt : i < nc
    · have hlt' : decide ((i : Int) < (nc : Int)) = true := decide_eq_true (by omega)
      obtain ⟨xc, hxxc⟩ : ∃ x, xs[i]? = some x := ⟨_, List.getElem?_eq_getElem (by rw [← HCN.out.1]; omega)⟩
      obtain ⟨ad, adE, caxc, clxc, chxc⟩ := HCL.out.get hxxc
      have HGxc := hid (M.getD_of hxxc)
      have CAxc := hid caxc
      have HBxc := hid (show -128 ≤ xc ∧ xc ≤ 127 from ⟨clxc, chxc⟩)
      have hwxc : IntKind.i64.wrap xc = xc := by rw [IntKind.wrap_i64]; omega
      clear hxxc caxc clxc chxc
      subst adE
      obtain ⟨j, hj⟩ : ∃ j : Nat, (i + tn) % nc = j := ⟨_, rfl⟩
      have hjn : j < nc := by rw [← hj]; exact Nat.mod_lt _ (by omega)
      have HJ := hid hj
      have hjt : ((i : Int) + (tn : Int)).tmod (nc : Int) = (j : Int) := by rw [← hj]; exact (Int.ofNat_tmod (i + tn) nc).symm
      have hn0 : ¬ nc = 0 := by omega
      have hni : ¬ (nc : Int) = 0 := by omega
      have hwa : IntKind.i64.wrap ((i : Int) + (tn : Int)) = (i : Int) + (tn : Int) := by rw [IntKind.wrap_i64]; omega
      have hwj : IntKind.i64.wrap (j : Int) = (j : Int) := by rw [IntKind.wrap_i64]; omega
      clear hj
      obtain ⟨yc, hxyc⟩ : ∃ x, xs[j]? = some x := ⟨_, List.getElem?_eq_getElem (by rw [← HCN.out.1]; omega)⟩
      obtain ⟨ap, apE, cayc, clyc, chyc⟩ := HCL.out.get hxyc
      have HGyc := hid (M.getD_of hxyc)
      have CAyc := hid cayc
      have HByc := hid (show -128 ≤ yc ∧ yc ≤ 127 from ⟨clyc, chyc⟩)
      have hwyc : IntKind.i64.wrap yc = yc := by rw [IntKind.wrap_i64]; omega
      clear hxyc cayc clyc chyc
      obtain rfl : ap = ad := (Option.some.inj apE).symm
      clear apE
      go_upto_region 8 with (fail)
      refine wp_region_T [(0, 0), (1, 0), (2, 0), (3, 0)] (by kernel_rfl) fun wd hb => ?_
      replace EY := hid (EY.out.trans hb)
      clear hb
      refine WE.pure (d := some 24) rfl rfl (by rfl) (v := (.int .i64 (i : Int))) (fun w' hk => by go_simp) ?_
      simp only [Act.put, pA, pB, pC]
      refine WE.pure (d := some 25) rfl rfl (by rfl) (v := (.slice (some ap) nc cc)) (fun w' hk => by go_simp) ?_
      simp only [Act.put, pA, pB, pC]
      refine WE.pure (d := some 26) rfl rfl (by rfl) (v := (.int .i64 (nc : Int))) (fun w' hk => by go_simp) ?_
      simp only [Act.put, pA, pB, pC]
      refine WE.pure (d := some 27) rfl rfl (by rfl) (v := (.bool true)) (fun w' hk => by go_simp) ?_
      simp only [Act.put, pA, pB, pC]
      refine WE.done ?_
      have HTN := hid (show M.Turned xs nc tn (i + 1) (M.addT (M.scaleT [(max (j : Int) 0, 1)] yc) t8) from by have h := HT.out.step hnc8 hlt; rw [HJ.out, HGyc.out] at h; exact h)
      go_upto_region 10 with (fail)
      refine wp_region_E [(0, 0), (1, 0), (3, 0), (4, 0), (5, 0), (6, 0), (7, 0), (2, 1), (8, 1), (9, 1), (10, 1), (11, 4)] (fun _ => (0, #[])) rfl (by kernel_rfl) (by intro j hj; cases hj) (fun _ _ d _ _ => by cases d <;> exact Iff.rfl) fun wd hb => ?_
      replace EY := hid (EY.out.trans hb)
      clear hb
      refine WE.pure (d := some 30) rfl rfl (by rfl) (v := (.agg #[.slice A7 n7 c7, .bool g7, .slice B7 m7 d7])) (fun w' hk => ?_) ?_
      · obtain ⟨ce0, ce1, ce2⟩ := ((V7.out.up EY.out).up hk).c3; go_simp
      simp only [Act.put, pA, pB, pC]
      refine WE.pure (d := some 31) rfl rfl (by rfl) (v := (.int .i64 (i : Int))) (fun w' hk => by go_simp) ?_
      simp only [Act.put, pA, pB, pC]
      refine WE.pure (d := some 33) rfl rfl (by rfl) (v := (.slice (some ap) nc cc)) (fun w' hk => by go_simp) ?_
      simp only [Act.put, pA, pB, pC]
      refine WE.pure (d := some 34) rfl rfl (by rfl) (v := (.int .i64 (i : Int))) (fun w' hk => by go_simp) ?_
      simp only [Act.put, pA, pB, pC]
      refine WE.pure (d := some 35) rfl rfl (by rfl) (v := (.pointer (some (ap.add i)))) (fun w' hk => ?_) ?_
      · go_simp
      simp only [Act.put, pA, pB, pC]
      refine WE.pure (d := some 36) rfl rfl (by rfl) (v := (.int .i8 xc)) (fun w' hk => ?_) ?_
      · have ce0 : w'.cell? (ap.add i) = some (.int .i8 xc) := (CAxc.out.up (E.out.trans EY.out)).up hk; go_simp
      simp only [Act.put, pA, pB, pC]
      refine WE.pure (d := some 37) rfl rfl (by rfl) (v := (.int .i64 xc)) (fun w' hk => by go_simp) ?_
      simp only [Act.put, pA, pB, pC]
      refine WE.call (d := some 32) rfl rfl (by rfl) (by go_simp) ((varL_l (v := (i : Int))).mono ?_)
      rintro e wn ⟨v1, rfl, x1, hb⟩
      obtain ⟨A14, n14, c14, g14, B14, m14, d14, rfl⟩ := x1.shape
      refine ⟨_, rfl, hb, ?_⟩
      replace EY := hid (EY.out.trans hb)
      have S14 := hid x1
      clear hb x1
      simp only [Act.put, pA, pB, pC]
      refine WE.call (d := some 38) rfl rfl (by rfl) (by go_simp) ((rOf_z (n := xc) (by have := HBxc.out; omega) (by have := HBxc.out; omega) _).mono ?_)
      rintro e wn ⟨v1, rfl, x1, hb⟩
      obtain ⟨g15, A15, n15, c15, rfl⟩ := x1.shape
      refine ⟨_, rfl, hb, ?_⟩
      replace EY := hid (EY.out.trans hb)
      replace S14 := hid (S14.out.up hb)
      have Q15 := hid x1
      clear hb x1
      simp only [Act.put, pA, pB, pC]
      refine WE.call (d := some 39) rfl rfl (by rfl) (by go_simp) ((scaleL_l (WorthL.wide S14.out.worth (U := 3) (by omega)) (Worth.wide Q15.out.worth (k := 3) (by omega)) (by omega) (Nat.le_trans (Nat.le_refl 1) (by decide))).mono ?_)
      rintro e wn ⟨v1, rfl, x1, hb⟩
      obtain ⟨A16, n16, c16, g16, B16, m16, d16, rfl⟩ := x1.shape
      refine ⟨_, rfl, hb, ?_⟩
      replace EY := hid (EY.out.trans hb)
      have S16 := hid x1
      clear hb x1
      simp only [Act.put, pA, pB, pC]
      refine WE.call (d := some 40) rfl rfl (by rfl) (by go_simp) ((addL_l (WorthL.wide (S70.out.up EY.out).worth (U := 6) (by omega)) (WorthL.wide S16.out.worth (U := 6) (by omega)) (by omega) (Nat.le_trans (Nat.le_trans (M.bt_short xs i) (show i ≤ 8 by omega)) (by decide)) (Nat.le_trans (M.scaleT_len _ _) (show 1 ≤ 150 by decide))).mono ?_)
      rintro e wn ⟨v1, rfl, x1, hb⟩
      obtain ⟨A17, n17, c17, g17, B17, m17, d17, rfl⟩ := x1.shape
      replace x1 := IsL.small (IsL.to (s := M.bt xs (i + 1)) (μ := kk) x1 (by rw [← HGxc.out]; exact M.bt_step xs i) (by omega)) (M.bt_small HSM.out _) (by have := HKK.out; omega)
      refine ⟨_, rfl, hb, ?_⟩
      replace EY := hid (EY.out.trans hb)
      replace S16 := hid (S16.out.up hb)
      have S17 := hid x1
      clear hb x1
      simp only [Act.put, pA, pB, pC]
      refine WE.store3 (g := gV7) (x := .slice A17 n17 c17) (y := .bool g17) (z := .slice B17 m17 d17) (t := 27) rfl rfl (by rfl) (fun w hb => ?_) (V7.out.up EY.out) (by rfl) fun ws hk hs => ?_
      · obtain ⟨ce0, ce1, ce2⟩ := hb.c3; obtain ⟨f0, f1, f2⟩ := hb.f3; go_simp
      intro hbx
      replace S70 := hid ((S70.out.up EY.out).kb (V7.out.up EY.out) (by rfl) hk hs)
      replace S80 := hid ((S80.out.up EY.out).kb (V7.out.up EY.out) (by rfl) hk hs)
      replace S16 := hid (S16.out.kb (V7.out.up EY.out) (by rfl) hk hs)
      replace S17 := hid (S17.out.kb (V7.out.up EY.out) (by rfl) hk hs)
      replace E := hid ((E.out.trans EY.out).keptG hk HGV7.out)
      replace V7 := hid hbx
      replace V8 := hid ((V8.out.up EY.out).kept hk (by simpa using HNV8V7.out))
      clear hk hs hbx
      replace EY := hid (Ext.refl ws)
      refine WE.done ?_
      go_upto_region 11 with (fail)
      refine wp_region_T [(0, 0), (1, 0), (2, 0), (3, 0), (4, 0), (5, 0), (6, 0), (7, 0)] (by kernel_rfl) fun wd hb => ?_
      replace EY := hid (EY.out.trans hb)
      clear hb
      refine WE.pure (d := some 41) rfl rfl (by rfl) (v := (.int .i64 (i : Int))) (fun w' hk => by go_simp) ?_
      simp only [Act.put, pA, pB, pC]
      refine WE.pure (d := some 42) rfl rfl (by rfl) (v := (.int .u8 (tn : Int))) (fun w' hk => by go_simp) ?_
      simp only [Act.put, pA, pB, pC]
      refine WE.pure (d := some 43) rfl rfl (by rfl) (v := (.int .i64 (tn : Int))) (fun w' hk => by go_simp) ?_
      simp only [Act.put, pA, pB, pC]
      refine WE.pure (d := some 44) rfl rfl (by rfl) (v := (.int .i64 ((i : Int) + (tn : Int)))) (fun w' hk => by go_simp) ?_
      simp only [Act.put, pA, pB, pC]
      refine WE.pure (d := some 45) rfl rfl (by rfl) (v := (.slice (some ap) nc cc)) (fun w' hk => by go_simp) ?_
      simp only [Act.put, pA, pB, pC]
      refine WE.pure (d := some 46) rfl rfl (by rfl) (v := (.int .i64 (nc : Int))) (fun w' hk => by go_simp) ?_
      simp only [Act.put, pA, pB, pC]
      refine WE.pure (d := some 47) rfl rfl (by rfl) (v := (.int .i64 (j : Int))) (fun w' hk => by go_simp) ?_
      simp only [Act.put, pA, pB, pC]
      refine WE.pure (d := some 11) rfl rfl (by rfl) (v := (.int .i64 (j : Int))) (fun w' hk => by go_simp) ?_
      simp only [Act.put, pA, pB, pC]
      refine WE.done ?_
      go_upto_region 12 with (fail)
      refine wp_region_E [(0, 0), (2, 0), (3, 0), (4, 0), (5, 0), (6, 0), (9, 0), (1, 1), (7, 1), (8, 1), (10, 1), (11, 4)] (fun _ => (0, #[])) rfl (by kernel_rfl) (by intro j hj; cases hj) (fun _ _ d _ _ => by cases d <;> exact Iff.rfl) fun wd hb => ?_
      replace EY := hid (EY.out.trans hb)
      clear hb
      refine WE.pure (d := some 48) rfl rfl (by rfl) (v := (.int .i64 (j : Int))) (fun w' hk => by go_simp) ?_
      simp only [Act.put, pA, pB, pC]
      refine WE.pure (d := some 50) rfl rfl (by rfl) (v := (.slice (some ap) nc cc)) (fun w' hk => by go_simp) ?_
      simp only [Act.put, pA, pB, pC]
      refine WE.pure (d := some 51) rfl rfl (by rfl) (v := (.int .i64 (j : Int))) (fun w' hk => by go_simp) ?_
      simp only [Act.put, pA, pB, pC]
      refine WE.pure (d := some 52) rfl rfl (by rfl) (v := (.pointer (some (ap.add j)))) (fun w' hk => ?_) ?_
      · go_simp
      simp only [Act.put, pA, pB, pC]
      refine WE.pure (d := some 53) rfl rfl (by rfl) (v := (.int .i8 yc)) (fun w' hk => ?_) ?_
      · have ce0 : w'.cell? (ap.add j) = some (.int .i8 yc) := (CAyc.out.up (E.out.trans EY.out)).up hk; go_simp
      simp only [Act.put, pA, pB, pC]
      refine WE.pure (d := some 54) rfl rfl (by rfl) (v := (.int .i64 yc)) (fun w' hk => by go_simp) ?_
      simp only [Act.put, pA, pB, pC]
      refine WE.pure (d := some 57) rfl rfl (by rfl) (v := (.agg #[.slice A8 n8 c8, .bool g8, .slice B8 m8 d8])) (fun w' hk => ?_) ?_
      · obtain ⟨ce0, ce1, ce2⟩ := ((V8.out.up EY.out).up hk).c3; go_simp
      simp only [Act.put, pA, pB, pC]
      refine WE.call (d := some 49) rfl rfl (by rfl) (by go_simp) ((varL_l (v := (j : Int))).mono ?_)
      rintro e wn ⟨v1, rfl, x1, hb⟩
      obtain ⟨A18, n18, c18, g18, B18, m18, d18, rfl⟩ := x1.shape
      refine ⟨_, rfl, hb, ?_⟩
      replace EY := hid (EY.out.trans hb)
      have S18 := hid x1
      clear hb x1
      simp only [Act.put, pA, pB, pC]
      refine WE.call (d := some 55) rfl rfl (by rfl) (by go_simp) ((rOf_z (n := yc) (by have := HByc.out; omega) (by have := HByc.out; omega) _).mono ?_)
      rintro e wn ⟨v1, rfl, x1, hb⟩
      obtain ⟨g19, A19, n19, c19, rfl⟩ := x1.shape
      refine ⟨_, rfl, hb, ?_⟩
      replace EY := hid (EY.out.trans hb)
      replace S18 := hid (S18.out.up hb)
      have Q19 := hid x1
      clear hb x1
      simp only [Act.put, pA, pB, pC]
      refine WE.call (d := some 56) rfl rfl (by rfl) (by go_simp) ((scaleL_l (WorthL.wide S18.out.worth (U := 3) (by omega)) (Worth.wide Q19.out.worth (k := 3) (by omega)) (by omega) (Nat.le_trans (Nat.le_refl 1) (by decide))).mono ?_)
      rintro e wn ⟨v1, rfl, x1, hb⟩
      obtain ⟨A20, n20, c20, g20, B20, m20, d20, rfl⟩ := x1.shape
      refine ⟨_, rfl, hb, ?_⟩
      replace EY := hid (EY.out.trans hb)
      replace Q19 := hid (Q19.out.up hb)
      have S20 := hid x1
      clear hb x1
      simp only [Act.put, pA, pB, pC]
      refine WE.call (d := some 58) rfl rfl (by rfl) (by go_simp) ((addL_l (WorthL.wide S20.out.worth (U := 6) (by omega)) (WorthL.wide (S80.out.up EY.out).worth (U := 6) (by omega)) (by omega) (Nat.le_trans (M.scaleT_len _ _) (show 1 ≤ 150 by decide)) (Nat.le_trans (Nat.le_trans HT.out.len (show i ≤ 8 by omega)) (by decide))).mono ?_)
      rintro e wn ⟨v1, rfl, x1, hb⟩
      obtain ⟨A21, n21, c21, g21, B21, m21, d21, rfl⟩ := x1.shape
      replace x1 := IsL.small (IsL.to (s := M.addT (M.scaleT [(max (j : Int) 0, 1)] yc) t8) (μ := 0) x1 rfl (by omega)) (HTN.out.small HSM.out) (by decide)
      refine ⟨_, rfl, hb, ?_⟩
      replace EY := hid (EY.out.trans hb)
      replace Q19 := hid (Q19.out.up hb)
      have S21 := hid x1
      clear hb x1
      simp only [Act.put, pA, pB, pC]
      refine WE.store3 (g := gV8) (x := .slice A21 n21 c21) (y := .bool g21) (z := .slice B21 m21 d21) (t := 27) rfl rfl (by rfl) (fun w hb => ?_) (V8.out.up EY.out) (by rfl) fun ws hk hs => ?_
      · obtain ⟨ce0, ce1, ce2⟩ := hb.c3; obtain ⟨f0, f1, f2⟩ := hb.f3; go_simp
      intro hbx
      replace S70 := hid ((S70.out.up EY.out).kb (V8.out.up EY.out) (by rfl) hk hs)
      replace S80 := hid ((S80.out.up EY.out).kb (V8.out.up EY.out) (by rfl) hk hs)
      replace S16 := hid ((S16.out.up EY.out).kb (V8.out.up EY.out) (by rfl) hk hs)
      replace S17 := hid ((S17.out.up EY.out).kb (V8.out.up EY.out) (by rfl) hk hs)
      replace S21 := hid (S21.out.kb (V8.out.up EY.out) (by rfl) hk hs)
      replace E := hid ((E.out.trans EY.out).keptG hk HGV8.out)
      replace V7 := hid ((V7.out.up EY.out).kept hk (by simpa using HNV8V7.out.symm))
      replace V8 := hid hbx
      replace Q19 := hid (Q19.out.kz hs)
      clear hk hs hbx
      replace EY := hid (Ext.refl ws)
      refine WE.done ?_
      by_cases hx0 : xc = 0
      · have hxd : (xc != 0) = false := by rw [hx0]; rfl
        go_upto_region 13 with (fail)
        refine wp_region_T [(0, 0), (1, 0), (2, 0), (3, 0), (4, 0)] (by kernel_rfl) fun wd hb => ?_
        replace EY := hid (EY.out.trans hb)
        clear hb
        refine WE.pure (d := some 59) rfl rfl (by rfl) (v := (.slice (some ap) nc cc)) (fun w' hk => by go_simp) ?_
        simp only [Act.put, pA, pB, pC]
        refine WE.pure (d := some 60) rfl rfl (by rfl) (v := (.int .i64 (i : Int))) (fun w' hk => by go_simp) ?_
        simp only [Act.put, pA, pB, pC]
        refine WE.pure (d := some 61) rfl rfl (by rfl) (v := (.pointer (some (ap.add i)))) (fun w' hk => ?_) ?_
        · go_simp
        simp only [Act.put, pA, pB, pC]
        refine WE.pure (d := some 62) rfl rfl (by rfl) (v := (.int .i8 xc)) (fun w' hk => ?_) ?_
        · have ce0 : w'.cell? (ap.add i) = some (.int .i8 xc) := (CAxc.out.up (E.out.trans EY.out)).up hk; go_simp
        simp only [Act.put, pA, pB, pC]
        refine WE.pure (d := some 63) rfl rfl (by rfl) (v := (.bool false)) (fun w' hk => by go_simp) ?_
        simp only [Act.put, pA, pB, pC]
        refine WE.done ?_
        go_wp2
        go_roundw
        case rel => exact ⟨cnt, i + 1, A17, n17, c17, g17, B17, m17, d17, A21, n21, c21, g21, B21, m21, d21, _, rfl, by go_num, by omega, by rw [M.bt_len, HGxc.out, if_pos hx0]; exact HCT.out, (E.out.trans EY.out), (V7.out.up EY.out), (V8.out.up EY.out), (S17.out.up EY.out), (S21.out.up EY.out), HTN.out⟩
        case measure => simp [intOf]; all_goals omega
      · have hxd : (xc != 0) = true := by simpa using hx0
        have hcw : IntKind.i64.wrap ((cnt : Int) + 1) = (cnt : Int) + 1 := by have h1 := HCT.out; have h2 := M.bt_short xs i; rw [IntKind.wrap_i64]; omega
        go_upto_region 13 with (fail)
        refine wp_region_T [(0, 0), (1, 0), (2, 0), (3, 0), (4, 0)] (by kernel_rfl) fun wd hb => ?_
        replace EY := hid (EY.out.trans hb)
        clear hb
        refine WE.pure (d := some 59) rfl rfl (by rfl) (v := (.slice (some ap) nc cc)) (fun w' hk => by go_simp) ?_
        simp only [Act.put, pA, pB, pC]
        refine WE.pure (d := some 60) rfl rfl (by rfl) (v := (.int .i64 (i : Int))) (fun w' hk => by go_simp) ?_
        simp only [Act.put, pA, pB, pC]
        refine WE.pure (d := some 61) rfl rfl (by rfl) (v := (.pointer (some (ap.add i)))) (fun w' hk => ?_) ?_
        · go_simp
        simp only [Act.put, pA, pB, pC]
        refine WE.pure (d := some 62) rfl rfl (by rfl) (v := (.int .i8 xc)) (fun w' hk => ?_) ?_
        · have ce0 : w'.cell? (ap.add i) = some (.int .i8 xc) := (CAxc.out.up (E.out.trans EY.out)).up hk; go_simp
        simp only [Act.put, pA, pB, pC]
        refine WE.pure (d := some 63) rfl rfl (by rfl) (v := (.bool true)) (fun w' hk => by go_simp) ?_
        simp only [Act.put, pA, pB, pC]
        refine WE.done ?_
        go_upto_region 14 with (fail)
        refine wp_region_T [(0, 0), (1, 0), (2, 0)] (by kernel_rfl) fun wd hb => ?_
        replace EY := hid (EY.out.trans hb)
        clear hb
        refine WE.pure (d := some 64) rfl rfl (by rfl) (v := (.int .i64 (cnt : Int))) (fun w' hk => by go_simp) ?_
        simp only [Act.put, pA, pB, pC]
        refine WE.pure (d := some 65) rfl rfl (by rfl) (v := (.int .i64 ((cnt : Int) + 1))) (fun w' hk => by go_simp) ?_
        simp only [Act.put, pA, pB, pC]
        refine WE.pure (d := some 9) rfl rfl (by rfl) (v := (.int .i64 ((cnt : Int) + 1))) (fun w' hk => by go_simp) ?_
        simp only [Act.put, pA, pB, pC]
        refine WE.done ?_
        go_wp2
        go_roundw
        case rel => exact ⟨cnt + 1, i + 1, A17, n17, c17, g17, B17, m17, d17, A21, n21, c21, g21, B21, m21, d21, _, by go_num, by go_num, by omega, by rw [M.bt_len, HGxc.out, if_neg hx0, ← HCT.out], (E.out.trans EY.out), (V7.out.up EY.out), (V8.out.up EY.out), (S17.out.up EY.out), (S21.out.up EY.out), HTN.out⟩
        case measure => simp [intOf]; all_goals omega
    · obtain rfl : i = nc := by omega
      have hlt' : decide ((i : Int) < (i : Int)) = false := by simp
      go_upto_region 8 with (fail)
      refine wp_region_T [(0, 0), (1, 0), (2, 0), (3, 0)] (by kernel_rfl) fun wd hb => ?_
      replace EY := hid (EY.out.trans hb)
      clear hb
      refine WE.pure (d := some 24) rfl rfl (by rfl) (v := (.int .i64 (i : Int))) (fun w' hk => by go_simp) ?_
      simp only [Act.put, pA, pB, pC]
      refine WE.pure (d := some 25) rfl rfl (by rfl) (v := (.slice Ac i cc)) (fun w' hk => by go_simp) ?_
      simp only [Act.put, pA, pB, pC]
      refine WE.pure (d := some 26) rfl rfl (by rfl) (v := (.int .i64 (i : Int))) (fun w' hk => by go_simp) ?_
      simp only [Act.put, pA, pB, pC]
      refine WE.pure (d := some 27) rfl rfl (by rfl) (v := (.bool false)) (fun w' hk => by go_simp) ?_
      simp only [Act.put, pA, pB, pC]
      refine WE.done ?_
      have HFIN := hid HT.out.fin
      go_upto_region 15 with (fail)
      refine wp_region_E [(0, 0), (1, 0), (2, 0), (3, 1), (4, 1), (5, 1), (6, 4)] (fun _ => (0, #[])) rfl (by kernel_rfl) (by intro j hj; cases hj) (fun _ _ d _ _ => by cases d <;> exact Iff.rfl) fun wd hb => ?_
      replace EY := hid (EY.out.trans hb)
      clear hb
      refine WE.pure (d := some 66) rfl rfl (by rfl) (v := (.agg #[.slice A8 n8 c8, .bool g8, .slice B8 m8 d8])) (fun w' hk => ?_) ?_
      · obtain ⟨ce0, ce1, ce2⟩ := ((V8.out.up EY.out).up hk).c3; go_simp
      simp only [Act.put, pA, pB, pC]
      refine WE.pure (d := some 67) rfl rfl (by rfl) (v := (.int .i16 kk)) (fun w' hk => by go_simp) ?_
      simp only [Act.put, pA, pB, pC]
      refine WE.pure (d := some 68) rfl rfl (by rfl) (v := (.int .i64 kk)) (fun w' hk => by go_simp) ?_
      simp only [Act.put, pA, pB, pC]
      refine WE.call (d := some 69) rfl rfl (by rfl) (by go_simp) ((rOf_z (n := kk) (by have := HKK.out; omega) (by have := HKK.out; omega) _).mono ?_)
      rintro e wn ⟨v1, rfl, x1, hb⟩
      obtain ⟨g14, A14, n14, c14, rfl⟩ := x1.shape
      refine ⟨_, rfl, hb, ?_⟩
      replace EY := hid (EY.out.trans hb)
      have Q14 := hid x1
      clear hb x1
      simp only [Act.put, pA, pB, pC]
      refine WE.call (d := some 70) rfl rfl (by rfl) (by go_simp) ((constL_l (Worth.wide Q14.out.worth (k := 3) (by omega)) (by decide)).mono ?_)
      rintro e wn ⟨v1, rfl, x1, hb⟩
      obtain ⟨A15, n15, c15, g15, B15, m15, d15, rfl⟩ := x1.shape
      refine ⟨_, rfl, hb, ?_⟩
      replace EY := hid (EY.out.trans hb)
      have S15 := hid x1
      clear hb x1
      simp only [Act.put, pA, pB, pC]
      refine WE.call (d := some 71) rfl rfl (by rfl) (by go_simp) ((addL_l (WorthL.wide (S80.out.up EY.out).worth (U := 3) (by omega)) (WorthL.wide S15.out.worth (U := 3) (by omega)) (by omega) (Nat.le_trans (Nat.le_trans HT.out.len (show i ≤ 8 by omega)) (by decide)) (by decide)).mono ?_)
      rintro e wn ⟨v1, rfl, x1, hb⟩
      obtain ⟨A16, n16, c16, g16, B16, m16, d16, rfl⟩ := x1.shape
      replace x1 := IsL.to (s := M.bt xs i) (μ := kk) x1 ((M.addT_nil _).trans HFIN.out) (by omega)
      refine ⟨_, rfl, hb, ?_⟩
      replace EY := hid (EY.out.trans hb)
      have S16 := hid x1
      clear hb x1
      simp only [Act.put, pA, pB, pC]
      refine WE.store3 (g := gV8) (x := .slice A16 n16 c16) (y := .bool g16) (z := .slice B16 m16 d16) (t := 27) rfl rfl (by rfl) (fun w hb => ?_) (V8.out.up EY.out) (by rfl) fun ws hk hs => ?_
      · obtain ⟨ce0, ce1, ce2⟩ := hb.c3; obtain ⟨f0, f1, f2⟩ := hb.f3; go_simp
      intro hbx
      replace S70 := hid ((S70.out.up EY.out).kb (V8.out.up EY.out) (by rfl) hk hs)
      replace S16 := hid (S16.out.kb (V8.out.up EY.out) (by rfl) hk hs)
      replace E := hid ((E.out.trans EY.out).keptG hk HGV8.out)
      replace V7 := hid ((V7.out.up EY.out).kept hk (by simpa using HNV8V7.out.symm))
      replace V8 := hid hbx
      clear hk hs hbx
      replace EY := hid (Ext.refl ws)
      refine WE.done ?_
      have HN7 := hid (show n7 = cnt from (S70.out.up EY.out).cnt.trans HCT.out.symm)
      have Q70 := hid (S70.out.up EY.out).zk
      have hne : ((n7 : Int) != (cnt : Int)) = false := by rw [HN7.out]; simp
      go_upto_region 16 with (fail)
      refine wp_region_E [(0, 0), (1, 0), (2, 1), (3, 0), (4, 0), (5, 0), (6, 1), (7, 0), (8, 0), (9, 0), (10, 0), (11, 0), (12, 0), (13, 0), (14, 0), (15, 0), (16, 0), (17, 0), (18, 0), (19, 0), (20, 0), (21, 1), (22, 1), (23, 0), (24, 0)] (fun _ => (0, #[])) rfl (by kernel_rfl) (by intro j hj; cases hj) (fun _ _ d _ _ => by cases d <;> exact Iff.rfl) fun wd hb => ?_
      replace EY := hid (EY.out.trans hb)
      replace Q70 := hid (Q70.out.up hb)
      clear hb
      refine WE.pure (d := some 72) rfl rfl (by rfl) (v := (.agg #[.slice A7 n7 c7, .bool g7, .slice B7 m7 d7])) (fun w' hk => ?_) ?_
      · obtain ⟨ce0, ce1, ce2⟩ := ((V7.out.up EY.out).up hk).c3; go_simp
      simp only [Act.put, pA, pB, pC]
      refine WE.pure (d := some 73) rfl rfl (by rfl) (v := (.agg #[.slice A16 n16 c16, .bool g16, .slice B16 m16 d16])) (fun w' hk => ?_) ?_
      · obtain ⟨ce0, ce1, ce2⟩ := ((V8.out.up EY.out).up hk).c3; go_simp
      simp only [Act.put, pA, pB, pC]
      refine WE.call (d := some 74) rfl rfl (by rfl) (by go_simp) ((sameL_l (WorthL.wide (S70.out.up EY.out).worth (U := 4) (by omega)) (WorthL.wide (S16.out.up EY.out).worth (U := 4) (by omega)) (b := true) (decide_eq_true (⟨rfl, rfl⟩))).mono ?_)
      rintro e wn ⟨rfl, hb⟩
      refine ⟨_, rfl, hb, ?_⟩
      replace EY := hid (EY.out.trans hb)
      replace Q70 := hid (Q70.out.up hb)
      clear hb
      simp only [Act.put, pA, pB, pC]
      refine WE.pure (d := some 75) rfl rfl (by rfl) (v := (.bool false)) (fun w' hk => by go_simp) ?_
      simp only [Act.put, pA, pB, pC]
      refine WE.pure (d := some 76) rfl rfl (by rfl) (v := (.bool false)) (fun w' hk => by go_simp) ?_
      simp only [Act.put, pA, pB, pC]
      refine WE.pure (d := some 77) rfl rfl (by rfl) (v := (.agg #[.slice A7 n7 c7, .bool g7, .slice B7 m7 d7])) (fun w' hk => ?_) ?_
      · obtain ⟨ce0, ce1, ce2⟩ := ((V7.out.up EY.out).up hk).c3; go_simp
      simp only [Act.put, pA, pB, pC]
      refine WE.call (d := some 78) rfl rfl (by rfl) (by go_simp) (((S70.out.up EY.out).is_yes).mono ?_)
      rintro e wn ⟨rfl, hb⟩
      refine ⟨_, rfl, hb, ?_⟩
      replace EY := hid (EY.out.trans hb)
      replace Q70 := hid (Q70.out.up hb)
      clear hb
      simp only [Act.put, pA, pB, pC]
      refine WE.pure (d := some 79) rfl rfl (by rfl) (v := (.bool false)) (fun w' hk => by go_simp) ?_
      simp only [Act.put, pA, pB, pC]
      refine WE.pure (d := some 80) rfl rfl (by rfl) (v := (.bool false)) (fun w' hk => by go_simp) ?_
      simp only [Act.put, pA, pB, pC]
      refine WE.pure (d := some 81) rfl rfl (by rfl) (v := (.bool false)) (fun w' hk => by go_simp) ?_
      simp only [Act.put, pA, pB, pC]
      refine WE.pure (d := some 82) rfl rfl (by rfl) (v := (.pointer (some ⟨gV7, 0, none⟩))) (fun w' hk => by go_simp) ?_
      simp only [Act.put, pA, pB, pC]
      refine WE.pure (d := some 83) rfl rfl (by rfl) (v := (.slice A7 n7 c7)) (fun w' hk => ?_) ?_
      · have ce0 := hk.cell ((V7.out.up EY.out).cell (o := 0) (v := .slice A7 n7 c7) rfl); go_simp
      simp only [Act.put, pA, pB, pC]
      refine WE.pure (d := some 84) rfl rfl (by rfl) (v := (.int .i64 (n7 : Int))) (fun w' hk => by go_simp) ?_
      simp only [Act.put, pA, pB, pC]
      refine WE.pure (d := some 85) rfl rfl (by rfl) (v := (.int .i64 (cnt : Int))) (fun w' hk => by go_simp) ?_
      simp only [Act.put, pA, pB, pC]
      refine WE.pure (d := some 86) rfl rfl (by rfl) (v := (.bool false)) (fun w' hk => by go_simp) ?_
      simp only [Act.put, pA, pB, pC]
      refine WE.pure (d := some 87) rfl rfl (by rfl) (v := (.bool false)) (fun w' hk => by go_simp) ?_
      simp only [Act.put, pA, pB, pC]
      refine WE.pure (d := some 88) rfl rfl (by rfl) (v := (.bool false)) (fun w' hk => by go_simp) ?_
      simp only [Act.put, pA, pB, pC]
      refine WE.pure (d := some 89) rfl rfl (by rfl) (v := (.pointer (some ⟨gV7, 1, none⟩))) (fun w' hk => by go_simp) ?_
      simp only [Act.put, pA, pB, pC]
      refine WE.pure (d := some 90) rfl rfl (by rfl) (v := (.agg #[.bool g7, .slice B7 m7 d7])) (fun w' hk => ?_) ?_
      · obtain ⟨ce0, ce1, ce2⟩ := ((V7.out.up EY.out).up hk).c3; go_simp
      simp only [Act.put, pA, pB, pC]
      refine WE.pure (d := some 91) rfl rfl (by rfl) (v := (.int .i16 kk)) (fun w' hk => by go_simp) ?_
      simp only [Act.put, pA, pB, pC]
      refine WE.pure (d := some 92) rfl rfl (by rfl) (v := (.int .i64 kk)) (fun w' hk => by go_simp) ?_
      simp only [Act.put, pA, pB, pC]
      refine WE.call (d := some 93) rfl rfl (by rfl) (by go_simp) ((rOf_z (n := kk) (by have := HKK.out; omega) (by have := HKK.out; omega) _).mono ?_)
      rintro e wn ⟨v1, rfl, x1, hb⟩
      obtain ⟨g17, A17, n17, c17, rfl⟩ := x1.shape
      refine ⟨_, rfl, hb, ?_⟩
      replace EY := hid (EY.out.trans hb)
      replace Q70 := hid (Q70.out.up hb)
      have Q17 := hid x1
      clear hb x1
      simp only [Act.put, pA, pB, pC]
      refine WE.call (d := some 94) rfl rfl (by rfl) (by go_simp) ((rEqual_any Q70.out Q17.out (b := true) (decide_eq_true (rfl))).mono ?_)
      rintro e wn ⟨rfl, hb⟩
      refine ⟨_, rfl, hb, ?_⟩
      replace EY := hid (EY.out.trans hb)
      clear hb
      simp only [Act.put, pA, pB, pC]
      refine WE.pure (d := some 95) rfl rfl (by rfl) (v := (.bool false)) (fun w' hk => by go_simp) ?_
      simp only [Act.put, pA, pB, pC]
      refine WE.pure (d := some 96) rfl rfl (by rfl) (v := (.bool false)) (fun w' hk => by go_simp) ?_
      simp only [Act.put, pA, pB, pC]
      refine WE.done ?_
      go_upto_region 18 with (fail)
      refine wp_region_T [(0, 0)] (by kernel_rfl) fun wd hb => ?_
      replace EY := hid (EY.out.trans hb)
      clear hb
      refine WE.pure (d := some 12) rfl rfl (by rfl) (v := (.int .i64 (0))) (fun w' hk => by go_simp) ?_
      simp only [Act.put, pA, pB, pC]
      refine WE.done ?_
      clear Q14
      clear S80
      clear S15
      clear S16
      clear Q70
      clear Q17
      go_wp2
      go_loopw [12] (fun x12 wr => ∃ (p : Nat), x12 = .int .i64 (p : Int) ∧ p ≤ i ∧ Ext W wr ∧ Box wr gV7 #[.slice A7 n7 c7, .bool g7, .slice B7 m7 d7] 27 ∧ IsL wr (.agg #[.slice A7 n7 c7, .bool g7, .slice B7 m7 d7]) (M.bt xs i) kk 1) (fun x12 _ => i - (intOf x12).toNat)
      case atStart => exact ⟨0, rfl, Nat.zero_le _, (E.out.trans EY.out), (V7.out.up EY.out), (S70.out.up EY.out)⟩
      case round =>
        clear E EY V7 V8 S70
        obtain ⟨p, rfl, hr0, hr1, hr2, hr3⟩ := hrel
        have E := hid hr1
        have V7 := hid hr2
        have S70 := hid hr3
        clear hr1 hr2 hr3
        have EY := hid (Ext.refl wr)
        have hp9 := hr0
        by_cases hlp : p < i
        · have hlp' : decide ((p : Int) < (i : Int)) = true := decide_eq_true (by omega)
          obtain ⟨xc, hxxc⟩ : ∃ x, xs[p]? = some x := ⟨_, List.getElem?_eq_getElem (by rw [← HCN.out.1]; omega)⟩
          obtain ⟨ad, adE, caxc, clxc, chxc⟩ := HCL.out.get hxxc
          have HGxc := hid (M.getD_of hxxc)
          have CAxc := hid caxc
          have HBxc := hid (show -128 ≤ xc ∧ xc ≤ 127 from ⟨clxc, chxc⟩)
          have hwxc : IntKind.i64.wrap xc = xc := by rw [IntKind.wrap_i64]; omega
          clear hxxc caxc clxc chxc
          subst adE
          go_upto_region 19 with (fail)
          refine wp_region_T [(0, 0), (1, 0), (2, 0), (3, 0)] (by kernel_rfl) fun wd hb => ?_
          replace EY := hid (EY.out.trans hb)
          clear hb
          refine WE.pure (d := some 97) rfl rfl (by rfl) (v := (.int .i64 (p : Int))) (fun w' hk => by go_simp) ?_
          simp only [Act.put, pA, pB, pC]
          refine WE.pure (d := some 98) rfl rfl (by rfl) (v := (.slice (some ad) i cc)) (fun w' hk => by go_simp) ?_
          simp only [Act.put, pA, pB, pC]
          refine WE.pure (d := some 99) rfl rfl (by rfl) (v := (.int .i64 (i : Int))) (fun w' hk => by go_simp) ?_
          simp only [Act.put, pA, pB, pC]
          refine WE.pure (d := some 100) rfl rfl (by rfl) (v := (.bool true)) (fun w' hk => by go_simp) ?_
          simp only [Act.put, pA, pB, pC]
          refine WE.done ?_
          go_upto_region 21 with (fail)
          refine wp_region_E [(0, 0), (1, 0), (3, 0), (4, 0), (5, 0), (6, 0), (7, 0), (2, 1), (8, 1), (9, 1), (10, 0)] (fun _ => (0, #[])) rfl (by kernel_rfl) (by intro j hj; cases hj) (fun _ _ d _ _ => by cases d <;> exact Iff.rfl) fun wd hb => ?_
          replace EY := hid (EY.out.trans hb)
          clear hb
          refine WE.pure (d := some 103) rfl rfl (by rfl) (v := (.agg #[.slice A7 n7 c7, .bool g7, .slice B7 m7 d7])) (fun w' hk => ?_) ?_
          · obtain ⟨ce0, ce1, ce2⟩ := ((V7.out.up EY.out).up hk).c3; go_simp
          simp only [Act.put, pA, pB, pC]
          refine WE.pure (d := some 104) rfl rfl (by rfl) (v := (.int .i64 (p : Int))) (fun w' hk => by go_simp) ?_
          simp only [Act.put, pA, pB, pC]
          refine WE.pure (d := some 106) rfl rfl (by rfl) (v := (.slice (some ad) i cc)) (fun w' hk => by go_simp) ?_
          simp only [Act.put, pA, pB, pC]
          refine WE.pure (d := some 107) rfl rfl (by rfl) (v := (.int .i64 (p : Int))) (fun w' hk => by go_simp) ?_
          simp only [Act.put, pA, pB, pC]
          refine WE.pure (d := some 108) rfl rfl (by rfl) (v := (.pointer (some (ad.add p)))) (fun w' hk => ?_) ?_
          · go_simp
          simp only [Act.put, pA, pB, pC]
          refine WE.pure (d := some 109) rfl rfl (by rfl) (v := (.int .i8 xc)) (fun w' hk => ?_) ?_
          · have ce0 : w'.cell? (ad.add p) = some (.int .i8 xc) := (CAxc.out.up (E.out.trans EY.out)).up hk; go_simp
          simp only [Act.put, pA, pB, pC]
          refine WE.pure (d := some 110) rfl rfl (by rfl) (v := (.int .i64 xc)) (fun w' hk => by go_simp) ?_
          simp only [Act.put, pA, pB, pC]
          refine WE.call (d := some 105) rfl rfl (by rfl) (by go_simp) ((coefL_l (WorthL.wide (S70.out.up EY.out).worth (U := 1) (by omega)) (Nat.le_trans (Nat.le_trans (M.bt_short xs i) (show i ≤ 8 by omega)) (by decide)) (by omega) (v := (p : Int))).mono ?_)
          rintro e wn ⟨v1, rfl, x1, hb⟩
          obtain ⟨g18, A18, n18, c18, rfl⟩ := x1.shape
          refine ⟨_, rfl, hb, ?_⟩
          replace EY := hid (EY.out.trans hb)
          have Q18 := hid x1
          clear hb x1
          simp only [Act.put, pA, pB, pC]
          refine WE.call (d := some 111) rfl rfl (by rfl) (by go_simp) ((rOf_z (n := xc) (by have := HBxc.out; omega) (by have := HBxc.out; omega) _).mono ?_)
          rintro e wn ⟨v1, rfl, x1, hb⟩
          obtain ⟨g19, A19, n19, c19, rfl⟩ := x1.shape
          refine ⟨_, rfl, hb, ?_⟩
          replace EY := hid (EY.out.trans hb)
          replace Q18 := hid (Q18.out.up hb)
          have Q19 := hid x1
          clear hb x1
          simp only [Act.put, pA, pB, pC]
          refine WE.call (d := some 112) rfl rfl (by rfl) (by go_simp) ((rEqual_any Q18.out Q19.out (b := true) (decide_eq_true (by rw [M.coef_bt, if_pos (by omega), Int.toNat_natCast, HGxc.out]))).mono ?_)
          rintro e wn ⟨rfl, hb⟩
          refine ⟨_, rfl, hb, ?_⟩
          replace EY := hid (EY.out.trans hb)
          clear hb
          simp only [Act.put, pA, pB, pC]
          refine WE.pure (d := some 113) rfl rfl (by rfl) (v := (.bool false)) (fun w' hk => by go_simp) ?_
          simp only [Act.put, pA, pB, pC]
          refine WE.done ?_
          go_wp2
          go_roundw
          case rel => exact ⟨p + 1, by go_num, by omega, (E.out.trans EY.out), (V7.out.up EY.out), (S70.out.up EY.out)⟩
          case measure => simp [intOf]; all_goals omega
        · obtain rfl : p = i := by omega
          have hlp' : decide ((p : Int) < (p : Int)) = false := by simp
          go_upto_region 19 with (fail)
          refine wp_region_T [(0, 0), (1, 0), (2, 0), (3, 0)] (by kernel_rfl) fun wd hb => ?_
          replace EY := hid (EY.out.trans hb)
          clear hb
          refine WE.pure (d := some 97) rfl rfl (by rfl) (v := (.int .i64 (p : Int))) (fun w' hk => by go_simp) ?_
          simp only [Act.put, pA, pB, pC]
          refine WE.pure (d := some 98) rfl rfl (by rfl) (v := (.slice Ac p cc)) (fun w' hk => by go_simp) ?_
          simp only [Act.put, pA, pB, pC]
          refine WE.pure (d := some 99) rfl rfl (by rfl) (v := (.int .i64 (p : Int))) (fun w' hk => by go_simp) ?_
          simp only [Act.put, pA, pB, pC]
          refine WE.pure (d := some 100) rfl rfl (by rfl) (v := (.bool false)) (fun w' hk => by go_simp) ?_
          simp only [Act.put, pA, pB, pC]
          refine WE.done ?_
          go_upto_region 23 with (fail)
          refine wp_region_T [(0, 0)] (by kernel_rfl) fun wd hb => ?_
          replace EY := hid (EY.out.trans hb)
          clear hb
          refine WE.pure (d := some 6) rfl rfl (by rfl) (v := (.bool true)) (fun w' hk => by go_simp) ?_
          simp only [Act.put, pA, pB, pC]
          refine WE.done ?_
          repeat go_step
          go_ret
          exact ⟨rfl, (E.out.trans EY.out)⟩

theorem linBuilt_walk (W : World) (Ac : Option Addr) (nc cc : Nat) (xs : List Int) (hc : CList W (.slice Ac nc cc) xs) (tu : Int) (htu : 0 ≤ tu ∧ tu ≤ 255) (kk : Int) (hkk : -32768 ≤ kk ∧ kk ≤ 32767) :
    Calls Tryz.prog 5 #[.slice Ac nc cc, .int .u8 tu, .int .i16 kk] W (fun e w' => e = .returned (.bool true) ∧ Ext W w') := by
  by_cases h8 : nc ≤ 8
  · exact linBuilt_main W Ac nc cc xs hc tu htu kk hkk (hid h8)
  · exact linBuilt_skip W Ac nc cc xs hc tu htu kk hkk (hid (by omega))

set_option maxRecDepth 100000 in
theorem linBuilt_lifted (os : Os) (started : os.Started) (H : Type) (enc : TypeId × Value → H) :
    ReturnsInHanded {} Tryz.checked os 5 .any (Rows.linBuiltSpec.pre6 enc Tryz.prog Tryz.f5 Rows.linBuiltRow.domain false) (Rows.linBuiltSpec.post enc Tryz.prog Tryz.f5 false true false false) := by
  refine returnsInHanded_of_change (C := Tryz.checked) own started (by kernel_rfl) Tryz.func5
    (ChangeSpec.witness6 (enc := enc) (C := Tryz.checked) false ⟨#[], #[.slice none 0 0, .int .u8 0, .int .i16 0], []⟩ 8 (by kernel_rfl) (by kernel_rfl) (by kernel_rfl) (by kernel_rfl)) ?_
  intro W base args ds gs before hval0 hW _ _
  have hval : ∀ (j : Nat) t v, Tryz.f5.params[j]? = some t → args[j]? = some v → Value.okWide Tryz.prog W .any base t v := hval0
  have hW' := hW
  obtain ⟨p, q, hA0, hV, rfl, hfz, hnd⟩ := hW
  have hA : DataW.TrodAll enc Tryz.prog W 0 (fun _ => true) true Tryz.f5.params.toList args.toList ds p := hA0
  rw [Tryz.params5] at hA hval
  obtain ⟨v0, vs0, d0, ds0, p0, q0, hargs, rfl, rfl, h0, r0⟩ := trodAll_cons hA
  obtain ⟨v1, vs1, d1, ds1, p1, q1, rfl, rfl, rfl, h1, r1⟩ := trodAll_cons r0
  obtain ⟨v2, vs2, d2, ds2, p2, q2, rfl, rfl, rfl, h2, r2⟩ := trodAll_cons r1
  obtain ⟨rfl, rfl, rfl⟩ := trodAll_nil r2
  obtain rfl : args = #[v0, v1, v2] := by cases args; simp_all
  obtain ⟨rfl, rfl⟩ := trodVars_none hV
  obtain ⟨A0, n0, c0, l0, rfl, e0⟩ := open_CL (hval 0 47 _ rfl rfl) h0
  obtain ⟨a1, rfl, -, -, w1⟩ := open_int Tryz.underlying5 (hval 1 5 v1 rfl rfl) h1
  obtain ⟨a2, rfl, -, -, w2⟩ := open_int Tryz.underlying48 (hval 2 48 v2 rfl rfl) h2
  clear hA0 hval0
  refine (linBuilt_walk W A0 n0 c0 l0 e0 a1 (u8_of_wf w1) a2 (i16_of_wf w2)).mono fun e W' ⟨he, hg⟩ => ?_
  subst he
  exact ⟨_, rfl, law_post hW' rfl rfl (by kernel_rfl) (by kernel_rfl) hg⟩

theorem linBuilt_over : Rows.linBuiltRow.holds Tryz.pinned (OpenSpec.ofChange Rows.linBuiltSpec) :=
  OpenClaim.holds_of_wide 5 Tryz.f5 rfl rfl rfl rfl rfl rfl rfl ⟨rfl, rfl, rfl, rfl, rfl⟩ rfl rfl rfl rfl rfl (by kernel_rfl) Tryz.func5 (by kernel_rfl)
    (of_decide_eq_true (by kernel_rfl)) (by unfold Func.isWrapper; first | (rw [if_pos (by decide +kernel)]; kernel_rfl) | (rw [if_neg (by decide +kernel)]; exact ⟨rfl, rfl⟩))
    (fun os started H enc _ => linBuilt_lifted os started H enc)

theorem linBuilt_proved : Rows.LinBuiltSaid := linBuilt_over

end Go.Proofs.YtfjehdcdbejlnaaGreat
