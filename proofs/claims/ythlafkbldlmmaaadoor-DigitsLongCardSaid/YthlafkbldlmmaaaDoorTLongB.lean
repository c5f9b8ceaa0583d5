/-
  DigitsLong, two more.
-/
import Derived.Test.YthlafkbldlmmaaaDoorTLaid
import Derived.Test.YthlafkbldlmmaaaDoorTLongM
import Derived.Test.YthlafkbldlmmaaaDoorRZA
namespace Go.Proofs.YthlafkbldlmmaaaDoor
open Go.ChangeShapes Go.WideShapes Go.ChangeAt Go.RowKit
set_option linter.unusedSimpArgs false
set_option linter.unusedVariables false

set_option maxRecDepth 100000 in
set_option maxHeartbeats 4000000 in
theorem digitsLong_ns (W : World) (ht : Tab W) (a b : Int) (ha0 : 0 ≤ a) (hb0 : 0 ≤ b) (r c : Nat) (ha : a % 3 = (r : Int)) (hb : b % 9 = (c : Int)) (hc : c < 9) (hr : r < 2) (s : List UInt8) (hs : M.long c (358 + r) = s) (hl : s.length = 359 + r) (Z : Int) (hpv : M.pval (40 :: 45 :: 32 :: (s ++ [41])) = Z) (hpe : M.perr (40 :: 45 :: 32 :: (s ++ [41])) = 0) (hpr : M.print Z = (40 :: 45 :: 32 :: (s ++ [41]))) (hng : decide (Z < 0) = true) (hnu : M.numeral s = true) (hnz : M.numeral (48 :: s) = false) :
    Calls Tryd.prog 5 #[.int .u8 a, .int .u8 b, .bool true] W (fun e w' => e = .returned (.bool true) ∧ Ext W w') := by
  obtain ⟨x, hx⟩ : ∃ x : Nat, x = 49 + c := ⟨_, rfl⟩
  have HX := hid (show x = 49 + c ∧ x < 58 from ⟨hx, by omega⟩)
  clear hx
  have HT := hid ht
  have HA0 := hid ha0
  have HB0 := hid hb0
  have HA := hid ha
  have HB := hid hb
  have HC := hid hc
  have HR := hid hr
  have HS := hid hs
  have HL := hid hl
  have HPV := hid hpv
  have HPE := hid hpe
  have HPR := hid hpr
  have HNG := hid hng
  have HNU := hid hnu
  have HNZ := hid hnz
  clear ht ha0 hb0 ha hb hc hr hs hl hpv hpe hpr hng hnu hnz
  go_enter Tryd.func5, Tryd.ntmps5
  go_upto_region 1 with (fail)
  have E := hid (Ext.refl W)
  refine wp_region_T [(0, 1), (1, 0)] (by kernel_rfl) fun wd hb => ?_
  replace E := hid (E.out.trans hb)
  clear hb
  refine WE.call (d := some 13) rfl rfl (by rfl) (f := 8) (args := #[]) (by go_simp) ?_
  refine (known3 _ (HT.out.up E.out)).mono ?_
  rintro e wn ⟨rfl, hb⟩
  refine ⟨_, rfl, hb, ?_⟩
  replace E := hid (E.out.trans hb)
  clear hb
  simp only [Act.put, List.setIfInBounds_toArray, List.set_cons_zero, List.set_cons_succ]
  refine WE.pure (d := some 14) rfl rfl (by rfl) (v := (.bool false)) (fun w' hk => ?_) ?_
  · go_simp
  simp only [Act.put, List.setIfInBounds_toArray, List.set_cons_zero, List.set_cons_succ]
  refine WE.done ?_
  go_upto_region 3 with (fail)
  refine wp_region_T [(0, 0), (1, 0), (2, 0), (3, 0), (4, 0)] (by kernel_rfl) fun wd hb => ?_
  replace E := hid (E.out.trans hb)
  clear hb
  refine WE.pure (d := some 15) rfl rfl (by rfl) (v := (.int .u8 a)) (fun w' hk => ?_) ?_
  · go_simp
  simp only [Act.put, List.setIfInBounds_toArray, List.set_cons_zero, List.set_cons_succ]
  refine WE.pure (d := some 16) rfl rfl (by rfl) (v := (.int .u8 (r : Int))) (fun w' hk => ?_) ?_
  · have q : a.tmod 3 = (r : Int) := (by rw [Int.tmod_eq_emod_of_nonneg HA0.out, HA.out]); go_simp
  simp only [Act.put, List.setIfInBounds_toArray, List.set_cons_zero, List.set_cons_succ]
  refine WE.pure (d := some 17) rfl rfl (by rfl) (v := (.int .i64 (r : Int))) (fun w' hk => ?_) ?_
  · have q : IntKind.i64.wrap (r : Int) = (r : Int) := (by rw [IntKind.wrap_i64]; have := HR.out; omega); go_simp
  simp only [Act.put, List.setIfInBounds_toArray, List.set_cons_zero, List.set_cons_succ]
  refine WE.pure (d := some 18) rfl rfl (by rfl) (v := (.int .i64 (359 + (r : Int)))) (fun w' hk => ?_) ?_
  · have q : IntKind.i64.wrap (359 + (r : Int)) = 359 + (r : Int) := (by rw [IntKind.wrap_i64]; have := HR.out; omega); go_simp
  simp only [Act.put, List.setIfInBounds_toArray, List.set_cons_zero, List.set_cons_succ]
  refine WE.pure (d := some 7) rfl rfl (by rfl) (v := (.int .i64 (359 + (r : Int)))) (fun w' hk => ?_) ?_
  · go_simp
  simp only [Act.put, List.setIfInBounds_toArray, List.set_cons_zero, List.set_cons_succ]
  refine WE.done ?_
  go_upto_region 4 with (fail)
  refine wp_region_T [(0, 0), (1, 0), (2, 0), (3, 1), (4, 0), (5, 0)] (by kernel_rfl) fun wd hb => ?_
  replace E := hid (E.out.trans hb)
  clear hb
  refine WE.pure (d := some 19) rfl rfl (by rfl) (v := (.int .u8 b)) (fun w' hk => ?_) ?_
  · go_simp
  simp only [Act.put, List.setIfInBounds_toArray, List.set_cons_zero, List.set_cons_succ]
  refine WE.pure (d := some 20) rfl rfl (by rfl) (v := (.int .u8 (c : Int))) (fun w' hk => ?_) ?_
  · have q : b.tmod 9 = (c : Int) := (by rw [Int.tmod_eq_emod_of_nonneg HB0.out, HB.out]); go_simp
  simp only [Act.put, List.setIfInBounds_toArray, List.set_cons_zero, List.set_cons_succ]
  refine WE.pure (d := some 21) rfl rfl (by rfl) (v := (.int .u8 (x : Int))) (fun w' hk => ?_) ?_
  · have q : IntKind.u8.wrap (49 + (c : Int)) = (x : Int) := (by rw [IntKind.wrap_u8]; have := HX.out; omega); go_simp
  simp only [Act.put, List.setIfInBounds_toArray, List.set_cons_zero, List.set_cons_succ]
  refine WE.new (d := some 22) (cs := #[.int .u8 (x : Int)]) (t := 5) (v := fun g => (.slice (some ⟨g, 0, none⟩) 1 1)) rfl rfl (by rfl) (fun w => by go_simp) fun gN0 wv hx0 hbox hge => ?_
  have HGN0 := hid (show W.heap.size ≤ gN0 by have := E.out.size; omega)
  replace E := hid (E.out.trans hx0)
  have N0 : Hid (Box wv gN0 #[.int .u8 (x : Int)] 5) := hid hbox
  clear hx0 hbox hge
  simp only [Act.put, List.setIfInBounds_toArray, List.set_cons_zero, List.set_cons_succ]
  refine WE.pure (d := some 23) rfl rfl (by rfl) (v := (str [UInt8.ofNat x])) (fun w' hk => ?_) ?_
  · have q := byte_text x (by have := HX.out; omega) gN0 w' _ (N0.out.up hk); go_simp
  simp only [Act.put, List.setIfInBounds_toArray, List.set_cons_zero, List.set_cons_succ]
  refine WE.pure (d := some 8) rfl rfl (by rfl) (v := (str [UInt8.ofNat x])) (fun w' hk => ?_) ?_
  · go_simp
  simp only [Act.put, List.setIfInBounds_toArray, List.set_cons_zero, List.set_cons_succ]
  refine WE.done ?_
  clear N0 HGN0
  go_upto_region 5 with (fail)
  refine wp_region_T [(0, 0)] (by kernel_rfl) fun wd hb => ?_
  replace E := hid (E.out.trans hb)
  clear hb
  refine WE.pure (d := some 9) rfl rfl (by rfl) (v := (.int .i64 (1))) (fun w' hk => ?_) ?_
  · go_simp
  simp only [Act.put, List.setIfInBounds_toArray, List.set_cons_zero, List.set_cons_succ]
  refine WE.done ?_
  go_wp2
  go_loopw [8, 9] (fun sv i wr => ∃ (j : Nat) (l : List UInt8), i = .int .i64 ((j : Int) + 1) ∧ sv = str l ∧ Hid (M.long c j = l) ∧ j ≤ 358 + r ∧ Ext W wr) (fun _ i _ => 400 - (intOf i).toNat)
  case atStart => exact ⟨0, [UInt8.ofNat x], rfl, rfl, hid (by rw [HX.out.1]; rfl), Nat.zero_le _, E.out⟩
  case round =>
    clear E
    obtain ⟨j, l, rfl, rfl, HJL, hj, hx⟩ := hrel
    have E := hid hx
    have HJ := hid hj
    clear hx hj
    have hlen : l.length = j + 1 := by rw [← HJL.out]; exact M.long_length c j
    have HLEN := hid hlen
    clear hlen
    rcases Nat.lt_or_ge j (358 + r) with hlt | hge
    · have HLT := hid hlt
      clear hlt
      obtain ⟨d, hd⟩ : ∃ d : Nat, d = (j + 1) % 10 := ⟨_, rfl⟩
      have HD := hid hd
      clear hd
      obtain ⟨y, hy⟩ : ∃ y : Nat, y = 48 + d := ⟨_, rfl⟩
      have HY := hid (show y = 48 + d ∧ y < 58 from ⟨hy, by have := HD.out; omega⟩)
      clear hy
      have HQ := hid (show decide ((j : Int) + 1 < 359 + (r : Int)) = true by have := HLT.out; simp; omega)
      go_upto_region 6 with (fail)
      refine wp_region_T [(0, 0), (1, 0), (2, 0)] (by kernel_rfl) fun wd hb => ?_
      replace E := hid (E.out.trans hb)
      clear hb
      refine WE.pure (d := some 24) rfl rfl (by rfl) (v := (.int .i64 ((j : Int) + 1))) (fun w' hk => ?_) ?_
      · go_simp
      simp only [Act.put, List.setIfInBounds_toArray, List.set_cons_zero, List.set_cons_succ]
      refine WE.pure (d := some 25) rfl rfl (by rfl) (v := (.int .i64 (359 + (r : Int)))) (fun w' hk => ?_) ?_
      · go_simp
      simp only [Act.put, List.setIfInBounds_toArray, List.set_cons_zero, List.set_cons_succ]
      refine WE.pure (d := some 26) rfl rfl (by rfl) (v := (.bool true)) (fun w' hk => ?_) ?_
      · have q := HQ.out; go_simp
      simp only [Act.put, List.setIfInBounds_toArray, List.set_cons_zero, List.set_cons_succ]
      refine WE.done ?_
      go_upto_region 8 with (fail)
      refine wp_region_T [(0, 0), (1, 0), (2, 0), (3, 0), (4, 0), (5, 1), (6, 0), (7, 0), (8, 0)] (by kernel_rfl) fun wd hb => ?_
      replace E := hid (E.out.trans hb)
      clear hb
      refine WE.pure (d := some 29) rfl rfl (by rfl) (v := (str l)) (fun w' hk => ?_) ?_
      · go_simp
      simp only [Act.put, List.setIfInBounds_toArray, List.set_cons_zero, List.set_cons_succ]
      refine WE.pure (d := some 30) rfl rfl (by rfl) (v := (.int .i64 ((j : Int) + 1))) (fun w' hk => ?_) ?_
      · go_simp
      simp only [Act.put, List.setIfInBounds_toArray, List.set_cons_zero, List.set_cons_succ]
      refine WE.pure (d := some 31) rfl rfl (by rfl) (v := (.int .i64 (d : Int))) (fun w' hk => ?_) ?_
      · have q : ((j : Int) + 1).tmod 10 = (d : Int) := (by rw [Int.tmod_eq_emod_of_nonneg (by omega)]; have := HD.out; omega); go_simp
      simp only [Act.put, List.setIfInBounds_toArray, List.set_cons_zero, List.set_cons_succ]
      refine WE.pure (d := some 32) rfl rfl (by rfl) (v := (.int .u8 (d : Int))) (fun w' hk => ?_) ?_
      · have q : IntKind.u8.wrap (d : Int) = (d : Int) := (by rw [IntKind.wrap_u8]; have := HD.out; omega); go_simp
      simp only [Act.put, List.setIfInBounds_toArray, List.set_cons_zero, List.set_cons_succ]
      refine WE.pure (d := some 33) rfl rfl (by rfl) (v := (.int .u8 (y : Int))) (fun w' hk => ?_) ?_
      · have q : IntKind.u8.wrap (48 + (d : Int)) = (y : Int) := (by rw [IntKind.wrap_u8]; have := HY.out; omega); go_simp
      simp only [Act.put, List.setIfInBounds_toArray, List.set_cons_zero, List.set_cons_succ]
      refine WE.new (d := some 34) (cs := #[.int .u8 (y : Int)]) (t := 5) (v := fun g => (.slice (some ⟨g, 0, none⟩) 1 1)) rfl rfl (by rfl) (fun w => by go_simp) fun gN1 wv hx0 hbox hge => ?_
      have HGN1 := hid (show W.heap.size ≤ gN1 by have := E.out.size; omega)
      replace E := hid (E.out.trans hx0)
      have N1 : Hid (Box wv gN1 #[.int .u8 (y : Int)] 5) := hid hbox
      clear hx0 hbox hge
      simp only [Act.put, List.setIfInBounds_toArray, List.set_cons_zero, List.set_cons_succ]
      refine WE.pure (d := some 35) rfl rfl (by rfl) (v := (str [UInt8.ofNat y])) (fun w' hk => ?_) ?_
      · have q := byte_text y (by have := HY.out; omega) gN1 w' _ (N1.out.up hk); go_simp
      simp only [Act.put, List.setIfInBounds_toArray, List.set_cons_zero, List.set_cons_succ]
      refine WE.pure (d := some 36) rfl rfl (by rfl) (v := str (l ++ [UInt8.ofNat y])) (fun w' hk => ?_) ?_
      · go_simp
        rw [if_neg (by have := HLEN.out; have := HJ.out; have := HR.out; omega)]
        exact congrArg (fun x => Result.ok (Next.value (Value.string x)) w') (str_cat l [UInt8.ofNat y])
      simp only [Act.put, List.setIfInBounds_toArray, List.set_cons_zero, List.set_cons_succ]
      refine WE.pure (d := some 8) rfl rfl (by rfl) (v := (str (l ++ [UInt8.ofNat y]))) (fun w' hk => ?_) ?_
      · go_simp
      simp only [Act.put, List.setIfInBounds_toArray, List.set_cons_zero, List.set_cons_succ]
      refine WE.done ?_
      clear N1 HGN1
      go_upto_region 7 with (fail)
      refine wp_region_T [(0, 0), (1, 0), (2, 0)] (by kernel_rfl) fun wd hb => ?_
      replace E := hid (E.out.trans hb)
      clear hb
      refine WE.pure (d := some 27) rfl rfl (by rfl) (v := (.int .i64 ((j : Int) + 1))) (fun w' hk => ?_) ?_
      · go_simp
      simp only [Act.put, List.setIfInBounds_toArray, List.set_cons_zero, List.set_cons_succ]
      refine WE.pure (d := some 28) rfl rfl (by rfl) (v := (.int .i64 ((j : Int) + 1 + 1))) (fun w' hk => ?_) ?_
      · have q : IntKind.i64.wrap ((j : Int) + 1 + 1) = (j : Int) + 1 + 1 := (by rw [IntKind.wrap_i64]; have := HJ.out; have := HR.out; omega); go_simp
      simp only [Act.put, List.setIfInBounds_toArray, List.set_cons_zero, List.set_cons_succ]
      refine WE.pure (d := some 9) rfl rfl (by rfl) (v := (.int .i64 ((j : Int) + 1 + 1))) (fun w' hk => ?_) ?_
      · go_simp
      simp only [Act.put, List.setIfInBounds_toArray, List.set_cons_zero, List.set_cons_succ]
      refine WE.done ?_
      go_wp2
      go_roundw
      case rel => exact ⟨j + 1, _, by simp, rfl, hid (by rw [M.long, HJL.out, HY.out.1, HD.out]), by have := HLT.out; omega, E.out⟩
      case measure => simp [intOf]; have := HJ.out; have := HR.out; omega
    · obtain rfl : j = 358 + r := by have := HJ.out; omega
      obtain rfl : l = s := by rw [← HJL.out]; exact HS.out
      have HQ := hid (show decide (((358 + r : Nat) : Int) + 1 < 359 + (r : Int)) = false by simp; omega)
      clear hge HJ HJL
      go_upto_region 6 with (fail)
      refine wp_region_T [(0, 0), (1, 0), (2, 0)] (by kernel_rfl) fun wd hb => ?_
      replace E := hid (E.out.trans hb)
      clear hb
      refine WE.pure (d := some 24) rfl rfl (by rfl) (v := (.int .i64 (((358 + r : Nat) : Int) + 1))) (fun w' hk => ?_) ?_
      · go_simp
      simp only [Act.put, List.setIfInBounds_toArray, List.set_cons_zero, List.set_cons_succ]
      refine WE.pure (d := some 25) rfl rfl (by rfl) (v := (.int .i64 (359 + (r : Int)))) (fun w' hk => ?_) ?_
      · go_simp
      simp only [Act.put, List.setIfInBounds_toArray, List.set_cons_zero, List.set_cons_succ]
      refine WE.pure (d := some 26) rfl rfl (by rfl) (v := (.bool false)) (fun w' hk => ?_) ?_
      · have q : 359 + (r : Int) ≤ 358 + (r : Int) + 1 := (by omega); go_simp
      simp only [Act.put, List.setIfInBounds_toArray, List.set_cons_zero, List.set_cons_succ]
      refine WE.done ?_
      go_upto_region 9 with (fail)
      refine wp_region_T [(0, 0), (1, 0)] (by kernel_rfl) fun wd hb => ?_
      replace E := hid (E.out.trans hb)
      clear hb
      refine WE.pure (d := some 37) rfl rfl (by rfl) (v := (str l)) (fun w' hk => ?_) ?_
      · go_simp
      simp only [Act.put, List.setIfInBounds_toArray, List.set_cons_zero, List.set_cons_succ]
      refine WE.pure (d := some 10) rfl rfl (by rfl) (v := (str l)) (fun w' hk => ?_) ?_
      · go_simp
      simp only [Act.put, List.setIfInBounds_toArray, List.set_cons_zero, List.set_cons_succ]
      refine WE.done ?_
      go_upto_region 10 with (fail)
      refine wp_region_T [(0, 0)] (by kernel_rfl) fun wd hb => ?_
      replace E := hid (E.out.trans hb)
      clear hb
      refine WE.pure (d := some 38) rfl rfl (by rfl) (v := (.bool true)) (fun w' hk => ?_) ?_
      · go_simp
      simp only [Act.put, List.setIfInBounds_toArray, List.set_cons_zero, List.set_cons_succ]
      refine WE.done ?_
      go_upto_region 11 with (fail)
      refine wp_region_T [(0, 0), (1, 0), (2, 0), (3, 0)] (by kernel_rfl) fun wd hb => ?_
      replace E := hid (E.out.trans hb)
      clear hb
      refine WE.pure (d := some 39) rfl rfl (by rfl) (v := (str l)) (fun w' hk => ?_) ?_
      · go_simp
      simp only [Act.put, List.setIfInBounds_toArray, List.set_cons_zero, List.set_cons_succ]
      refine WE.pure (d := some 40) rfl rfl (by rfl) (v := str (40 :: 45 :: 32 :: l)) (fun w' hk => ?_) ?_
      · go_simp
        rw [if_neg (by have := HL.out; have := HR.out; omega)]
        exact congrArg (fun x => Result.ok (Next.value (Value.string x)) w') (str_cat [40, 45, 32] l)
      simp only [Act.put, List.setIfInBounds_toArray, List.set_cons_zero, List.set_cons_succ]
      refine WE.pure (d := some 41) rfl rfl (by rfl) (v := str (40 :: 45 :: 32 :: (l ++ [41]))) (fun w' hk => ?_) ?_
      · go_simp
        rw [if_neg (by have := HL.out; have := HR.out; omega)]
        exact congrArg (fun x => Result.ok (Next.value (Value.string x)) w') (str_cat (40 :: 45 :: 32 :: l) [41])
      simp only [Act.put, List.setIfInBounds_toArray, List.set_cons_zero, List.set_cons_succ]
      refine WE.pure (d := some 10) rfl rfl (by rfl) (v := (str (40 :: 45 :: 32 :: (l ++ [41])))) (fun w' hk => ?_) ?_
      · go_simp
      simp only [Act.put, List.setIfInBounds_toArray, List.set_cons_zero, List.set_cons_succ]
      refine WE.done ?_
      go_upto_region 12 with (fail)
      refine wp_region_T [(0, 0), (1, 1), (2, 0), (3, 0), (4, 0), (5, 1), (6, 4), (7, 0)] (by kernel_rfl) fun wd hb => ?_
      replace E := hid (E.out.trans hb)
      clear hb
      refine WE.pure (d := some 43) rfl rfl (by rfl) (v := (str (40 :: 45 :: 32 :: (l ++ [41])))) (fun w' hk => ?_) ?_
      · go_simp
      simp only [Act.put, List.setIfInBounds_toArray, List.set_cons_zero, List.set_cons_succ]
      refine WE.call (d := some 44) rfl rfl (by rfl) (f := 9) (args := #[(str (40 :: 45 :: 32 :: (l ++ [41])))]) (by go_simp) ?_
      refine (parse_to (l := (40 :: 45 :: 32 :: (l ++ [41]))) (by have := HL.out; have := HR.out; simp; omega) _ HPV.out HPE.out).mono ?_
      rintro e wn ⟨vx, rfl, hx, hb⟩
      obtain ⟨g1, A1, n1, c1, rfl, hs1, hr1⟩ := hx.form
      clear hx
      refine ⟨_, rfl, hb, ?_⟩
      replace E := hid (E.out.trans hb)
      have HS1 := hid hs1
      have R1 := hid hr1
      clear hb hs1 hr1
      simp only [Act.put, List.setIfInBounds_toArray, List.set_cons_zero, List.set_cons_succ]
      refine WE.pure (d := some 42) rfl rfl (by rfl) (v := (.tuple #[(.agg #[.bool g1, .slice A1 n1 c1]), (.int .i64 0)])) (fun w' hk => ?_) ?_
      · go_simp
      simp only [Act.put, List.setIfInBounds_toArray, List.set_cons_zero, List.set_cons_succ]
      refine WE.pure (d := some 45) rfl rfl (by rfl) (v := (.agg #[.bool g1, .slice A1 n1 c1])) (fun w' hk => ?_) ?_
      · go_simp
      simp only [Act.put, List.setIfInBounds_toArray, List.set_cons_zero, List.set_cons_succ]
      refine WE.pure (d := some 46) rfl rfl (by rfl) (v := (.int .i64 0)) (fun w' hk => ?_) ?_
      · go_simp
      simp only [Act.put, List.setIfInBounds_toArray, List.set_cons_zero, List.set_cons_succ]
      refine WE.new (d := some 11) (cs := #[.bool false, .slice none 0 0]) (t := 24) (v := fun g => (.pointer (some ⟨g, 0, none⟩))) rfl rfl (by rfl) (fun w => by go_simp) fun gN2 wv hx0 hbox hge => ?_
      have HGN2 := hid (show W.heap.size ≤ gN2 by have := E.out.size; omega)
      replace E := hid (E.out.trans hx0)
      replace R1 := hid (R1.out.up hx0)
      have N2 : Hid (Box wv gN2 #[.bool false, .slice none 0 0] 24) := hid hbox
      clear hx0 hbox hge
      simp only [Act.put, List.setIfInBounds_toArray, List.set_cons_zero, List.set_cons_succ]
      refine WE.store2 (g := gN2) (x := .bool g1) (y := .slice A1 n1 c1) (t := 24) rfl rfl (by rfl) (fun w hb => ?_) N2.out (by rfl) fun ws hk hs => ?_
      · have c0 := hb.cell (o := 0) (v := .bool false) rfl; have f0 := hb.free 0; have c1 := hb.cell (o := 1) (v := .slice none 0 0) rfl; have f1 := hb.free 1; go_simp
      intro hbx
      replace E := hid (E.out.keptG hk HGN2.out)
      replace N2 := hid hbx
      replace R1 := hid (R1.out.kz hs)
      clear hk hs hbx
      refine WE.pure (d := some 12) rfl rfl (by rfl) (v := (.int .i64 0)) (fun w' hk => ?_) ?_
      · go_simp
      simp only [Act.put, List.setIfInBounds_toArray, List.set_cons_zero, List.set_cons_succ]
      refine WE.done ?_
      go_upto_region 13 with (fail)
      refine wp_region_T [(0, 0), (1, 0)] (by kernel_rfl) fun wd hb => ?_
      replace E := hid (E.out.trans hb)
      replace N2 := hid (N2.out.up hb)
      replace R1 := hid (R1.out.up hb)
      clear hb
      refine WE.pure (d := some 47) rfl rfl (by rfl) (v := (.int .i64 (359 + (r : Int)))) (fun w' hk => ?_) ?_
      · go_simp
      simp only [Act.put, List.setIfInBounds_toArray, List.set_cons_zero, List.set_cons_succ]
      refine WE.pure (d := some 48) rfl rfl (by rfl) (v := (.bool false)) (fun w' hk => ?_) ?_
      · have q : decide ((360 : Int) < 359 + (r : Int)) = false := (by have := HR.out; simp; omega); go_simp
      simp only [Act.put, List.setIfInBounds_toArray, List.set_cons_zero, List.set_cons_succ]
      refine WE.done ?_
      go_upto_region 15 with (fail)
      refine wp_region_T [(0, 0), (1, 0), (2, 0), (3, 0), (4, 1), (5, 0), (6, 0), (7, 0), (8, 0), (9, 0), (10, 0), (11, 0), (12, 0), (13, 0), (14, 0), (15, 0), (16, 1), (17, 0), (18, 0), (19, 0), (20, 0), (21, 1), (22, 0), (23, 0), (24, 0)] (by kernel_rfl) fun wd hb => ?_
      replace E := hid (E.out.trans hb)
      replace N2 := hid (N2.out.up hb)
      replace R1 := hid (R1.out.up hb)
      clear hb
      refine WE.pure (d := some 57) rfl rfl (by rfl) (v := (.int .i64 0)) (fun w' hk => ?_) ?_
      · go_simp
      simp only [Act.put, List.setIfInBounds_toArray, List.set_cons_zero, List.set_cons_succ]
      refine WE.pure (d := some 58) rfl rfl (by rfl) (v := (.bool true)) (fun w' hk => ?_) ?_
      · go_simp
      simp only [Act.put, List.setIfInBounds_toArray, List.set_cons_zero, List.set_cons_succ]
      refine WE.pure (d := some 59) rfl rfl (by rfl) (v := (.bool true)) (fun w' hk => ?_) ?_
      · go_simp
      simp only [Act.put, List.setIfInBounds_toArray, List.set_cons_zero, List.set_cons_succ]
      refine WE.pure (d := some 60) rfl rfl (by rfl) (v := (.agg #[.bool g1, .slice A1 n1 c1])) (fun w' hk => ?_) ?_
      · have c0 := hk.cell (N2.out.cell (o := 0) (v := .bool g1) rfl); have c1 := hk.cell (N2.out.cell (o := 1) (v := .slice A1 n1 c1) rfl); go_simp
      simp only [Act.put, List.setIfInBounds_toArray, List.set_cons_zero, List.set_cons_succ]
      refine WE.call (d := some 61) rfl rfl (by rfl) (f := 11) (args := #[(.agg #[.bool g1, .slice A1 n1 c1])]) (by go_simp) ?_
      refine (print_to (IsZ.mk HS1.out R1.out).worth (by omega) (HT.out.up E.out) HPR.out).mono ?_
      rintro e wn ⟨rfl, hb⟩
      refine ⟨_, rfl, hb, ?_⟩
      replace E := hid (E.out.trans hb)
      replace N2 := hid (N2.out.up hb)
      replace R1 := hid (R1.out.up hb)
      clear hb
      simp only [Act.put, List.setIfInBounds_toArray, List.set_cons_zero, List.set_cons_succ]
      refine WE.pure (d := some 62) rfl rfl (by rfl) (v := (str (40 :: 45 :: 32 :: (l ++ [41])))) (fun w' hk => ?_) ?_
      · go_simp
      simp only [Act.put, List.setIfInBounds_toArray, List.set_cons_zero, List.set_cons_succ]
      refine WE.pure (d := some 63) rfl rfl (by rfl) (v := (.bool true)) (fun w' hk => ?_) ?_
      · go_simp
      simp only [Act.put, List.setIfInBounds_toArray, List.set_cons_zero, List.set_cons_succ]
      refine WE.pure (d := some 64) rfl rfl (by rfl) (v := (.bool true)) (fun w' hk => ?_) ?_
      · go_simp
      simp only [Act.put, List.setIfInBounds_toArray, List.set_cons_zero, List.set_cons_succ]
      refine WE.pure (d := some 65) rfl rfl (by rfl) (v := (.bool true)) (fun w' hk => ?_) ?_
      · go_simp
      simp only [Act.put, List.setIfInBounds_toArray, List.set_cons_zero, List.set_cons_succ]
      refine WE.pure (d := some 66) rfl rfl (by rfl) (v := (.pointer (some ⟨gN2, 0, none⟩))) (fun w' hk => ?_) ?_
      · go_simp
      simp only [Act.put, List.setIfInBounds_toArray, List.set_cons_zero, List.set_cons_succ]
      refine WE.pure (d := some 67) rfl rfl (by rfl) (v := (.bool g1)) (fun w' hk => ?_) ?_
      · have c0 := hk.cell (N2.out.cell (o := 0) (v := .bool g1) rfl); go_simp
      simp only [Act.put, List.setIfInBounds_toArray, List.set_cons_zero, List.set_cons_succ]
      refine WE.pure (d := some 68) rfl rfl (by rfl) (v := (.bool true)) (fun w' hk => ?_) ?_
      · go_simp
      simp only [Act.put, List.setIfInBounds_toArray, List.set_cons_zero, List.set_cons_succ]
      refine WE.pure (d := some 69) rfl rfl (by rfl) (v := (.bool true)) (fun w' hk => ?_) ?_
      · have q : g1 = true := (by rw [HS1.out]; exact HNG.out); go_simp
      simp only [Act.put, List.setIfInBounds_toArray, List.set_cons_zero, List.set_cons_succ]
      refine WE.pure (d := some 70) rfl rfl (by rfl) (v := (.bool true)) (fun w' hk => ?_) ?_
      · go_simp
      simp only [Act.put, List.setIfInBounds_toArray, List.set_cons_zero, List.set_cons_succ]
      refine WE.pure (d := some 71) rfl rfl (by rfl) (v := (.bool true)) (fun w' hk => ?_) ?_
      · go_simp
      simp only [Act.put, List.setIfInBounds_toArray, List.set_cons_zero, List.set_cons_succ]
      refine WE.pure (d := some 72) rfl rfl (by rfl) (v := (str l)) (fun w' hk => ?_) ?_
      · go_simp
      simp only [Act.put, List.setIfInBounds_toArray, List.set_cons_zero, List.set_cons_succ]
      refine WE.call (d := some 73) rfl rfl (by rfl) (f := 15) (args := #[(str l)]) (by go_simp) ?_
      refine (numeral_to l _ (by have := HL.out; have := HR.out; omega) HNU.out).mono ?_
      rintro e wq ⟨rfl, rfl⟩
      refine ⟨_, rfl, Ext.refl _, ?_⟩
      simp only [Act.put, List.setIfInBounds_toArray, List.set_cons_zero, List.set_cons_succ]
      refine WE.pure (d := some 74) rfl rfl (by rfl) (v := (.bool true)) (fun w' hk => ?_) ?_
      · go_simp
      simp only [Act.put, List.setIfInBounds_toArray, List.set_cons_zero, List.set_cons_succ]
      refine WE.pure (d := some 75) rfl rfl (by rfl) (v := (.bool true)) (fun w' hk => ?_) ?_
      · go_simp
      simp only [Act.put, List.setIfInBounds_toArray, List.set_cons_zero, List.set_cons_succ]
      refine WE.pure (d := some 76) rfl rfl (by rfl) (v := (str l)) (fun w' hk => ?_) ?_
      · go_simp
      simp only [Act.put, List.setIfInBounds_toArray, List.set_cons_zero, List.set_cons_succ]
      refine WE.pure (d := some 77) rfl rfl (by rfl) (v := str (48 :: l)) (fun w' hk => ?_) ?_
      · go_simp
        rw [if_neg (by have := HL.out; have := HR.out; omega)]
        exact congrArg (fun x => Result.ok (Next.value (Value.string x)) w') (str_cat [48] l)
      simp only [Act.put, List.setIfInBounds_toArray, List.set_cons_zero, List.set_cons_succ]
      refine WE.call (d := some 78) rfl rfl (by rfl) (f := 15) (args := #[(str (48 :: l))]) (by go_simp) ?_
      refine (numeral_to (48 :: l) _ (by have := HL.out; have := HR.out; simp; omega) HNZ.out).mono ?_
      rintro e wq ⟨rfl, rfl⟩
      refine ⟨_, rfl, Ext.refl _, ?_⟩
      simp only [Act.put, List.setIfInBounds_toArray, List.set_cons_zero, List.set_cons_succ]
      refine WE.pure (d := some 79) rfl rfl (by rfl) (v := (.bool true)) (fun w' hk => ?_) ?_
      · go_simp
      simp only [Act.put, List.setIfInBounds_toArray, List.set_cons_zero, List.set_cons_succ]
      refine WE.pure (d := some 80) rfl rfl (by rfl) (v := (.bool true)) (fun w' hk => ?_) ?_
      · go_simp
      simp only [Act.put, List.setIfInBounds_toArray, List.set_cons_zero, List.set_cons_succ]
      refine WE.pure (d := some 6) rfl rfl (by rfl) (v := (.bool true)) (fun w' hk => ?_) ?_
      · go_simp
      simp only [Act.put, List.setIfInBounds_toArray, List.set_cons_zero, List.set_cons_succ]
      refine WE.done ?_
      go_wp2
      go_ret
      exact ⟨rfl, E.out⟩

set_option maxRecDepth 100000 in
set_option maxHeartbeats 4000000 in
theorem digitsLong_nl (W : World) (ht : Tab W) (a b : Int) (ha0 : 0 ≤ a) (hb0 : 0 ≤ b) (r c : Nat) (ha : a % 3 = (r : Int)) (hb : b % 9 = (c : Int)) (hc : c < 9) (hr : r = 2) (s : List UInt8) (hs : M.long c (358 + r) = s) (hl : s.length = 359 + r) (Z : Int) (hpv : M.pval (40 :: 45 :: 32 :: (s ++ [41])) = Z) (hpe : M.perr (40 :: 45 :: 32 :: (s ++ [41])) = 11) (hz : Z = 0) :
    Calls Tryd.prog 5 #[.int .u8 a, .int .u8 b, .bool true] W (fun e w' => e = .returned (.bool true) ∧ Ext W w') := by
  obtain ⟨x, hx⟩ : ∃ x : Nat, x = 49 + c := ⟨_, rfl⟩
  have HX := hid (show x = 49 + c ∧ x < 58 from ⟨hx, by omega⟩)
  clear hx
  have HT := hid ht
  have HA0 := hid ha0
  have HB0 := hid hb0
  have HA := hid ha
  have HB := hid hb
  have HC := hid hc
  have HR := hid hr
  have HS := hid hs
  have HL := hid hl
  have HPV := hid hpv
  have HPE := hid hpe
  have HZ := hid hz
  clear ht ha0 hb0 ha hb hc hr hs hl hpv hpe hz
  go_enter Tryd.func5, Tryd.ntmps5
  go_upto_region 1 with (fail)
  have E := hid (Ext.refl W)
  refine wp_region_T [(0, 1), (1, 0)] (by kernel_rfl) fun wd hb => ?_
  replace E := hid (E.out.trans hb)
  clear hb
  refine WE.call (d := some 13) rfl rfl (by rfl) (f := 8) (args := #[]) (by go_simp) ?_
  refine (known3 _ (HT.out.up E.out)).mono ?_
  rintro e wn ⟨rfl, hb⟩
  refine ⟨_, rfl, hb, ?_⟩
  replace E := hid (E.out.trans hb)
  clear hb
  simp only [Act.put, List.setIfInBounds_toArray, List.set_cons_zero, List.set_cons_succ]
  refine WE.pure (d := some 14) rfl rfl (by rfl) (v := (.bool false)) (fun w' hk => ?_) ?_
  · go_simp
  simp only [Act.put, List.setIfInBounds_toArray, List.set_cons_zero, List.set_cons_succ]
  refine WE.done ?_
  go_upto_region 3 with (fail)
  refine wp_region_T [(0, 0), (1, 0), (2, 0), (3, 0), (4, 0)] (by kernel_rfl) fun wd hb => ?_
  replace E := hid (E.out.trans hb)
  clear hb
  refine WE.pure (d := some 15) rfl rfl (by rfl) (v := (.int .u8 a)) (fun w' hk => ?_) ?_
  · go_simp
  simp only [Act.put, List.setIfInBounds_toArray, List.set_cons_zero, List.set_cons_succ]
  refine WE.pure (d := some 16) rfl rfl (by rfl) (v := (.int .u8 (r : Int))) (fun w' hk => ?_) ?_
  · have q : a.tmod 3 = (r : Int) := (by rw [Int.tmod_eq_emod_of_nonneg HA0.out, HA.out]); go_simp
  simp only [Act.put, List.setIfInBounds_toArray, List.set_cons_zero, List.set_cons_succ]
  refine WE.pure (d := some 17) rfl rfl (by rfl) (v := (.int .i64 (r : Int))) (fun w' hk => ?_) ?_
  · have q : IntKind.i64.wrap (r : Int) = (r : Int) := (by rw [IntKind.wrap_i64]; have := HR.out; omega); go_simp
  simp only [Act.put, List.setIfInBounds_toArray, List.set_cons_zero, List.set_cons_succ]
  refine WE.pure (d := some 18) rfl rfl (by rfl) (v := (.int .i64 (359 + (r : Int)))) (fun w' hk => ?_) ?_
  · have q : IntKind.i64.wrap (359 + (r : Int)) = 359 + (r : Int) := (by rw [IntKind.wrap_i64]; have := HR.out; omega); go_simp
  simp only [Act.put, List.setIfInBounds_toArray, List.set_cons_zero, List.set_cons_succ]
  refine WE.pure (d := some 7) rfl rfl (by rfl) (v := (.int .i64 (359 + (r : Int)))) (fun w' hk => ?_) ?_
  · go_simp
  simp only [Act.put, List.setIfInBounds_toArray, List.set_cons_zero, List.set_cons_succ]
  refine WE.done ?_
  go_upto_region 4 with (fail)
  refine wp_region_T [(0, 0), (1, 0), (2, 0), (3, 1), (4, 0), (5, 0)] (by kernel_rfl) fun wd hb => ?_
  replace E := hid (E.out.trans hb)
  clear hb
  refine WE.pure (d := some 19) rfl rfl (by rfl) (v := (.int .u8 b)) (fun w' hk => ?_) ?_
  · go_simp
  simp only [Act.put, List.setIfInBounds_toArray, List.set_cons_zero, List.set_cons_succ]
  refine WE.pure (d := some 20) rfl rfl (by rfl) (v := (.int .u8 (c : Int))) (fun w' hk => ?_) ?_
  · have q : b.tmod 9 = (c : Int) := (by rw [Int.tmod_eq_emod_of_nonneg HB0.out, HB.out]); go_simp
  simp only [Act.put, List.setIfInBounds_toArray, List.set_cons_zero, List.set_cons_succ]
  refine WE.pure (d := some 21) rfl rfl (by rfl) (v := (.int .u8 (x : Int))) (fun w' hk => ?_) ?_
  · have q : IntKind.u8.wrap (49 + (c : Int)) = (x : Int) := (by rw [IntKind.wrap_u8]; have := HX.out; omega); go_simp
  simp only [Act.put, List.setIfInBounds_toArray, List.set_cons_zero, List.set_cons_succ]
  refine WE.new (d := some 22) (cs := #[.int .u8 (x : Int)]) (t := 5) (v := fun g => (.slice (some ⟨g, 0, none⟩) 1 1)) rfl rfl (by rfl) (fun w => by go_simp) fun gN0 wv hx0 hbox hge => ?_
  have HGN0 := hid (show W.heap.size ≤ gN0 by have := E.out.size; omega)
  replace E := hid (E.out.trans hx0)
  have N0 : Hid (Box wv gN0 #[.int .u8 (x : Int)] 5) := hid hbox
  clear hx0 hbox hge
  simp only [Act.put, List.setIfInBounds_toArray, List.set_cons_zero, List.set_cons_succ]
  refine WE.pure (d := some 23) rfl rfl (by rfl) (v := (str [UInt8.ofNat x])) (fun w' hk => ?_) ?_
  · have q := byte_text x (by have := HX.out; omega) gN0 w' _ (N0.out.up hk); go_simp
  simp only [Act.put, List.setIfInBounds_toArray, List.set_cons_zero, List.set_cons_succ]
  refine WE.pure (d := some 8) rfl rfl (by rfl) (v := (str [UInt8.ofNat x])) (fun w' hk => ?_) ?_
  · go_simp
  simp only [Act.put, List.setIfInBounds_toArray, List.set_cons_zero, List.set_cons_succ]
  refine WE.done ?_
  clear N0 HGN0
  go_upto_region 5 with (fail)
  refine wp_region_T [(0, 0)] (by kernel_rfl) fun wd hb => ?_
  replace E := hid (E.out.trans hb)
  clear hb
  refine WE.pure (d := some 9) rfl rfl (by rfl) (v := (.int .i64 (1))) (fun w' hk => ?_) ?_
  · go_simp
  simp only [Act.put, List.setIfInBounds_toArray, List.set_cons_zero, List.set_cons_succ]
  refine WE.done ?_
  go_wp2
  go_loopw [8, 9] (fun sv i wr => ∃ (j : Nat) (l : List UInt8), i = .int .i64 ((j : Int) + 1) ∧ sv = str l ∧ Hid (M.long c j = l) ∧ j ≤ 358 + r ∧ Ext W wr) (fun _ i _ => 400 - (intOf i).toNat)
  case atStart => exact ⟨0, [UInt8.ofNat x], rfl, rfl, hid (by rw [HX.out.1]; rfl), Nat.zero_le _, E.out⟩
  case round =>
    clear E
    obtain ⟨j, l, rfl, rfl, HJL, hj, hx⟩ := hrel
    have E := hid hx
    have HJ := hid hj
    clear hx hj
    have hlen : l.length = j + 1 := by rw [← HJL.out]; exact M.long_length c j
    have HLEN := hid hlen
    clear hlen
    rcases Nat.lt_or_ge j (358 + r) with hlt | hge
    · have HLT := hid hlt
      clear hlt
      obtain ⟨d, hd⟩ : ∃ d : Nat, d = (j + 1) % 10 := ⟨_, rfl⟩
      have HD := hid hd
      clear hd
      obtain ⟨y, hy⟩ : ∃ y : Nat, y = 48 + d := ⟨_, rfl⟩
      have HY := hid (show y = 48 + d ∧ y < 58 from ⟨hy, by have := HD.out; omega⟩)
      clear hy
      have HQ := hid (show decide ((j : Int) + 1 < 359 + (r : Int)) = true by have := HLT.out; simp; omega)
      go_upto_region 6 with (fail)
      refine wp_region_T [(0, 0), (1, 0), (2, 0)] (by kernel_rfl) fun wd hb => ?_
      replace E := hid (E.out.trans hb)
      clear hb
      refine WE.pure (d := some 24) rfl rfl (by rfl) (v := (.int .i64 ((j : Int) + 1))) (fun w' hk => ?_) ?_
      · go_simp
      simp only [Act.put, List.setIfInBounds_toArray, List.set_cons_zero, List.set_cons_succ]
      refine WE.pure (d := some 25) rfl rfl (by rfl) (v := (.int .i64 (359 + (r : Int)))) (fun w' hk => ?_) ?_
      · go_simp
      simp only [Act.put, List.setIfInBounds_toArray, List.set_cons_zero, List.set_cons_succ]
      refine WE.pure (d := some 26) rfl rfl (by rfl) (v := (.bool true)) (fun w' hk => ?_) ?_
      · have q := HQ.out; go_simp
      simp only [Act.put, List.setIfInBounds_toArray, List.set_cons_zero, List.set_cons_succ]
      refine WE.done ?_
      go_upto_region 8 with (fail)
      refine wp_region_T [(0, 0), (1, 0), (2, 0), (3, 0), (4, 0), (5, 1), (6, 0), (7, 0), (8, 0)] (by kernel_rfl) fun wd hb => ?_
      replace E := hid (E.out.trans hb)
      clear hb
      refine WE.pure (d := some 29) rfl rfl (by rfl) (v := (str l)) (fun w' hk => ?_) ?_
      · go_simp
      simp only [Act.put, List.setIfInBounds_toArray, List.set_cons_zero, List.set_cons_succ]
      refine WE.pure (d := some 30) rfl rfl (by rfl) (v := (.int .i64 ((j : Int) + 1))) (fun w' hk => ?_) ?_
      · go_simp
      simp only [Act.put, List.setIfInBounds_toArray, List.set_cons_zero, List.set_cons_succ]
      refine WE.pure (d := some 31) rfl rfl (by rfl) (v := (.int .i64 (d : Int))) (fun w' hk => ?_) ?_
      · have q : ((j : Int) + 1).tmod 10 = (d : Int) := (by rw [Int.tmod_eq_emod_of_nonneg (by omega)]; have := HD.out; omega); go_simp
      simp only [Act.put, List.setIfInBounds_toArray, List.set_cons_zero, List.set_cons_succ]
      refine WE.pure (d := some 32) rfl rfl (by rfl) (v := (.int .u8 (d : Int))) (fun w' hk => ?_) ?_
      · have q : IntKind.u8.wrap (d : Int) = (d : Int) := (by rw [IntKind.wrap_u8]; have := HD.out; omega); go_simp
      simp only [Act.put, List.setIfInBounds_toArray, List.set_cons_zero, List.set_cons_succ]
      refine WE.pure (d := some 33) rfl rfl (by rfl) (v := (.int .u8 (y : Int))) (fun w' hk => ?_) ?_
      · have q : IntKind.u8.wrap (48 + (d : Int)) = (y : Int) := (by rw [IntKind.wrap_u8]; have := HY.out; omega); go_simp
      simp only [Act.put, List.setIfInBounds_toArray, List.set_cons_zero, List.set_cons_succ]
      refine WE.new (d := some 34) (cs := #[.int .u8 (y : Int)]) (t := 5) (v := fun g => (.slice (some ⟨g, 0, none⟩) 1 1)) rfl rfl (by rfl) (fun w => by go_simp) fun gN1 wv hx0 hbox hge => ?_
      have HGN1 := hid (show W.heap.size ≤ gN1 by have := E.out.size; omega)
      replace E := hid (E.out.trans hx0)
      have N1 : Hid (Box wv gN1 #[.int .u8 (y : Int)] 5) := hid hbox
      clear hx0 hbox hge
      simp only [Act.put, List.setIfInBounds_toArray, List.set_cons_zero, List.set_cons_succ]
      refine WE.pure (d := some 35) rfl rfl (by rfl) (v := (str [UInt8.ofNat y])) (fun w' hk => ?_) ?_
      · have q := byte_text y (by have := HY.out; omega) gN1 w' _ (N1.out.up hk); go_simp
      simp only [Act.put, List.setIfInBounds_toArray, List.set_cons_zero, List.set_cons_succ]
      refine WE.pure (d := some 36) rfl rfl (by rfl) (v := str (l ++ [UInt8.ofNat y])) (fun w' hk => ?_) ?_
      · go_simp
        rw [if_neg (by have := HLEN.out; have := HJ.out; have := HR.out; omega)]
        exact congrArg (fun x => Result.ok (Next.value (Value.string x)) w') (str_cat l [UInt8.ofNat y])
      simp only [Act.put, List.setIfInBounds_toArray, List.set_cons_zero, List.set_cons_succ]
      refine WE.pure (d := some 8) rfl rfl (by rfl) (v := (str (l ++ [UInt8.ofNat y]))) (fun w' hk => ?_) ?_
      · go_simp
      simp only [Act.put, List.setIfInBounds_toArray, List.set_cons_zero, List.set_cons_succ]
      refine WE.done ?_
      clear N1 HGN1
      go_upto_region 7 with (fail)
      refine wp_region_T [(0, 0), (1, 0), (2, 0)] (by kernel_rfl) fun wd hb => ?_
      replace E := hid (E.out.trans hb)
      clear hb
      refine WE.pure (d := some 27) rfl rfl (by rfl) (v := (.int .i64 ((j : Int) + 1))) (fun w' hk => ?_) ?_
      · go_simp
      simp only [Act.put, List.setIfInBounds_toArray, List.set_cons_zero, List.set_cons_succ]
      refine WE.pure (d := some 28) rfl rfl (by rfl) (v := (.int .i64 ((j : Int) + 1 + 1))) (fun w' hk => ?_) ?_
      · have q : IntKind.i64.wrap ((j : Int) + 1 + 1) = (j : Int) + 1 + 1 := (by rw [IntKind.wrap_i64]; have := HJ.out; have := HR.out; omega); go_simp
      simp only [Act.put, List.setIfInBounds_toArray, List.set_cons_zero, List.set_cons_succ]
      refine WE.pure (d := some 9) rfl rfl (by rfl) (v := (.int .i64 ((j : Int) + 1 + 1))) (fun w' hk => ?_) ?_
      · go_simp
      simp only [Act.put, List.setIfInBounds_toArray, List.set_cons_zero, List.set_cons_succ]
      refine WE.done ?_
      go_wp2
      go_roundw
      case rel => exact ⟨j + 1, _, by simp, rfl, hid (by rw [M.long, HJL.out, HY.out.1, HD.out]), by have := HLT.out; omega, E.out⟩
      case measure => simp [intOf]; have := HJ.out; have := HR.out; omega
    · obtain rfl : j = 358 + r := by have := HJ.out; omega
      obtain rfl : l = s := by rw [← HJL.out]; exact HS.out
      have HQ := hid (show decide (((358 + r : Nat) : Int) + 1 < 359 + (r : Int)) = false by simp; omega)
      clear hge HJ HJL
      go_upto_region 6 with (fail)
      refine wp_region_T [(0, 0), (1, 0), (2, 0)] (by kernel_rfl) fun wd hb => ?_
      replace E := hid (E.out.trans hb)
      clear hb
      refine WE.pure (d := some 24) rfl rfl (by rfl) (v := (.int .i64 (((358 + r : Nat) : Int) + 1))) (fun w' hk => ?_) ?_
      · go_simp
      simp only [Act.put, List.setIfInBounds_toArray, List.set_cons_zero, List.set_cons_succ]
      refine WE.pure (d := some 25) rfl rfl (by rfl) (v := (.int .i64 (359 + (r : Int)))) (fun w' hk => ?_) ?_
      · go_simp
      simp only [Act.put, List.setIfInBounds_toArray, List.set_cons_zero, List.set_cons_succ]
      refine WE.pure (d := some 26) rfl rfl (by rfl) (v := (.bool false)) (fun w' hk => ?_) ?_
      · have q : 359 + (r : Int) ≤ 358 + (r : Int) + 1 := (by omega); go_simp
      simp only [Act.put, List.setIfInBounds_toArray, List.set_cons_zero, List.set_cons_succ]
      refine WE.done ?_
      go_upto_region 9 with (fail)
      refine wp_region_T [(0, 0), (1, 0)] (by kernel_rfl) fun wd hb => ?_
      replace E := hid (E.out.trans hb)
      clear hb
      refine WE.pure (d := some 37) rfl rfl (by rfl) (v := (str l)) (fun w' hk => ?_) ?_
      · go_simp
      simp only [Act.put, List.setIfInBounds_toArray, List.set_cons_zero, List.set_cons_succ]
      refine WE.pure (d := some 10) rfl rfl (by rfl) (v := (str l)) (fun w' hk => ?_) ?_
      · go_simp
      simp only [Act.put, List.setIfInBounds_toArray, List.set_cons_zero, List.set_cons_succ]
      refine WE.done ?_
      go_upto_region 10 with (fail)
      refine wp_region_T [(0, 0)] (by kernel_rfl) fun wd hb => ?_
      replace E := hid (E.out.trans hb)
      clear hb
      refine WE.pure (d := some 38) rfl rfl (by rfl) (v := (.bool true)) (fun w' hk => ?_) ?_
      · go_simp
      simp only [Act.put, List.setIfInBounds_toArray, List.set_cons_zero, List.set_cons_succ]
      refine WE.done ?_
      go_upto_region 11 with (fail)
      refine wp_region_T [(0, 0), (1, 0), (2, 0), (3, 0)] (by kernel_rfl) fun wd hb => ?_
      replace E := hid (E.out.trans hb)
      clear hb
      refine WE.pure (d := some 39) rfl rfl (by rfl) (v := (str l)) (fun w' hk => ?_) ?_
      · go_simp
      simp only [Act.put, List.setIfInBounds_toArray, List.set_cons_zero, List.set_cons_succ]
      refine WE.pure (d := some 40) rfl rfl (by rfl) (v := str (40 :: 45 :: 32 :: l)) (fun w' hk => ?_) ?_
      · go_simp
        rw [if_neg (by have := HL.out; have := HR.out; omega)]
        exact congrArg (fun x => Result.ok (Next.value (Value.string x)) w') (str_cat [40, 45, 32] l)
      simp only [Act.put, List.setIfInBounds_toArray, List.set_cons_zero, List.set_cons_succ]
      refine WE.pure (d := some 41) rfl rfl (by rfl) (v := str (40 :: 45 :: 32 :: (l ++ [41]))) (fun w' hk => ?_) ?_
      · go_simp
        rw [if_neg (by have := HL.out; have := HR.out; omega)]
        exact congrArg (fun x => Result.ok (Next.value (Value.string x)) w') (str_cat (40 :: 45 :: 32 :: l) [41])
      simp only [Act.put, List.setIfInBounds_toArray, List.set_cons_zero, List.set_cons_succ]
      refine WE.pure (d := some 10) rfl rfl (by rfl) (v := (str (40 :: 45 :: 32 :: (l ++ [41])))) (fun w' hk => ?_) ?_
      · go_simp
      simp only [Act.put, List.setIfInBounds_toArray, List.set_cons_zero, List.set_cons_succ]
      refine WE.done ?_
      go_upto_region 12 with (fail)
      refine wp_region_T [(0, 0), (1, 1), (2, 0), (3, 0), (4, 0), (5, 1), (6, 4), (7, 0)] (by kernel_rfl) fun wd hb => ?_
      replace E := hid (E.out.trans hb)
      clear hb
      refine WE.pure (d := some 43) rfl rfl (by rfl) (v := (str (40 :: 45 :: 32 :: (l ++ [41])))) (fun w' hk => ?_) ?_
      · go_simp
      simp only [Act.put, List.setIfInBounds_toArray, List.set_cons_zero, List.set_cons_succ]
      refine WE.call (d := some 44) rfl rfl (by rfl) (f := 9) (args := #[(str (40 :: 45 :: 32 :: (l ++ [41])))]) (by go_simp) ?_
      refine (parse_to (l := (40 :: 45 :: 32 :: (l ++ [41]))) (by have := HL.out; have := HR.out; simp; omega) _ HPV.out HPE.out).mono ?_
      rintro e wn ⟨vx, rfl, hx, hb⟩
      obtain ⟨g1, A1, n1, c1, rfl, hs1, hr1⟩ := hx.form
      clear hx
      refine ⟨_, rfl, hb, ?_⟩
      replace E := hid (E.out.trans hb)
      have HS1 := hid hs1
      have R1 := hid hr1
      clear hb hs1 hr1
      simp only [Act.put, List.setIfInBounds_toArray, List.set_cons_zero, List.set_cons_succ]
      refine WE.pure (d := some 42) rfl rfl (by rfl) (v := (.tuple #[(.agg #[.bool g1, .slice A1 n1 c1]), (.int .i64 11)])) (fun w' hk => ?_) ?_
      · go_simp
      simp only [Act.put, List.setIfInBounds_toArray, List.set_cons_zero, List.set_cons_succ]
      refine WE.pure (d := some 45) rfl rfl (by rfl) (v := (.agg #[.bool g1, .slice A1 n1 c1])) (fun w' hk => ?_) ?_
      · go_simp
      simp only [Act.put, List.setIfInBounds_toArray, List.set_cons_zero, List.set_cons_succ]
      refine WE.pure (d := some 46) rfl rfl (by rfl) (v := (.int .i64 11)) (fun w' hk => ?_) ?_
      · go_simp
      simp only [Act.put, List.setIfInBounds_toArray, List.set_cons_zero, List.set_cons_succ]
      refine WE.new (d := some 11) (cs := #[.bool false, .slice none 0 0]) (t := 24) (v := fun g => (.pointer (some ⟨g, 0, none⟩))) rfl rfl (by rfl) (fun w => by go_simp) fun gN2 wv hx0 hbox hge => ?_
      have HGN2 := hid (show W.heap.size ≤ gN2 by have := E.out.size; omega)
      replace E := hid (E.out.trans hx0)
      replace R1 := hid (R1.out.up hx0)
      have N2 : Hid (Box wv gN2 #[.bool false, .slice none 0 0] 24) := hid hbox
      clear hx0 hbox hge
      simp only [Act.put, List.setIfInBounds_toArray, List.set_cons_zero, List.set_cons_succ]
      refine WE.store2 (g := gN2) (x := .bool g1) (y := .slice A1 n1 c1) (t := 24) rfl rfl (by rfl) (fun w hb => ?_) N2.out (by rfl) fun ws hk hs => ?_
      · have c0 := hb.cell (o := 0) (v := .bool false) rfl; have f0 := hb.free 0; have c1 := hb.cell (o := 1) (v := .slice none 0 0) rfl; have f1 := hb.free 1; go_simp
      intro hbx
      replace E := hid (E.out.keptG hk HGN2.out)
      replace N2 := hid hbx
      replace R1 := hid (R1.out.kz hs)
      clear hk hs hbx
      refine WE.pure (d := some 12) rfl rfl (by rfl) (v := (.int .i64 11)) (fun w' hk => ?_) ?_
      · go_simp
      simp only [Act.put, List.setIfInBounds_toArray, List.set_cons_zero, List.set_cons_succ]
      refine WE.done ?_
      go_upto_region 13 with (fail)
      refine wp_region_T [(0, 0), (1, 0)] (by kernel_rfl) fun wd hb => ?_
      replace E := hid (E.out.trans hb)
      replace N2 := hid (N2.out.up hb)
      replace R1 := hid (R1.out.up hb)
      clear hb
      refine WE.pure (d := some 47) rfl rfl (by rfl) (v := (.int .i64 (359 + (r : Int)))) (fun w' hk => ?_) ?_
      · go_simp
      simp only [Act.put, List.setIfInBounds_toArray, List.set_cons_zero, List.set_cons_succ]
      refine WE.pure (d := some 48) rfl rfl (by rfl) (v := (.bool true)) (fun w' hk => ?_) ?_
      · have q : decide ((360 : Int) < 359 + (r : Int)) = true := (by have := HR.out; simp; omega); go_simp
      simp only [Act.put, List.setIfInBounds_toArray, List.set_cons_zero, List.set_cons_succ]
      refine WE.done ?_
      have hn1 : n1 = 0 := by have q := R1.out.1.row.2; rw [HZ.out, show (0 : Int).natAbs = 0 from rfl, M.limbs_zero] at q; simpa using q
      have HN1 := hid hn1
      clear hn1
      go_upto_region 14 with (fail)
      refine wp_region_T [(0, 0), (1, 0), (2, 0), (3, 0), (4, 0), (5, 0), (6, 0), (7, 0), (8, 0)] (by kernel_rfl) fun wd hb => ?_
      replace E := hid (E.out.trans hb)
      replace N2 := hid (N2.out.up hb)
      replace R1 := hid (R1.out.up hb)
      clear hb
      refine WE.pure (d := some 49) rfl rfl (by rfl) (v := (.int .i64 11)) (fun w' hk => ?_) ?_
      · go_simp
      simp only [Act.put, List.setIfInBounds_toArray, List.set_cons_zero, List.set_cons_succ]
      refine WE.pure (d := some 50) rfl rfl (by rfl) (v := (.bool true)) (fun w' hk => ?_) ?_
      · go_simp
      simp only [Act.put, List.setIfInBounds_toArray, List.set_cons_zero, List.set_cons_succ]
      refine WE.pure (d := some 51) rfl rfl (by rfl) (v := (.bool true)) (fun w' hk => ?_) ?_
      · go_simp
      simp only [Act.put, List.setIfInBounds_toArray, List.set_cons_zero, List.set_cons_succ]
      refine WE.pure (d := some 52) rfl rfl (by rfl) (v := (.pointer (some ⟨gN2, 1, none⟩))) (fun w' hk => ?_) ?_
      · go_simp
      simp only [Act.put, List.setIfInBounds_toArray, List.set_cons_zero, List.set_cons_succ]
      refine WE.pure (d := some 53) rfl rfl (by rfl) (v := (.slice A1 n1 c1)) (fun w' hk => ?_) ?_
      · have c1 := hk.cell (N2.out.cell (o := 1) (v := .slice A1 n1 c1) rfl); go_simp
      simp only [Act.put, List.setIfInBounds_toArray, List.set_cons_zero, List.set_cons_succ]
      refine WE.pure (d := some 54) rfl rfl (by rfl) (v := (.int .i64 (n1 : Int))) (fun w' hk => ?_) ?_
      · go_simp
      simp only [Act.put, List.setIfInBounds_toArray, List.set_cons_zero, List.set_cons_succ]
      refine WE.pure (d := some 55) rfl rfl (by rfl) (v := (.bool true)) (fun w' hk => ?_) ?_
      · have q := HN1.out; go_simp
      simp only [Act.put, List.setIfInBounds_toArray, List.set_cons_zero, List.set_cons_succ]
      refine WE.pure (d := some 56) rfl rfl (by rfl) (v := (.bool true)) (fun w' hk => ?_) ?_
      · go_simp
      simp only [Act.put, List.setIfInBounds_toArray, List.set_cons_zero, List.set_cons_succ]
      refine WE.pure (d := some 6) rfl rfl (by rfl) (v := (.bool true)) (fun w' hk => ?_) ?_
      · go_simp
      simp only [Act.put, List.setIfInBounds_toArray, List.set_cons_zero, List.set_cons_succ]
      refine WE.done ?_
      go_wp2
      go_ret
      exact ⟨rfl, E.out⟩

end Go.Proofs.YthlafkbldlmmaaaDoor
