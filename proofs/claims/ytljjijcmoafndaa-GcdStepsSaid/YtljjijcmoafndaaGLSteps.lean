/-
  GcdSteps: whatever two numbers of 32 bits and one of 8: true. No conditions.
-/
import Derived.Test.YtljjijcmoafndaaGKnown
import Derived.Test.YtljjijcmoafndaaGWord
namespace Go.Proofs.Ytljjijcmoafndaa
open Go.ChangeShapes Go.WideShapes Go.ChangeAt Go.RowKit
set_option linter.unusedSimpArgs false
set_option linter.unusedVariables false

namespace M
theorem gcd_comm_z (x y : Int) : ((Int.gcd y x : Nat) : Int) = ((Int.gcd x y : Nat) : Int) := by rw [Int.gcd_comm]
theorem gcd_add_z (x y k : Int) : ((Int.gcd x (y + k * x) : Nat) : Int) = ((Int.gcd x y : Nat) : Int) := by
  congr 1
  apply Nat.dvd_antisymm
  · apply Int.dvd_gcd
    · exact (Int.gcd_dvd_left _ _)
    · have h1 : ((Int.gcd x (y + k * x) : Nat) : Int) ∣ y + k * x := (Int.gcd_dvd_right _ _)
      have h2 : ((Int.gcd x (y + k * x) : Nat) : Int) ∣ k * x := Int.dvd_mul_of_dvd_right (Int.gcd_dvd_left _ _)
      have h3 := Int.dvd_sub h1 h2
      rwa [show y + k * x - k * x = y by omega] at h3
  · apply Int.dvd_gcd
    · exact (Int.gcd_dvd_left _ _)
    · exact Int.dvd_add (Int.gcd_dvd_right _ _) (Int.dvd_mul_of_dvd_right (Int.gcd_dvd_left _ _))
theorem mul_small {k x : Int} (h1 : -128 ≤ k) (h2 : k ≤ 127) (h3 : -2147483648 ≤ x) (h4 : x ≤ 2147483647) : -274877906944 ≤ k * x ∧ k * x ≤ 274877906944 := by
  have h : (k * x).natAbs ≤ 128 * 2147483648 := by
    rw [Int.natAbs_mul]
    exact Nat.mul_le_mul (by omega) (by omega)
  omega
end M

set_option maxRecDepth 100000 in
set_option maxHeartbeats 8000000 in
theorem gcdSteps_walk (W : World) (a b k : Int) (ha1 : -2147483648 ≤ a) (ha2 : a ≤ 2147483647) (hb1 : -2147483648 ≤ b) (hb2 : b ≤ 2147483647) (hk1 : -128 ≤ k) (hk2 : k ≤ 127) :
    Calls Try.prog 6 #[.int .i32 a, .int .i32 b, .int .i8 k] W (fun e w' => e = .returned (.bool true) ∧ Ext W w') := by
  have HA1 := hid ha1
  have HA2 := hid ha2
  have HB1 := hid hb1
  have HB2 := hid hb2
  obtain ⟨na, hna⟩ : ∃ z : Int, -a = z := ⟨_, rfl⟩
  obtain ⟨nb, hnb⟩ : ∃ z : Int, -b = z := ⟨_, rfl⟩
  obtain ⟨p, hp⟩ : ∃ p : Nat, p = a.natAbs := ⟨_, rfl⟩
  obtain ⟨q, hq⟩ : ∃ q : Nat, q = b.natAbs := ⟨_, rfl⟩
  obtain ⟨t, ht⟩ : ∃ t : Int, k * a = t := ⟨_, rfl⟩
  obtain ⟨s, hs⟩ : ∃ s : Int, b + t = s := ⟨_, rfl⟩
  have hts := M.mul_small hk1 hk2 ha1 ha2
  have hwa : IntKind.i64.wrap a = a := by rw [IntKind.wrap_i64]; omega
  have hwb : IntKind.i64.wrap b = b := by rw [IntKind.wrap_i64]; omega
  have hwk : IntKind.i64.wrap k = k := by rw [IntKind.wrap_i64]; omega
  have hwna : IntKind.i64.wrap na = na := by rw [IntKind.wrap_i64]; omega
  have hwnb : IntKind.i64.wrap nb = nb := by rw [IntKind.wrap_i64]; omega
  have hmp : max a na = (p : Int) := by omega
  have hmq : max b nb = (q : Int) := by omega
  have hwt : IntKind.i64.wrap (k * a) = t := by rw [ht, IntKind.wrap_i64]; omega
  have hws : IntKind.i64.wrap (b + t) = s := by rw [hs, IntKind.wrap_i64]; omega
  have HS := hid (show -9223372036854775808 ≤ s ∧ s ≤ 9223372036854775807 by omega)
  have HG := hid (show ((Int.gcd a s : Nat) : Int) = ((Int.gcd a b : Nat) : Int) by rw [← hs, ← ht]; exact M.gcd_add_z a b k)
  have HPQ := hid (show Nat.gcd p q = Int.gcd a b by rw [hp, hq]; rfl)
  have HPB := hid (show (p : Int) ≤ 2147483648 by omega)
  have HQB := hid (show (q : Int) ≤ 2147483648 by omega)
  clear ha1 ha2 hb1 hb2 hk1 hk2 hts hp hq
  go_enter Try.func6, Try.ntmps6
  go_upto_region 1 with (fail)
  have E := hid (Ext.refl W)
  go_upto_region 1 with (fail)
  refine wp_region_T [(0, 1), (1, 0)] (by kernel_rfl) fun wd hb => ?_
  replace E := hid (E.out.trans hb)
  clear hb
  refine WE.call (d := some 12) rfl rfl (by rfl) (f := 8) (args := #[]) (by go_simp) ?_
  refine (known4 _).mono ?_
  rintro e wn ⟨rfl, hb⟩
  refine ⟨_, rfl, hb, ?_⟩
  replace E := hid (E.out.trans hb)
  clear hb
  simp only [Act.put, List.setIfInBounds_toArray, List.set_cons_zero, List.set_cons_succ]
  refine WE.pure (d := some 13) rfl rfl (by rfl) (v := (.bool false)) (fun w' hk => ?_) ?_
  · go_simp
  simp only [Act.put, List.setIfInBounds_toArray, List.set_cons_zero, List.set_cons_succ]
  refine WE.done ?_
  go_upto_region 3 with (fail)
  refine wp_region_T [(0, 0), (1, 0), (2, 0), (3, 0), (4, 0), (5, 0)] (by kernel_rfl) fun wd hb => ?_
  replace E := hid (E.out.trans hb)
  clear hb
  refine WE.pure (d := some 14) rfl rfl (by rfl) (v := (.int .i32 a)) (fun w' hk => ?_) ?_
  · go_simp
  simp only [Act.put, List.setIfInBounds_toArray, List.set_cons_zero, List.set_cons_succ]
  refine WE.pure (d := some 15) rfl rfl (by rfl) (v := (.int .i64 a)) (fun w' hk => ?_) ?_
  · go_simp
  simp only [Act.put, List.setIfInBounds_toArray, List.set_cons_zero, List.set_cons_succ]
  refine WE.pure (d := some 16) rfl rfl (by rfl) (v := (.int .i32 b)) (fun w' hk => ?_) ?_
  · go_simp
  simp only [Act.put, List.setIfInBounds_toArray, List.set_cons_zero, List.set_cons_succ]
  refine WE.pure (d := some 17) rfl rfl (by rfl) (v := (.int .i64 b)) (fun w' hk => ?_) ?_
  · go_simp
  simp only [Act.put, List.setIfInBounds_toArray, List.set_cons_zero, List.set_cons_succ]
  refine WE.pure (d := some 7) rfl rfl (by rfl) (v := (.int .i64 a)) (fun w' hk => ?_) ?_
  · go_simp
  simp only [Act.put, List.setIfInBounds_toArray, List.set_cons_zero, List.set_cons_succ]
  refine WE.pure (d := some 8) rfl rfl (by rfl) (v := (.int .i64 b)) (fun w' hk => ?_) ?_
  · go_simp
  simp only [Act.put, List.setIfInBounds_toArray, List.set_cons_zero, List.set_cons_succ]
  refine WE.done ?_
  go_upto_region 4 with (fail)
  refine wp_region_T [(0, 0), (1, 1), (2, 0), (3, 1), (4, 1), (5, 1), (6, 4)] (by kernel_rfl) fun wd hb => ?_
  replace E := hid (E.out.trans hb)
  clear hb
  refine WE.pure (d := some 18) rfl rfl (by rfl) (v := (.int .i64 a)) (fun w' hk => ?_) ?_
  · go_simp
  simp only [Act.put, List.setIfInBounds_toArray, List.set_cons_zero, List.set_cons_succ]
  refine WE.call (d := some 19) rfl rfl (by rfl) (f := 21) (args := #[(.int .i64 a)]) (by go_simp) ?_
  refine (rOf_z (n := a) (by have := HA1.out; omega) (by have := HA2.out; omega) _).mono ?_
  rintro e wn ⟨v1, rfl, x1, hb⟩
  obtain ⟨g1, A1, n1, c1, rfl⟩ := x1.shape
  refine ⟨_, rfl, hb, ?_⟩
  replace E := hid (E.out.trans hb)
  have Q1 := hid x1
  clear hb x1
  simp only [Act.put, List.setIfInBounds_toArray, List.set_cons_zero, List.set_cons_succ]
  refine WE.pure (d := some 20) rfl rfl (by rfl) (v := (.int .i64 b)) (fun w' hk => ?_) ?_
  · go_simp
  simp only [Act.put, List.setIfInBounds_toArray, List.set_cons_zero, List.set_cons_succ]
  refine WE.call (d := some 21) rfl rfl (by rfl) (f := 21) (args := #[(.int .i64 b)]) (by go_simp) ?_
  refine (rOf_z (n := b) (by have := HB1.out; omega) (by have := HB2.out; omega) _).mono ?_
  rintro e wn ⟨v1, rfl, x1, hb⟩
  obtain ⟨g2, A2, n2, c2, rfl⟩ := x1.shape
  refine ⟨_, rfl, hb, ?_⟩
  replace E := hid (E.out.trans hb)
  replace Q1 := hid (Q1.out.up hb)
  have Q2 := hid x1
  clear hb x1
  simp only [Act.put, List.setIfInBounds_toArray, List.set_cons_zero, List.set_cons_succ]
  refine WE.call (d := some 22) rfl rfl (by rfl) (f := 12) (args := #[(.agg #[.bool g1, .slice A1 n1 c1]), (.agg #[.bool g2, .slice A2 n2 c2])]) (by go_simp) ?_
  refine (gOf_w (Worth.wide Q1.out.worth (k := 20) (by omega)) (Worth.wide Q2.out.worth (k := 20) (by omega)) (by omega)).mono ?_
  rintro e wn ⟨v1, rfl, x1, hb⟩
  obtain ⟨g3, A3, n3, c3, rfl⟩ := x1.shape
  refine ⟨_, rfl, hb, ?_⟩
  replace E := hid (E.out.trans hb)
  replace Q1 := hid (Q1.out.up hb)
  replace Q2 := hid (Q2.out.up hb)
  have Q3 := hid x1
  clear hb x1
  simp only [Act.put, List.setIfInBounds_toArray, List.set_cons_zero, List.set_cons_succ]
  clear Q1
  clear Q2
  refine WE.new (d := some 9) (cs := #[.bool false, .slice none 0 0]) (t := 24) (v := fun g => (.pointer (some ⟨g, 0, none⟩))) rfl rfl (by rfl) (fun w => by go_simp) fun gV9 wv hx0 hbox hge => ?_
  have HGV9 := hid (show W.heap.size ≤ gV9 by have := E.out.size; omega)
  replace E := hid (E.out.trans hx0)
  replace Q3 := hid (Q3.out.up hx0)
  have V9 : Hid (Box wv gV9 #[.bool false, .slice none 0 0] 24) := hid hbox
  clear hx0 hbox hge
  simp only [Act.put, List.setIfInBounds_toArray, List.set_cons_zero, List.set_cons_succ]
  refine WE.store2 (g := gV9) (x := .bool g3) (y := .slice A3 n3 c3) (t := 24) rfl rfl (by rfl) (fun w hb => ?_) V9.out (by rfl) fun ws hk hs => ?_
  · have c0 := hb.cell (o := 0) (v := .bool false) rfl; have f0 := hb.free 0; have c1 := hb.cell (o := 1) (v := .slice none 0 0) rfl; have f1 := hb.free 1; go_simp
  intro hbx
  replace E := hid (E.out.keptG hk HGV9.out)
  replace V9 := hid hbx
  replace Q3 := hid (Q3.out.kz hs)
  clear hk hs hbx
  refine WE.done ?_
  go_upto_region 5 with (fail)
  refine wp_region_T [(0, 0), (1, 0), (2, 0), (3, 0), (4, 0)] (by kernel_rfl) fun wd hb => ?_
  replace E := hid (E.out.trans hb)
  replace V9 := hid (V9.out.up hb)
  replace Q3 := hid (Q3.out.up hb)
  clear hb
  refine WE.pure (d := some 23) rfl rfl (by rfl) (v := (.int .i64 a)) (fun w' hk => ?_) ?_
  · go_simp
  simp only [Act.put, List.setIfInBounds_toArray, List.set_cons_zero, List.set_cons_succ]
  refine WE.pure (d := some 24) rfl rfl (by rfl) (v := (.int .i64 a)) (fun w' hk => ?_) ?_
  · go_simp
  simp only [Act.put, List.setIfInBounds_toArray, List.set_cons_zero, List.set_cons_succ]
  refine WE.pure (d := some 25) rfl rfl (by rfl) (v := (.int .i64 na)) (fun w' hk => ?_) ?_
  · go_simp
  simp only [Act.put, List.setIfInBounds_toArray, List.set_cons_zero, List.set_cons_succ]
  refine WE.pure (d := some 26) rfl rfl (by rfl) (v := (.int .i64 (p : Int))) (fun w' hk => ?_) ?_
  · go_simp
  simp only [Act.put, List.setIfInBounds_toArray, List.set_cons_zero, List.set_cons_succ]
  refine WE.pure (d := some 10) rfl rfl (by rfl) (v := (.int .i64 (p : Int))) (fun w' hk => ?_) ?_
  · go_simp
  simp only [Act.put, List.setIfInBounds_toArray, List.set_cons_zero, List.set_cons_succ]
  refine WE.done ?_
  go_upto_region 6 with (fail)
  refine wp_region_T [(0, 0), (1, 0), (2, 0), (3, 0), (4, 0)] (by kernel_rfl) fun wd hb => ?_
  replace E := hid (E.out.trans hb)
  replace V9 := hid (V9.out.up hb)
  replace Q3 := hid (Q3.out.up hb)
  clear hb
  refine WE.pure (d := some 27) rfl rfl (by rfl) (v := (.int .i64 b)) (fun w' hk => ?_) ?_
  · go_simp
  simp only [Act.put, List.setIfInBounds_toArray, List.set_cons_zero, List.set_cons_succ]
  refine WE.pure (d := some 28) rfl rfl (by rfl) (v := (.int .i64 b)) (fun w' hk => ?_) ?_
  · go_simp
  simp only [Act.put, List.setIfInBounds_toArray, List.set_cons_zero, List.set_cons_succ]
  refine WE.pure (d := some 29) rfl rfl (by rfl) (v := (.int .i64 nb)) (fun w' hk => ?_) ?_
  · go_simp
  simp only [Act.put, List.setIfInBounds_toArray, List.set_cons_zero, List.set_cons_succ]
  refine WE.pure (d := some 30) rfl rfl (by rfl) (v := (.int .i64 (q : Int))) (fun w' hk => ?_) ?_
  · go_simp
  simp only [Act.put, List.setIfInBounds_toArray, List.set_cons_zero, List.set_cons_succ]
  refine WE.pure (d := some 11) rfl rfl (by rfl) (v := (.int .i64 (q : Int))) (fun w' hk => ?_) ?_
  · go_simp
  simp only [Act.put, List.setIfInBounds_toArray, List.set_cons_zero, List.set_cons_succ]
  refine WE.done ?_
  clear hna hnb ht hs hwna hwnb hmp hmq
  go_wp2
  go_loopw [10, 11] (fun u v wr => ∃ (x y : Nat), u = .int .i64 (x : Int) ∧ v = .int .i64 (y : Int) ∧ Hid ((x : Int) ≤ 2147483648) ∧ Hid ((y : Int) ≤ 2147483648) ∧ Hid (Nat.gcd x y = Int.gcd a b) ∧ Hid (Ext W wr) ∧ Hid (Box wr gV9 #[.bool g3, .slice A3 n3 c3] 24) ∧ Hid (IsZ wr (.agg #[.bool g3, .slice A3 n3 c3]) ((Int.gcd a b : Nat) : Int) 20)) (fun _ v _ => (intOf v).toNat)
  case atStart => exact ⟨p, q, rfl, rfl, HPB, HQB, HPQ.out, E.out, V9.out, Q3.out⟩
  case round =>
    clear E V9 Q3 HPB HQB HPQ
    obtain ⟨x, y, rfl, rfl, HXB, HYB, HXY, E, V9, QG⟩ := hrel
    by_cases h0 : y = 0
    · subst h0
      have HX := hid (show (x : Int) = ((Int.gcd a b : Nat) : Int) by rw [← HXY.out, Nat.gcd_zero_right])
      go_upto_region 9 with (fail)
      refine wp_region_E [(0, 0), (1, 0), (2, 1), (3, 1), (4, 0), (5, 0), (7, 0), (10, 0), (6, 1), (8, 1), (9, 1), (11, 1), (12, 0), (13, 0), (14, 0), (16, 0), (17, 0), (18, 0), (19, 0), (20, 0), (21, 0), (24, 0), (15, 1), (22, 1), (23, 1), (25, 1), (26, 0), (27, 0)] (fun _ => (0, #[])) rfl (by kernel_rfl) (by intro j hj; cases hj) (fun _ _ d _ _ => by cases d <;> exact Iff.rfl) fun wd hb => ?_
      replace E := hid (E.out.trans hb)
      replace V9 := hid (V9.out.up hb)
      replace QG := hid (QG.out.up hb)
      clear hb
      refine WE.pure (d := some 37) rfl rfl (by rfl) (v := (.agg #[.bool g3, .slice A3 n3 c3])) (fun w' hk => ?_) ?_
      · have c0 := hk.cell (V9.out.cell (o := 0) (v := .bool g3) rfl); have c1 := hk.cell (V9.out.cell (o := 1) (v := .slice A3 n3 c3) rfl); go_simp
      simp only [Act.put, List.setIfInBounds_toArray, List.set_cons_zero, List.set_cons_succ]
      refine WE.pure (d := some 38) rfl rfl (by rfl) (v := (.int .i64 (x : Int))) (fun w' hk => ?_) ?_
      · go_simp
      simp only [Act.put, List.setIfInBounds_toArray, List.set_cons_zero, List.set_cons_succ]
      refine WE.call (d := some 39) rfl rfl (by rfl) (f := 21) (args := #[(.int .i64 (x : Int))]) (by go_simp) ?_
      refine (rOf_z (n := (x : Int)) (by omega) (by have := HXB.out; omega) _).mono ?_
      rintro e wn ⟨v1, rfl, x1, hb⟩
      obtain ⟨g4, A4, n4, c4, rfl⟩ := x1.shape
      refine ⟨_, rfl, hb, ?_⟩
      replace E := hid (E.out.trans hb)
      replace V9 := hid (V9.out.up hb)
      replace QG := hid (QG.out.up hb)
      have Q4 := hid x1
      clear hb x1
      simp only [Act.put, List.setIfInBounds_toArray, List.set_cons_zero, List.set_cons_succ]
      refine WE.call (d := some 40) rfl rfl (by rfl) (f := 11) (args := #[(.agg #[.bool g3, .slice A3 n3 c3]), (.agg #[.bool g4, .slice A4 n4 c4])]) (by go_simp) ?_
      refine (equal_z (IsZ.to QG.out (rfl)) (IsZ.to Q4.out (HX.out))).mono ?_
      rintro e wn ⟨rfl, hb⟩
      refine ⟨_, rfl, hb, ?_⟩
      replace E := hid (E.out.trans hb)
      replace V9 := hid (V9.out.up hb)
      replace QG := hid (QG.out.up hb)
      replace Q4 := hid (Q4.out.up hb)
      clear hb
      simp only [Act.put, List.setIfInBounds_toArray, List.set_cons_zero, List.set_cons_succ]
      clear Q4
      refine WE.pure (d := some 41) rfl rfl (by rfl) (v := (.bool true)) (fun w' hk => ?_) ?_
      · go_simp
      simp only [Act.put, List.setIfInBounds_toArray, List.set_cons_zero, List.set_cons_succ]
      refine WE.pure (d := some 42) rfl rfl (by rfl) (v := (.int .i64 b)) (fun w' hk => ?_) ?_
      · go_simp
      simp only [Act.put, List.setIfInBounds_toArray, List.set_cons_zero, List.set_cons_succ]
      refine WE.pure (d := some 44) rfl rfl (by rfl) (v := (.int .i64 a)) (fun w' hk => ?_) ?_
      · go_simp
      simp only [Act.put, List.setIfInBounds_toArray, List.set_cons_zero, List.set_cons_succ]
      refine WE.pure (d := some 47) rfl rfl (by rfl) (v := (.agg #[.bool g3, .slice A3 n3 c3])) (fun w' hk => ?_) ?_
      · have c0 := hk.cell (V9.out.cell (o := 0) (v := .bool g3) rfl); have c1 := hk.cell (V9.out.cell (o := 1) (v := .slice A3 n3 c3) rfl); go_simp
      simp only [Act.put, List.setIfInBounds_toArray, List.set_cons_zero, List.set_cons_succ]
      refine WE.call (d := some 43) rfl rfl (by rfl) (f := 21) (args := #[(.int .i64 b)]) (by go_simp) ?_
      refine (rOf_z (n := b) (by have := HB1.out; omega) (by have := HB2.out; omega) _).mono ?_
      rintro e wn ⟨v1, rfl, x1, hb⟩
      obtain ⟨g5, A5, n5, c5, rfl⟩ := x1.shape
      refine ⟨_, rfl, hb, ?_⟩
      replace E := hid (E.out.trans hb)
      replace V9 := hid (V9.out.up hb)
      replace QG := hid (QG.out.up hb)
      have Q5 := hid x1
      clear hb x1
      simp only [Act.put, List.setIfInBounds_toArray, List.set_cons_zero, List.set_cons_succ]
      refine WE.call (d := some 45) rfl rfl (by rfl) (f := 21) (args := #[(.int .i64 a)]) (by go_simp) ?_
      refine (rOf_z (n := a) (by have := HA1.out; omega) (by have := HA2.out; omega) _).mono ?_
      rintro e wn ⟨v1, rfl, x1, hb⟩
      obtain ⟨g6, A6, n6, c6, rfl⟩ := x1.shape
      refine ⟨_, rfl, hb, ?_⟩
      replace E := hid (E.out.trans hb)
      replace V9 := hid (V9.out.up hb)
      replace QG := hid (QG.out.up hb)
      replace Q5 := hid (Q5.out.up hb)
      have Q6 := hid x1
      clear hb x1
      simp only [Act.put, List.setIfInBounds_toArray, List.set_cons_zero, List.set_cons_succ]
      refine WE.call (d := some 46) rfl rfl (by rfl) (f := 12) (args := #[(.agg #[.bool g5, .slice A5 n5 c5]), (.agg #[.bool g6, .slice A6 n6 c6])]) (by go_simp) ?_
      refine (gOf_w (Worth.wide Q5.out.worth (k := 20) (by omega)) (Worth.wide Q6.out.worth (k := 20) (by omega)) (by omega)).mono ?_
      rintro e wn ⟨v1, rfl, x1, hb⟩
      obtain ⟨g7, A7, n7, c7, rfl⟩ := x1.shape
      refine ⟨_, rfl, hb, ?_⟩
      replace E := hid (E.out.trans hb)
      replace V9 := hid (V9.out.up hb)
      replace QG := hid (QG.out.up hb)
      replace Q5 := hid (Q5.out.up hb)
      replace Q6 := hid (Q6.out.up hb)
      have Q7 := hid x1
      clear hb x1
      simp only [Act.put, List.setIfInBounds_toArray, List.set_cons_zero, List.set_cons_succ]
      clear Q5
      clear Q6
      refine WE.call (d := some 48) rfl rfl (by rfl) (f := 11) (args := #[(.agg #[.bool g7, .slice A7 n7 c7]), (.agg #[.bool g3, .slice A3 n3 c3])]) (by go_simp) ?_
      refine (equal_z (IsZ.to Q7.out (M.gcd_comm_z _ _)) (IsZ.to QG.out (rfl))).mono ?_
      rintro e wn ⟨rfl, hb⟩
      refine ⟨_, rfl, hb, ?_⟩
      replace E := hid (E.out.trans hb)
      replace V9 := hid (V9.out.up hb)
      replace QG := hid (QG.out.up hb)
      replace Q7 := hid (Q7.out.up hb)
      clear hb
      simp only [Act.put, List.setIfInBounds_toArray, List.set_cons_zero, List.set_cons_succ]
      clear Q7
      refine WE.pure (d := some 49) rfl rfl (by rfl) (v := (.bool true)) (fun w' hk => ?_) ?_
      · go_simp
      simp only [Act.put, List.setIfInBounds_toArray, List.set_cons_zero, List.set_cons_succ]
      refine WE.pure (d := some 50) rfl rfl (by rfl) (v := (.bool true)) (fun w' hk => ?_) ?_
      · go_simp
      simp only [Act.put, List.setIfInBounds_toArray, List.set_cons_zero, List.set_cons_succ]
      refine WE.pure (d := some 51) rfl rfl (by rfl) (v := (.int .i64 a)) (fun w' hk => ?_) ?_
      · go_simp
      simp only [Act.put, List.setIfInBounds_toArray, List.set_cons_zero, List.set_cons_succ]
      refine WE.pure (d := some 53) rfl rfl (by rfl) (v := (.int .i64 b)) (fun w' hk => ?_) ?_
      · go_simp
      simp only [Act.put, List.setIfInBounds_toArray, List.set_cons_zero, List.set_cons_succ]
      refine WE.pure (d := some 54) rfl rfl (by rfl) (v := (.int .i8 k)) (fun w' hk => ?_) ?_
      · go_simp
      simp only [Act.put, List.setIfInBounds_toArray, List.set_cons_zero, List.set_cons_succ]
      refine WE.pure (d := some 55) rfl rfl (by rfl) (v := (.int .i64 k)) (fun w' hk => ?_) ?_
      · go_simp
      simp only [Act.put, List.setIfInBounds_toArray, List.set_cons_zero, List.set_cons_succ]
      refine WE.pure (d := some 56) rfl rfl (by rfl) (v := (.int .i64 a)) (fun w' hk => ?_) ?_
      · go_simp
      simp only [Act.put, List.setIfInBounds_toArray, List.set_cons_zero, List.set_cons_succ]
      refine WE.pure (d := some 57) rfl rfl (by rfl) (v := (.int .i64 t)) (fun w' hk => ?_) ?_
      · go_simp
      simp only [Act.put, List.setIfInBounds_toArray, List.set_cons_zero, List.set_cons_succ]
      refine WE.pure (d := some 58) rfl rfl (by rfl) (v := (.int .i64 s)) (fun w' hk => ?_) ?_
      · go_simp
      simp only [Act.put, List.setIfInBounds_toArray, List.set_cons_zero, List.set_cons_succ]
      refine WE.pure (d := some 61) rfl rfl (by rfl) (v := (.agg #[.bool g3, .slice A3 n3 c3])) (fun w' hk => ?_) ?_
      · have c0 := hk.cell (V9.out.cell (o := 0) (v := .bool g3) rfl); have c1 := hk.cell (V9.out.cell (o := 1) (v := .slice A3 n3 c3) rfl); go_simp
      simp only [Act.put, List.setIfInBounds_toArray, List.set_cons_zero, List.set_cons_succ]
      refine WE.call (d := some 52) rfl rfl (by rfl) (f := 21) (args := #[(.int .i64 a)]) (by go_simp) ?_
      refine (rOf_z (n := a) (by have := HA1.out; omega) (by have := HA2.out; omega) _).mono ?_
      rintro e wn ⟨v1, rfl, x1, hb⟩
      obtain ⟨g8, A8, n8, c8, rfl⟩ := x1.shape
      refine ⟨_, rfl, hb, ?_⟩
      replace E := hid (E.out.trans hb)
      replace V9 := hid (V9.out.up hb)
      replace QG := hid (QG.out.up hb)
      have Q8 := hid x1
      clear hb x1
      simp only [Act.put, List.setIfInBounds_toArray, List.set_cons_zero, List.set_cons_succ]
      refine WE.call (d := some 59) rfl rfl (by rfl) (f := 21) (args := #[(.int .i64 s)]) (by go_simp) ?_
      refine (rOf_z (n := s) HS.out.1 HS.out.2 _).mono ?_
      rintro e wn ⟨v1, rfl, x1, hb⟩
      obtain ⟨g9, A9, n9, c9, rfl⟩ := x1.shape
      refine ⟨_, rfl, hb, ?_⟩
      replace E := hid (E.out.trans hb)
      replace V9 := hid (V9.out.up hb)
      replace QG := hid (QG.out.up hb)
      replace Q8 := hid (Q8.out.up hb)
      have Q9 := hid x1
      clear hb x1
      simp only [Act.put, List.setIfInBounds_toArray, List.set_cons_zero, List.set_cons_succ]
      refine WE.call (d := some 60) rfl rfl (by rfl) (f := 12) (args := #[(.agg #[.bool g8, .slice A8 n8 c8]), (.agg #[.bool g9, .slice A9 n9 c9])]) (by go_simp) ?_
      refine (gOf_w (Worth.wide Q8.out.worth (k := 20) (by omega)) (Worth.wide Q9.out.worth (k := 20) (by omega)) (by omega)).mono ?_
      rintro e wn ⟨v1, rfl, x1, hb⟩
      obtain ⟨g10, A10, n10, c10, rfl⟩ := x1.shape
      refine ⟨_, rfl, hb, ?_⟩
      replace E := hid (E.out.trans hb)
      replace V9 := hid (V9.out.up hb)
      replace QG := hid (QG.out.up hb)
      replace Q8 := hid (Q8.out.up hb)
      replace Q9 := hid (Q9.out.up hb)
      have Q10 := hid x1
      clear hb x1
      simp only [Act.put, List.setIfInBounds_toArray, List.set_cons_zero, List.set_cons_succ]
      clear Q8
      clear Q9
      refine WE.call (d := some 62) rfl rfl (by rfl) (f := 11) (args := #[(.agg #[.bool g10, .slice A10 n10 c10]), (.agg #[.bool g3, .slice A3 n3 c3])]) (by go_simp) ?_
      refine (equal_z (IsZ.to Q10.out (HG.out)) (IsZ.to QG.out (rfl))).mono ?_
      rintro e wn ⟨rfl, hb⟩
      refine ⟨_, rfl, hb, ?_⟩
      replace E := hid (E.out.trans hb)
      replace V9 := hid (V9.out.up hb)
      replace QG := hid (QG.out.up hb)
      replace Q10 := hid (Q10.out.up hb)
      clear hb
      simp only [Act.put, List.setIfInBounds_toArray, List.set_cons_zero, List.set_cons_succ]
      clear Q10
      refine WE.pure (d := some 63) rfl rfl (by rfl) (v := (.bool true)) (fun w' hk => ?_) ?_
      · go_simp
      simp only [Act.put, List.setIfInBounds_toArray, List.set_cons_zero, List.set_cons_succ]
      refine WE.pure (d := some 6) rfl rfl (by rfl) (v := (.bool true)) (fun w' hk => ?_) ?_
      · go_simp
      simp only [Act.put, List.setIfInBounds_toArray, List.set_cons_zero, List.set_cons_succ]
      refine WE.done ?_
      repeat go_step
      go_ret
      exact ⟨rfl, E.out⟩
    · have hy : ¬ y = 0 := h0
      have hyi : ¬ (y : Int) = 0 := by omega
      obtain ⟨r, hr⟩ : ∃ r : Nat, r = x % y := ⟨_, rfl⟩
      have hq : (x : Int).tmod (y : Int) = (r : Int) := by
        rw [hr]; exact (Int.ofNat_tmod x y).symm
      have hlt : r < y := by rw [hr]; exact Nat.mod_lt _ (by omega)
      have hw : IntKind.i64.wrap (r : Int) = (r : Int) := by
        have h1 := HYB.out
        rw [IntKind.wrap_i64]; omega
      have HM := hid (show (r : Int) ≤ 2147483648 by
        have h1 := HYB.out
        omega)
      have HGR := hid (show Nat.gcd y r = Int.gcd a b by rw [hr]; exact (M.gcd_step x y).trans HXY.out)
      have HLT := hid hlt
      clear hr hlt
      go_upto_region 8 with (fail)
      refine wp_region_E [(0, 0), (1, 0), (2, 0), (3, 0), (4, 0), (5, 0)] (fun _ => (0, #[])) rfl (by kernel_rfl) (by intro j hj; cases hj) (fun _ _ d _ _ => by cases d <;> exact Iff.rfl) fun wd hb => ?_
      replace E := hid (E.out.trans hb)
      replace V9 := hid (V9.out.up hb)
      replace QG := hid (QG.out.up hb)
      clear hb
      refine WE.pure (d := some 33) rfl rfl (by rfl) (v := (.int .i64 (y : Int))) (fun w' hk => ?_) ?_
      · go_simp
      simp only [Act.put, List.setIfInBounds_toArray, List.set_cons_zero, List.set_cons_succ]
      refine WE.pure (d := some 34) rfl rfl (by rfl) (v := (.int .i64 (x : Int))) (fun w' hk => ?_) ?_
      · go_simp
      simp only [Act.put, List.setIfInBounds_toArray, List.set_cons_zero, List.set_cons_succ]
      refine WE.pure (d := some 35) rfl rfl (by rfl) (v := (.int .i64 (y : Int))) (fun w' hk => ?_) ?_
      · go_simp
      simp only [Act.put, List.setIfInBounds_toArray, List.set_cons_zero, List.set_cons_succ]
      refine WE.pure (d := some 36) rfl rfl (by rfl) (v := (.int .i64 (r : Int))) (fun w' hk => ?_) ?_
      · go_simp
      simp only [Act.put, List.setIfInBounds_toArray, List.set_cons_zero, List.set_cons_succ]
      refine WE.pure (d := some 10) rfl rfl (by rfl) (v := (.int .i64 (y : Int))) (fun w' hk => ?_) ?_
      · go_simp
      simp only [Act.put, List.setIfInBounds_toArray, List.set_cons_zero, List.set_cons_succ]
      refine WE.pure (d := some 11) rfl rfl (by rfl) (v := (.int .i64 (r : Int))) (fun w' hk => ?_) ?_
      · go_simp
      simp only [Act.put, List.setIfInBounds_toArray, List.set_cons_zero, List.set_cons_succ]
      refine WE.done ?_
      go_wp2
      go_roundw
      case rel => exact ⟨y, r, rfl, rfl, HYB, HM, HGR, E, V9, QG⟩
      case measure => simp [intOf]; have := HLT.out; omega

theorem i32_of_wf {n : Int} (h : (Lit.int .i32 n).wf = true) : -2147483648 ≤ n ∧ n ≤ 2147483647 := by
  simpa [Lit.wf, IntKind.min, IntKind.max, IntKind.signed, IntKind.bits] using h
theorem i8_of_wf {n : Int} (h : (Lit.int .i8 n).wf = true) : -128 ≤ n ∧ n ≤ 127 := by
  simpa [Lit.wf, IntKind.min, IntKind.max, IntKind.signed, IntKind.bits] using h
theorem gcdSteps_walk2 (W : World) (a b k : Int) (ha : -2147483648 ≤ a ∧ a ≤ 2147483647) (hb : -2147483648 ≤ b ∧ b ≤ 2147483647) (hk : -128 ≤ k ∧ k ≤ 127) : Calls Try.prog 6 #[.int .i32 a, .int .i32 b, .int .i8 k] W (fun e w' => e = .returned (.bool true) ∧ Ext W w') := gcdSteps_walk W a b k ha.1 ha.2 hb.1 hb.2 hk.1 hk.2

set_option maxRecDepth 100000 in
theorem gcdSteps_lifted (os : Os) (started : os.Started) (H : Type) (enc : TypeId × Value → H) :
    ReturnsInHanded {} Try.checked os 6 .any (Rows.gcdStepsSpec.pre6 enc Try.prog Try.f6 Rows.gcdStepsRow.domain false) (Rows.gcdStepsSpec.post enc Try.prog Try.f6 false true false false) := by
  refine returnsInHanded_of_change (C := Try.checked) own started (by kernel_rfl) Try.func6
    (ChangeSpec.witness6 (enc := enc) (C := Try.checked) false ⟨#[], #[.int .i32 0, .int .i32 0, .int .i8 0], []⟩ 8 (by kernel_rfl) (by kernel_rfl) (by kernel_rfl) (by kernel_rfl)) ?_
  intro W base args ds gs before hval0 hW _ _
  have hval : ∀ (j : Nat) t v, Try.f6.params[j]? = some t → args[j]? = some v → Value.okWide Try.prog W .any base t v := hval0
  have hW' := hW
  obtain ⟨p, q, hA0, hV, rfl, hfz, hnd⟩ := hW
  have hA : DataW.TrodAll enc Try.prog W 0 (fun _ => true) true Try.f6.params.toList args.toList ds p := hA0
  rw [Try.params6] at hA hval
  obtain ⟨v0, vs0, d0, ds0, p0, q0, hargs, rfl, rfl, h0, r0⟩ := trodAll_cons hA
  obtain ⟨v1, vs1, d1, ds1, p1, q1, rfl, rfl, rfl, h1, r1⟩ := trodAll_cons r0
  obtain ⟨v2, vs2, d2, ds2, p2, q2, rfl, rfl, rfl, h2, r2⟩ := trodAll_cons r1
  obtain ⟨rfl, rfl, rfl⟩ := trodAll_nil r2
  obtain rfl : args = #[v0, v1, v2] := by cases args; simp_all
  obtain ⟨rfl, rfl⟩ := trodVars_none hV
  obtain ⟨a0, rfl, -, -, w0⟩ := open_int Try.underlying21 (hval 0 21 v0 rfl rfl) h0
  obtain ⟨a1, rfl, -, -, w1⟩ := open_int Try.underlying21 (hval 1 21 v1 rfl rfl) h1
  obtain ⟨a2, rfl, -, -, w2⟩ := open_int Try.underlying41 (hval 2 41 v2 rfl rfl) h2
  clear hA0 hval0
  refine (gcdSteps_walk2 W a0 a1 a2 (i32_of_wf w0) (i32_of_wf w1) (i8_of_wf w2)).mono fun e W' ⟨he, hg⟩ => ?_
  subst he
  exact ⟨_, rfl, law_post hW' rfl rfl (by kernel_rfl) (by kernel_rfl) hg⟩

theorem gcdSteps_over : Rows.gcdStepsRow.holds Try.pinned (OpenSpec.ofChange Rows.gcdStepsSpec) :=
  OpenClaim.holds_of_wide 6 Try.f6 rfl rfl rfl rfl rfl rfl rfl ⟨rfl, rfl, rfl, rfl, rfl⟩ rfl rfl rfl rfl rfl (by kernel_rfl) Try.func6 (by kernel_rfl)
    (of_decide_eq_true (by kernel_rfl)) (by unfold Func.isWrapper; first | (rw [if_pos (by decide +kernel)]; kernel_rfl) | (rw [if_neg (by decide +kernel)]; exact ⟨rfl, rfl⟩))
    (fun os started H enc _ => gcdSteps_lifted os started H enc)

theorem gcdSteps_proved : Rows.GcdStepsSaid := gcdSteps_over

end Go.Proofs.Ytljjijcmoafndaa
