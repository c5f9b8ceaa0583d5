/-
  WholeSmall: whatever two numbers of 32 bits: true. No conditions.
-/
import Derived.Test.YtjmonmbgfihgmaaZKnown
namespace Go.Proofs.Ytjmonmbgfihgmaa
open Go.ChangeShapes Go.WideShapes Go.ChangeAt Go.RowKit
set_option linter.unusedSimpArgs false
set_option linter.unusedVariables false

theorem small_as {w : World} {u : Value} {Z : Int} {j : Nat} (hu : Worth w u Z j) {Y : Int} (he : Z = Y) (hf : M.fits Y) : Calls Try.prog 17 #[u] w (fun e w' => e = .returned (.tuple #[.int .i64 Y, .bool true]) ∧ Ext w w') := by
  subst he; exact small_yes hu hf
theorem i32_of_wf {n : Int} (h : (Lit.int .i32 n).wf = true) : -2147483648 ≤ n ∧ n ≤ 2147483647 := by
  simpa [Lit.wf, IntKind.min, IntKind.max, IntKind.signed, IntKind.bits] using h
theorem sign2 (w : World) {d z : Int} (h : d.sign = z) : Calls Try.prog 40 #[.int .i64 d] w fun e w' => e = .returned (.int .i64 z) ∧ w = w' := by
  subst h
  rcases M.sign_cases d with ⟨hd, e⟩ | ⟨hd, e⟩ | ⟨hd, e⟩
  · rw [e]
    go_enter Try.func40, Try.ntmps40
    go_wp2
    go_ret
    exact ⟨rfl, rfl⟩
  · subst hd
    rw [e]
    go_enter Try.func40, Try.ntmps40
    go_wp2
    go_ret
    exact ⟨rfl, rfl⟩
  · rw [e]
    have h2 : decide (d < 0) = false := by simp; omega
    go_enter Try.func40, Try.ntmps40
    go_wp2
    go_ret
    exact ⟨rfl, rfl⟩
namespace M
theorem few_mul {a b : Int} (h1 : -2147483648 ≤ a) (h2 : a ≤ 2147483647) (h3 : -2147483648 ≤ b) (h4 : b ≤ 2147483647) : -4611686018427387904 ≤ a * b ∧ a * b ≤ 4611686018427387904 := by
  have h := Nat.mul_le_mul (show a.natAbs ≤ 2147483648 by omega) (show b.natAbs ≤ 2147483648 by omega)
  rw [← Int.natAbs_mul] at h
  omega
theorem few_mod (a : Int) {b : Int} (hb : b ≠ 0) : (a.tmod b + (b.natAbs : Int)).tmod (b.natAbs : Int) = a % b ∧ -(b.natAbs : Int) < a.tmod b ∧ a.tmod b < (b.natAbs : Int) := by
  have h1 : (a.tmod b).natAbs < b.natAbs := by rw [Int.natAbs_tmod]; exact Nat.mod_lt _ (by omega)
  refine ⟨?_, by omega, by omega⟩
  rw [Int.tmod_eq_emod_of_nonneg (by omega), Int.add_emod_right]
  have e : a.tmod b = a - b * a.tdiv b := Int.tmod_def a b
  rcases (by omega : (b.natAbs : Int) = b ∨ (b.natAbs : Int) = -b) with h | h
  · rw [h, e, Int.sub_mul_emod_self_left]
  · rw [h, e, Int.emod_neg, Int.sub_mul_emod_self_left]
theorem few_div (a : Int) {b : Int} (hb : b ≠ 0) : (a - a % b).tdiv b = a / b := by
  have e := Int.mul_ediv_add_emod a b
  rw [show a - a % b = b * (a / b) by omega]
  exact Int.mul_tdiv_cancel_left _ hb
theorem few_quo {a b : Int} (h1 : -2147483648 ≤ a) (h2 : a ≤ 2147483647) (h3 : -2147483648 ≤ b) (h4 : b ≤ 2147483647) (hb : b ≠ 0) : -8589934592 ≤ a / b ∧ a / b ≤ 8589934592 ∧ 0 ≤ a % b ∧ a % b ≤ 2147483648 := by
  have e := Int.mul_ediv_add_emod a b
  have m0 := Int.emod_nonneg a hb
  have m1 := Int.emod_lt a hb
  have h : (b * (a / b)).natAbs ≤ 8589934592 := by omega
  rw [Int.natAbs_mul] at h
  have h2 : (a / b).natAbs ≤ b.natAbs * (a / b).natAbs := Nat.le_mul_of_pos_left _ (by omega)
  omega
end M

set_option maxRecDepth 100000 in
set_option maxHeartbeats 4000000 in
theorem wholeSmall_z (W : World) (a b : Int) (ha1 : -2147483648 ≤ a) (ha2 : a ≤ 2147483647) (hb1 : -2147483648 ≤ b) (hb2 : b ≤ 2147483647) (hz : b = 0) :
    Calls Try.prog 6 #[.int .i32 a, .int .i32 b] W (fun e w' => e = .returned (.bool true) ∧ Ext W w') := by
  obtain ⟨p, hp⟩ : ∃ s : Int, a * b = s := ⟨_, rfl⟩
  have hpb := M.few_mul ha1 ha2 hb1 hb2
  rw [hp] at hpb
  obtain ⟨d, hd⟩ : ∃ s : Int, a - b = s := ⟨_, rfl⟩
  obtain ⟨cz, hcz⟩ : ∃ s : Int, M.zcmp a b = s := ⟨_, rfl⟩
  have HP := hid hp
  have HDD := hid hd
  have HCZ := hid hcz
  have HCS := hid (show d.sign = cz by rw [← hcz, ← hd]; rfl)
  have HWA := hid (show IntKind.i64.wrap a = a by rw [IntKind.wrap_i64]; omega)
  have HWB := hid (show IntKind.i64.wrap b = b by rw [IntKind.wrap_i64]; omega)
  have HWP := hid (show IntKind.i64.wrap p = p by rw [IntKind.wrap_i64]; omega)
  have HWD := hid (show IntKind.i64.wrap d = d by rw [IntKind.wrap_i64]; omega)
  have HFP := hid (show M.fits p by unfold M.fits; omega)
  have HFD := hid (show M.fits d by unfold M.fits; omega)
  clear hp hd hcz hpb
  have hb0 : (b == 0) = true := by rw [hz]; rfl
  clear hz
  go_enter Try.func6, Try.ntmps6
  go_upto_region 1 with (fail)
  have E := hid (Ext.refl W)
  go_upto_region 1 with (fail)
  refine wp_region_T [(0, 1), (1, 0)] (by kernel_rfl) fun wd hb => ?_
  replace E := hid (E.out.trans hb)
  clear hb
  refine WE.call (d := some 20) rfl rfl (by rfl) (f := 11) (args := #[]) (by go_simp) ?_
  refine (known2 _).mono ?_
  rintro e wn ⟨rfl, hb⟩
  refine ⟨_, rfl, hb, ?_⟩
  replace E := hid (E.out.trans hb)
  clear hb
  simp only [Act.put, List.setIfInBounds_toArray, List.set_cons_zero, List.set_cons_succ]
  refine WE.pure (d := some 21) rfl rfl (by rfl) (v := (.bool false)) (fun w' hk => ?_) ?_
  · go_simp
  simp only [Act.put, List.setIfInBounds_toArray, List.set_cons_zero, List.set_cons_succ]
  refine WE.done ?_
  go_upto_region 3 with (fail)
  refine wp_region_T [(0, 0), (1, 0), (2, 0), (3, 0), (4, 0), (5, 0)] (by kernel_rfl) fun wd hb => ?_
  replace E := hid (E.out.trans hb)
  clear hb
  refine WE.pure (d := some 22) rfl rfl (by rfl) (v := (.int .i32 a)) (fun w' hk => ?_) ?_
  · go_simp
  simp only [Act.put, List.setIfInBounds_toArray, List.set_cons_zero, List.set_cons_succ]
  refine WE.pure (d := some 23) rfl rfl (by rfl) (v := (.int .i64 a)) (fun w' hk => ?_) ?_
  · have q0 : IntKind.i64.wrap a = a := HWA.out; go_simp
  simp only [Act.put, List.setIfInBounds_toArray, List.set_cons_zero, List.set_cons_succ]
  refine WE.pure (d := some 24) rfl rfl (by rfl) (v := (.int .i32 b)) (fun w' hk => ?_) ?_
  · go_simp
  simp only [Act.put, List.setIfInBounds_toArray, List.set_cons_zero, List.set_cons_succ]
  refine WE.pure (d := some 25) rfl rfl (by rfl) (v := (.int .i64 b)) (fun w' hk => ?_) ?_
  · have q0 : IntKind.i64.wrap b = b := HWB.out; go_simp
  simp only [Act.put, List.setIfInBounds_toArray, List.set_cons_zero, List.set_cons_succ]
  refine WE.pure (d := some 5) rfl rfl (by rfl) (v := (.int .i64 a)) (fun w' hk => ?_) ?_
  · go_simp
  simp only [Act.put, List.setIfInBounds_toArray, List.set_cons_zero, List.set_cons_succ]
  refine WE.pure (d := some 6) rfl rfl (by rfl) (v := (.int .i64 b)) (fun w' hk => ?_) ?_
  · go_simp
  simp only [Act.put, List.setIfInBounds_toArray, List.set_cons_zero, List.set_cons_succ]
  refine WE.done ?_
  go_upto_region 4 with (fail)
  refine wp_region_T [(0, 0), (1, 1), (2, 0), (3, 1), (4, 1), (5, 1), (6, 4), (7, 4)] (by kernel_rfl) fun wd hb => ?_
  replace E := hid (E.out.trans hb)
  clear hb
  refine WE.pure (d := some 26) rfl rfl (by rfl) (v := (.int .i64 a)) (fun w' hk => ?_) ?_
  · go_simp
  simp only [Act.put, List.setIfInBounds_toArray, List.set_cons_zero, List.set_cons_succ]
  refine WE.call (d := some 27) rfl rfl (by rfl) (f := 22) (args := #[(.int .i64 a)]) (by go_simp) ?_
  refine (of_z (n := a) (by omega) (by omega) _).mono ?_
  rintro e wn ⟨v1, rfl, x1, hb⟩
  obtain ⟨g1, A1, n1, c1, rfl⟩ := x1.shape
  refine ⟨_, rfl, hb, ?_⟩
  replace E := hid (E.out.trans hb)
  have Q1 := hid x1
  clear hb x1
  simp only [Act.put, List.setIfInBounds_toArray, List.set_cons_zero, List.set_cons_succ]
  refine WE.pure (d := some 28) rfl rfl (by rfl) (v := (.int .i64 b)) (fun w' hk => ?_) ?_
  · go_simp
  simp only [Act.put, List.setIfInBounds_toArray, List.set_cons_zero, List.set_cons_succ]
  refine WE.call (d := some 29) rfl rfl (by rfl) (f := 22) (args := #[(.int .i64 b)]) (by go_simp) ?_
  refine (of_z (n := b) (by omega) (by omega) _).mono ?_
  rintro e wn ⟨v1, rfl, x1, hb⟩
  obtain ⟨g2, A2, n2, c2, rfl⟩ := x1.shape
  refine ⟨_, rfl, hb, ?_⟩
  replace E := hid (E.out.trans hb)
  replace Q1 := hid (Q1.out.up hb)
  have Q2 := hid x1
  clear hb x1
  simp only [Act.put, List.setIfInBounds_toArray, List.set_cons_zero, List.set_cons_succ]
  refine WE.new (d := some 7) (cs := #[.bool false, .slice none 0 0]) (t := 24) (v := fun g => (.pointer (some ⟨g, 0, none⟩))) rfl rfl (by rfl) (fun w => by go_simp) fun gV7 wv hx0 hbox hge => ?_
  have HGV7 := hid (show W.heap.size ≤ gV7 by have := E.out.size; omega)
  replace E := hid (E.out.trans hx0)
  replace Q1 := hid (Q1.out.up hx0)
  replace Q2 := hid (Q2.out.up hx0)
  have V7 : Hid (Box wv gV7 #[.bool false, .slice none 0 0] 24) := hid hbox
  clear hx0 hbox hge
  simp only [Act.put, List.setIfInBounds_toArray, List.set_cons_zero, List.set_cons_succ]
  refine WE.new (d := some 8) (cs := #[.bool false, .slice none 0 0]) (t := 24) (v := fun g => (.pointer (some ⟨g, 0, none⟩))) rfl rfl (by rfl) (fun w => by go_simp) fun gV8 wv hx0 hbox hge => ?_
  have HNV8V7 := hid (show gV8 ≠ gV7 by have := V7.out.lt; omega)
  have HGV8 := hid (show W.heap.size ≤ gV8 by have := E.out.size; omega)
  replace E := hid (E.out.trans hx0)
  replace V7 := hid (V7.out.up hx0)
  replace Q1 := hid (Q1.out.up hx0)
  replace Q2 := hid (Q2.out.up hx0)
  have V8 : Hid (Box wv gV8 #[.bool false, .slice none 0 0] 24) := hid hbox
  clear hx0 hbox hge
  simp only [Act.put, List.setIfInBounds_toArray, List.set_cons_zero, List.set_cons_succ]
  refine WE.store2 (g := gV7) (x := .bool g1) (y := .slice A1 n1 c1) (t := 24) rfl rfl (by rfl) (fun w hb => ?_) V7.out (by rfl) fun ws hk hs => ?_
  · have c0 := hb.cell (o := 0) (v := .bool false) rfl; have f0 := hb.free 0; have c1 := hb.cell (o := 1) (v := .slice none 0 0) rfl; have f1 := hb.free 1; go_simp
  intro hbx
  replace E := hid (E.out.keptG hk HGV7.out)
  replace V7 := hid hbx
  replace V8 := hid (V8.out.kept hk (by simpa using HNV8V7.out))
  replace Q1 := hid (Q1.out.kz hs)
  replace Q2 := hid (Q2.out.kz hs)
  clear hk hs hbx
  refine WE.store2 (g := gV8) (x := .bool g2) (y := .slice A2 n2 c2) (t := 24) rfl rfl (by rfl) (fun w hb => ?_) V8.out (by rfl) fun ws hk hs => ?_
  · have c0 := hb.cell (o := 0) (v := .bool false) rfl; have f0 := hb.free 0; have c1 := hb.cell (o := 1) (v := .slice none 0 0) rfl; have f1 := hb.free 1; go_simp
  intro hbx
  replace E := hid (E.out.keptG hk HGV8.out)
  replace V7 := hid (V7.out.kept hk (by simpa using HNV8V7.out.symm))
  replace V8 := hid hbx
  replace Q1 := hid (Q1.out.kz hs)
  replace Q2 := hid (Q2.out.kz hs)
  clear hk hs hbx
  refine WE.done ?_
  go_upto_region 5 with (fail)
  refine wp_region_T [(0, 0), (1, 0), (2, 1), (3, 1), (4, 0), (5, 0), (6, 0), (7, 0), (8, 0)] (by kernel_rfl) fun wd hb => ?_
  replace E := hid (E.out.trans hb)
  replace V7 := hid (V7.out.up hb)
  replace V8 := hid (V8.out.up hb)
  replace Q1 := hid (Q1.out.up hb)
  replace Q2 := hid (Q2.out.up hb)
  clear hb
  refine WE.pure (d := some 31) rfl rfl (by rfl) (v := (.agg #[.bool g1, .slice A1 n1 c1])) (fun w' hk => ?_) ?_
  · have c0 := hk.cell (V7.out.cell (o := 0) (v := .bool g1) rfl); have c1 := hk.cell (V7.out.cell (o := 1) (v := .slice A1 n1 c1) rfl); go_simp
  simp only [Act.put, List.setIfInBounds_toArray, List.set_cons_zero, List.set_cons_succ]
  refine WE.pure (d := some 32) rfl rfl (by rfl) (v := (.agg #[.bool g2, .slice A2 n2 c2])) (fun w' hk => ?_) ?_
  · have c0 := hk.cell (V8.out.cell (o := 0) (v := .bool g2) rfl); have c1 := hk.cell (V8.out.cell (o := 1) (v := .slice A2 n2 c2) rfl); go_simp
  simp only [Act.put, List.setIfInBounds_toArray, List.set_cons_zero, List.set_cons_succ]
  refine WE.call (d := some 33) rfl rfl (by rfl) (f := 38) (args := #[(.agg #[.bool g1, .slice A1 n1 c1]), (.agg #[.bool g2, .slice A2 n2 c2])]) (by go_simp) ?_
  refine (mul_w Q1.out.worth Q2.out.worth (by omega) (by omega) (by omega)).mono ?_
  rintro e wn ⟨v1, rfl, x1, hb⟩
  obtain ⟨g3, A3, n3, c3, rfl⟩ := x1.shape
  refine ⟨_, rfl, hb, ?_⟩
  replace E := hid (E.out.trans hb)
  replace V7 := hid (V7.out.up hb)
  replace V8 := hid (V8.out.up hb)
  replace Q1 := hid (Q1.out.up hb)
  replace Q2 := hid (Q2.out.up hb)
  have Q3 := hid x1
  clear hb x1
  simp only [Act.put, List.setIfInBounds_toArray, List.set_cons_zero, List.set_cons_succ]
  refine WE.call (d := some 34) rfl rfl (by rfl) (f := 17) (args := #[(.agg #[.bool g3, .slice A3 n3 c3])]) (by go_simp) ?_
  refine (small_as Q3.out.worth (HP.out) (Y := p) (HFP.out)).mono ?_
  rintro e wn ⟨rfl, hb⟩
  refine ⟨_, rfl, hb, ?_⟩
  replace E := hid (E.out.trans hb)
  replace V7 := hid (V7.out.up hb)
  replace V8 := hid (V8.out.up hb)
  replace Q1 := hid (Q1.out.up hb)
  replace Q2 := hid (Q2.out.up hb)
  replace Q3 := hid (Q3.out.up hb)
  clear hb
  simp only [Act.put, List.setIfInBounds_toArray, List.set_cons_zero, List.set_cons_succ]
  clear Q3
  refine WE.pure (d := some 30) rfl rfl (by rfl) (v := (.tuple #[(.int .i64 p), (.bool true)])) (fun w' hk => ?_) ?_
  · go_simp
  simp only [Act.put, List.setIfInBounds_toArray, List.set_cons_zero, List.set_cons_succ]
  refine WE.pure (d := some 35) rfl rfl (by rfl) (v := (.int .i64 p)) (fun w' hk => ?_) ?_
  · go_simp
  simp only [Act.put, List.setIfInBounds_toArray, List.set_cons_zero, List.set_cons_succ]
  refine WE.pure (d := some 36) rfl rfl (by rfl) (v := (.bool true)) (fun w' hk => ?_) ?_
  · go_simp
  simp only [Act.put, List.setIfInBounds_toArray, List.set_cons_zero, List.set_cons_succ]
  refine WE.pure (d := some 9) rfl rfl (by rfl) (v := (.int .i64 p)) (fun w' hk => ?_) ?_
  · go_simp
  simp only [Act.put, List.setIfInBounds_toArray, List.set_cons_zero, List.set_cons_succ]
  refine WE.pure (d := some 10) rfl rfl (by rfl) (v := (.bool true)) (fun w' hk => ?_) ?_
  · go_simp
  simp only [Act.put, List.setIfInBounds_toArray, List.set_cons_zero, List.set_cons_succ]
  refine WE.done ?_
  go_upto_region 6 with (fail)
  refine wp_region_T [(0, 0), (1, 0), (2, 1), (3, 1), (4, 0), (5, 0), (6, 0), (7, 0), (8, 0)] (by kernel_rfl) fun wd hb => ?_
  replace E := hid (E.out.trans hb)
  replace V7 := hid (V7.out.up hb)
  replace V8 := hid (V8.out.up hb)
  replace Q1 := hid (Q1.out.up hb)
  replace Q2 := hid (Q2.out.up hb)
  clear hb
  refine WE.pure (d := some 38) rfl rfl (by rfl) (v := (.agg #[.bool g1, .slice A1 n1 c1])) (fun w' hk => ?_) ?_
  · have c0 := hk.cell (V7.out.cell (o := 0) (v := .bool g1) rfl); have c1 := hk.cell (V7.out.cell (o := 1) (v := .slice A1 n1 c1) rfl); go_simp
  simp only [Act.put, List.setIfInBounds_toArray, List.set_cons_zero, List.set_cons_succ]
  refine WE.pure (d := some 39) rfl rfl (by rfl) (v := (.agg #[.bool g2, .slice A2 n2 c2])) (fun w' hk => ?_) ?_
  · have c0 := hk.cell (V8.out.cell (o := 0) (v := .bool g2) rfl); have c1 := hk.cell (V8.out.cell (o := 1) (v := .slice A2 n2 c2) rfl); go_simp
  simp only [Act.put, List.setIfInBounds_toArray, List.set_cons_zero, List.set_cons_succ]
  refine WE.call (d := some 40) rfl rfl (by rfl) (f := 36) (args := #[(.agg #[.bool g1, .slice A1 n1 c1]), (.agg #[.bool g2, .slice A2 n2 c2])]) (by go_simp) ?_
  refine (sub_w Q1.out.worth Q2.out.worth (by omega) (by omega)).mono ?_
  rintro e wn ⟨v1, rfl, x1, hb⟩
  obtain ⟨g4, A4, n4, c4, rfl⟩ := x1.shape
  refine ⟨_, rfl, hb, ?_⟩
  replace E := hid (E.out.trans hb)
  replace V7 := hid (V7.out.up hb)
  replace V8 := hid (V8.out.up hb)
  replace Q1 := hid (Q1.out.up hb)
  replace Q2 := hid (Q2.out.up hb)
  have Q4 := hid x1
  clear hb x1
  simp only [Act.put, List.setIfInBounds_toArray, List.set_cons_zero, List.set_cons_succ]
  refine WE.call (d := some 41) rfl rfl (by rfl) (f := 17) (args := #[(.agg #[.bool g4, .slice A4 n4 c4])]) (by go_simp) ?_
  refine (small_as Q4.out.worth (HDD.out) (Y := d) (HFD.out)).mono ?_
  rintro e wn ⟨rfl, hb⟩
  refine ⟨_, rfl, hb, ?_⟩
  replace E := hid (E.out.trans hb)
  replace V7 := hid (V7.out.up hb)
  replace V8 := hid (V8.out.up hb)
  replace Q1 := hid (Q1.out.up hb)
  replace Q2 := hid (Q2.out.up hb)
  replace Q4 := hid (Q4.out.up hb)
  clear hb
  simp only [Act.put, List.setIfInBounds_toArray, List.set_cons_zero, List.set_cons_succ]
  clear Q4
  refine WE.pure (d := some 37) rfl rfl (by rfl) (v := (.tuple #[(.int .i64 d), (.bool true)])) (fun w' hk => ?_) ?_
  · go_simp
  simp only [Act.put, List.setIfInBounds_toArray, List.set_cons_zero, List.set_cons_succ]
  refine WE.pure (d := some 42) rfl rfl (by rfl) (v := (.int .i64 d)) (fun w' hk => ?_) ?_
  · go_simp
  simp only [Act.put, List.setIfInBounds_toArray, List.set_cons_zero, List.set_cons_succ]
  refine WE.pure (d := some 43) rfl rfl (by rfl) (v := (.bool true)) (fun w' hk => ?_) ?_
  · go_simp
  simp only [Act.put, List.setIfInBounds_toArray, List.set_cons_zero, List.set_cons_succ]
  refine WE.pure (d := some 11) rfl rfl (by rfl) (v := (.int .i64 d)) (fun w' hk => ?_) ?_
  · go_simp
  simp only [Act.put, List.setIfInBounds_toArray, List.set_cons_zero, List.set_cons_succ]
  refine WE.pure (d := some 12) rfl rfl (by rfl) (v := (.bool true)) (fun w' hk => ?_) ?_
  · go_simp
  simp only [Act.put, List.setIfInBounds_toArray, List.set_cons_zero, List.set_cons_succ]
  refine WE.done ?_
  go_upto_region 7 with (fail)
  refine wp_region_T [(0, 0), (1, 0), (2, 0), (3, 0), (4, 0), (5, 0), (6, 0), (7, 0), (8, 0), (9, 0), (10, 0), (11, 0), (12, 0), (13, 0), (14, 0), (15, 0), (16, 0), (17, 0), (18, 0), (19, 0), (20, 0), (21, 0), (22, 0), (23, 1), (24, 0), (25, 0), (26, 0), (27, 1), (28, 0), (29, 0)] (by kernel_rfl) fun wd hb => ?_
  replace E := hid (E.out.trans hb)
  replace V7 := hid (V7.out.up hb)
  replace V8 := hid (V8.out.up hb)
  replace Q1 := hid (Q1.out.up hb)
  replace Q2 := hid (Q2.out.up hb)
  clear hb
  refine WE.pure (d := some 44) rfl rfl (by rfl) (v := (.bool true)) (fun w' hk => ?_) ?_
  · go_simp
  simp only [Act.put, List.setIfInBounds_toArray, List.set_cons_zero, List.set_cons_succ]
  refine WE.pure (d := some 45) rfl rfl (by rfl) (v := (.bool false)) (fun w' hk => ?_) ?_
  · go_simp
  simp only [Act.put, List.setIfInBounds_toArray, List.set_cons_zero, List.set_cons_succ]
  refine WE.pure (d := some 46) rfl rfl (by rfl) (v := (.bool false)) (fun w' hk => ?_) ?_
  · go_simp
  simp only [Act.put, List.setIfInBounds_toArray, List.set_cons_zero, List.set_cons_succ]
  refine WE.pure (d := some 47) rfl rfl (by rfl) (v := (.bool true)) (fun w' hk => ?_) ?_
  · go_simp
  simp only [Act.put, List.setIfInBounds_toArray, List.set_cons_zero, List.set_cons_succ]
  refine WE.pure (d := some 48) rfl rfl (by rfl) (v := (.bool false)) (fun w' hk => ?_) ?_
  · go_simp
  simp only [Act.put, List.setIfInBounds_toArray, List.set_cons_zero, List.set_cons_succ]
  refine WE.pure (d := some 49) rfl rfl (by rfl) (v := (.bool false)) (fun w' hk => ?_) ?_
  · go_simp
  simp only [Act.put, List.setIfInBounds_toArray, List.set_cons_zero, List.set_cons_succ]
  refine WE.pure (d := some 50) rfl rfl (by rfl) (v := (.bool false)) (fun w' hk => ?_) ?_
  · go_simp
  simp only [Act.put, List.setIfInBounds_toArray, List.set_cons_zero, List.set_cons_succ]
  refine WE.pure (d := some 51) rfl rfl (by rfl) (v := (.int .i64 p)) (fun w' hk => ?_) ?_
  · go_simp
  simp only [Act.put, List.setIfInBounds_toArray, List.set_cons_zero, List.set_cons_succ]
  refine WE.pure (d := some 52) rfl rfl (by rfl) (v := (.int .i64 a)) (fun w' hk => ?_) ?_
  · go_simp
  simp only [Act.put, List.setIfInBounds_toArray, List.set_cons_zero, List.set_cons_succ]
  refine WE.pure (d := some 53) rfl rfl (by rfl) (v := (.int .i64 b)) (fun w' hk => ?_) ?_
  · go_simp
  simp only [Act.put, List.setIfInBounds_toArray, List.set_cons_zero, List.set_cons_succ]
  refine WE.pure (d := some 54) rfl rfl (by rfl) (v := (.int .i64 p)) (fun w' hk => ?_) ?_
  · have q0 : a * b = p := HP.out; have q1 : IntKind.i64.wrap p = p := HWP.out; go_simp
  simp only [Act.put, List.setIfInBounds_toArray, List.set_cons_zero, List.set_cons_succ]
  refine WE.pure (d := some 55) rfl rfl (by rfl) (v := (.bool false)) (fun w' hk => ?_) ?_
  · go_simp
  simp only [Act.put, List.setIfInBounds_toArray, List.set_cons_zero, List.set_cons_succ]
  refine WE.pure (d := some 56) rfl rfl (by rfl) (v := (.bool false)) (fun w' hk => ?_) ?_
  · go_simp
  simp only [Act.put, List.setIfInBounds_toArray, List.set_cons_zero, List.set_cons_succ]
  refine WE.pure (d := some 57) rfl rfl (by rfl) (v := (.bool false)) (fun w' hk => ?_) ?_
  · go_simp
  simp only [Act.put, List.setIfInBounds_toArray, List.set_cons_zero, List.set_cons_succ]
  refine WE.pure (d := some 58) rfl rfl (by rfl) (v := (.int .i64 d)) (fun w' hk => ?_) ?_
  · go_simp
  simp only [Act.put, List.setIfInBounds_toArray, List.set_cons_zero, List.set_cons_succ]
  refine WE.pure (d := some 59) rfl rfl (by rfl) (v := (.int .i64 a)) (fun w' hk => ?_) ?_
  · go_simp
  simp only [Act.put, List.setIfInBounds_toArray, List.set_cons_zero, List.set_cons_succ]
  refine WE.pure (d := some 60) rfl rfl (by rfl) (v := (.int .i64 b)) (fun w' hk => ?_) ?_
  · go_simp
  simp only [Act.put, List.setIfInBounds_toArray, List.set_cons_zero, List.set_cons_succ]
  refine WE.pure (d := some 61) rfl rfl (by rfl) (v := (.int .i64 d)) (fun w' hk => ?_) ?_
  · have q0 : a - b = d := HDD.out; have q1 : IntKind.i64.wrap d = d := HWD.out; go_simp
  simp only [Act.put, List.setIfInBounds_toArray, List.set_cons_zero, List.set_cons_succ]
  refine WE.pure (d := some 62) rfl rfl (by rfl) (v := (.bool false)) (fun w' hk => ?_) ?_
  · go_simp
  simp only [Act.put, List.setIfInBounds_toArray, List.set_cons_zero, List.set_cons_succ]
  refine WE.pure (d := some 63) rfl rfl (by rfl) (v := (.bool false)) (fun w' hk => ?_) ?_
  · go_simp
  simp only [Act.put, List.setIfInBounds_toArray, List.set_cons_zero, List.set_cons_succ]
  refine WE.pure (d := some 64) rfl rfl (by rfl) (v := (.bool false)) (fun w' hk => ?_) ?_
  · go_simp
  simp only [Act.put, List.setIfInBounds_toArray, List.set_cons_zero, List.set_cons_succ]
  refine WE.pure (d := some 65) rfl rfl (by rfl) (v := (.agg #[.bool g1, .slice A1 n1 c1])) (fun w' hk => ?_) ?_
  · have c0 := hk.cell (V7.out.cell (o := 0) (v := .bool g1) rfl); have c1 := hk.cell (V7.out.cell (o := 1) (v := .slice A1 n1 c1) rfl); go_simp
  simp only [Act.put, List.setIfInBounds_toArray, List.set_cons_zero, List.set_cons_succ]
  refine WE.pure (d := some 66) rfl rfl (by rfl) (v := (.agg #[.bool g2, .slice A2 n2 c2])) (fun w' hk => ?_) ?_
  · have c0 := hk.cell (V8.out.cell (o := 0) (v := .bool g2) rfl); have c1 := hk.cell (V8.out.cell (o := 1) (v := .slice A2 n2 c2) rfl); go_simp
  simp only [Act.put, List.setIfInBounds_toArray, List.set_cons_zero, List.set_cons_succ]
  refine WE.call (d := some 67) rfl rfl (by rfl) (f := 26) (args := #[(.agg #[.bool g1, .slice A1 n1 c1]), (.agg #[.bool g2, .slice A2 n2 c2])]) (by go_simp) ?_
  refine (cmp_w Q1.out.worth Q2.out.worth (z := cz) (HCZ.out)).mono ?_
  rintro e wn ⟨rfl, hb⟩
  refine ⟨_, rfl, hb, ?_⟩
  replace E := hid (E.out.trans hb)
  replace V7 := hid (V7.out.up hb)
  replace V8 := hid (V8.out.up hb)
  replace Q1 := hid (Q1.out.up hb)
  replace Q2 := hid (Q2.out.up hb)
  clear hb
  simp only [Act.put, List.setIfInBounds_toArray, List.set_cons_zero, List.set_cons_succ]
  refine WE.pure (d := some 68) rfl rfl (by rfl) (v := (.int .i64 a)) (fun w' hk => ?_) ?_
  · go_simp
  simp only [Act.put, List.setIfInBounds_toArray, List.set_cons_zero, List.set_cons_succ]
  refine WE.pure (d := some 69) rfl rfl (by rfl) (v := (.int .i64 b)) (fun w' hk => ?_) ?_
  · go_simp
  simp only [Act.put, List.setIfInBounds_toArray, List.set_cons_zero, List.set_cons_succ]
  refine WE.pure (d := some 70) rfl rfl (by rfl) (v := (.int .i64 d)) (fun w' hk => ?_) ?_
  · have q0 : a - b = d := HDD.out; have q1 : IntKind.i64.wrap d = d := HWD.out; go_simp
  simp only [Act.put, List.setIfInBounds_toArray, List.set_cons_zero, List.set_cons_succ]
  refine WE.call (d := some 71) rfl rfl (by rfl) (f := 40) (args := #[(.int .i64 d)]) (by go_simp) ?_
  refine (sign2 _ (HCS.out)).mono ?_
  rintro e wq ⟨rfl, rfl⟩
  refine ⟨_, rfl, Ext.refl _, ?_⟩
  simp only [Act.put, List.setIfInBounds_toArray, List.set_cons_zero, List.set_cons_succ]
  refine WE.pure (d := some 72) rfl rfl (by rfl) (v := (.bool false)) (fun w' hk => ?_) ?_
  · go_simp
  simp only [Act.put, List.setIfInBounds_toArray, List.set_cons_zero, List.set_cons_succ]
  refine WE.pure (d := some 73) rfl rfl (by rfl) (v := (.bool false)) (fun w' hk => ?_) ?_
  · go_simp
  simp only [Act.put, List.setIfInBounds_toArray, List.set_cons_zero, List.set_cons_succ]
  refine WE.done ?_
  go_upto_region 9 with (fail)
  refine wp_region_T [(0, 0), (1, 0)] (by kernel_rfl) fun wd hb => ?_
  replace E := hid (E.out.trans hb)
  replace V7 := hid (V7.out.up hb)
  replace V8 := hid (V8.out.up hb)
  replace Q1 := hid (Q1.out.up hb)
  replace Q2 := hid (Q2.out.up hb)
  clear hb
  refine WE.pure (d := some 74) rfl rfl (by rfl) (v := (.int .i64 b)) (fun w' hk => ?_) ?_
  · go_simp
  simp only [Act.put, List.setIfInBounds_toArray, List.set_cons_zero, List.set_cons_succ]
  refine WE.pure (d := some 75) rfl rfl (by rfl) (v := (.bool true)) (fun w' hk => ?_) ?_
  · go_simp
  simp only [Act.put, List.setIfInBounds_toArray, List.set_cons_zero, List.set_cons_succ]
  refine WE.done ?_
  go_wp2
  go_ret
  exact ⟨rfl, E.out⟩

set_option maxRecDepth 100000 in
set_option maxHeartbeats 4000000 in
theorem wholeSmall_n (W : World) (a b : Int) (ha1 : -2147483648 ≤ a) (ha2 : a ≤ 2147483647) (hb1 : -2147483648 ≤ b) (hb2 : b ≤ 2147483647) (hz : b ≠ 0) :
    Calls Try.prog 6 #[.int .i32 a, .int .i32 b] W (fun e w' => e = .returned (.bool true) ∧ Ext W w') := by
  obtain ⟨p, hp⟩ : ∃ s : Int, a * b = s := ⟨_, rfl⟩
  have hpb := M.few_mul ha1 ha2 hb1 hb2
  rw [hp] at hpb
  obtain ⟨d, hd⟩ : ∃ s : Int, a - b = s := ⟨_, rfl⟩
  obtain ⟨cz, hcz⟩ : ∃ s : Int, M.zcmp a b = s := ⟨_, rfl⟩
  have HP := hid hp
  have HDD := hid hd
  have HCZ := hid hcz
  have HCS := hid (show d.sign = cz by rw [← hcz, ← hd]; rfl)
  have HWA := hid (show IntKind.i64.wrap a = a by rw [IntKind.wrap_i64]; omega)
  have HWB := hid (show IntKind.i64.wrap b = b by rw [IntKind.wrap_i64]; omega)
  have HWP := hid (show IntKind.i64.wrap p = p by rw [IntKind.wrap_i64]; omega)
  have HWD := hid (show IntKind.i64.wrap d = d by rw [IntKind.wrap_i64]; omega)
  have HFP := hid (show M.fits p by unfold M.fits; omega)
  have HFD := hid (show M.fits d by unfold M.fits; omega)
  clear hp hd hcz hpb
  have hqb := M.few_quo ha1 ha2 hb1 hb2 hz
  have hmd := M.few_mod a hz
  have hdv := M.few_div a hz
  obtain ⟨e, he⟩ : ∃ s : Int, a / b = s := ⟨_, rfl⟩
  obtain ⟨m, hm⟩ : ∃ s : Int, a % b = s := ⟨_, rfl⟩
  obtain ⟨t, ht⟩ : ∃ s : Int, a.tmod b = s := ⟨_, rfl⟩
  obtain ⟨nb, hnb⟩ : ∃ s : Int, -b = s := ⟨_, rfl⟩
  rw [hm, ht] at hmd
  rw [he, hm] at hqb hdv
  obtain ⟨mb, hmb⟩ : ∃ s : Int, max b nb = s := ⟨_, rfl⟩
  have hmb2 : mb = (b.natAbs : Int) := by omega
  rw [← hmb2] at hmd
  obtain ⟨s, hs⟩ : ∃ s : Int, t + mb = s := ⟨_, rfl⟩
  obtain ⟨u, hu⟩ : ∃ s : Int, a - m = s := ⟨_, rfl⟩
  rw [hs] at hmd
  rw [hu] at hdv
  have HEE := hid (show a / b = e by exact he)
  have HMM := hid (show a % b = m by exact hm)
  have HTT := hid (show a.tmod b = t by exact ht)
  have HNB := hid (show -b = nb by exact hnb)
  have HMB := hid (show max b nb = mb by exact hmb)
  have HSS := hid (show t + mb = s by exact hs)
  have HUU := hid (show a - m = u by exact hu)
  have HSM := hid (show s.tmod mb = m by exact hmd.1)
  have HUE := hid (show u.tdiv b = e by exact hdv)
  have HMB0 := hid (show (mb == 0) = false by simp; omega)
  have HMB1 := hid (show ¬ mb = 0 by omega)
  have HWN := hid (show IntKind.i64.wrap nb = nb by rw [IntKind.wrap_i64]; omega)
  have HWT := hid (show IntKind.i64.wrap t = t by rw [IntKind.wrap_i64]; omega)
  have HWS := hid (show IntKind.i64.wrap s = s by rw [IntKind.wrap_i64]; omega)
  have HWM := hid (show IntKind.i64.wrap m = m by rw [IntKind.wrap_i64]; omega)
  have HWU := hid (show IntKind.i64.wrap u = u by rw [IntKind.wrap_i64]; omega)
  have HWE := hid (show IntKind.i64.wrap e = e by rw [IntKind.wrap_i64]; omega)
  have HFE := hid (show M.fits e by unfold M.fits; omega)
  have HFM := hid (show M.fits m by unfold M.fits; omega)
  have hb0 : (b == 0) = false := by simpa using hz
  clear hqb hmd hdv he hm ht hnb hmb hmb2 hs hu
  go_enter Try.func6, Try.ntmps6
  go_upto_region 1 with (fail)
  have E := hid (Ext.refl W)
  go_upto_region 1 with (fail)
  refine wp_region_T [(0, 1), (1, 0)] (by kernel_rfl) fun wd hb => ?_
  replace E := hid (E.out.trans hb)
  clear hb
  refine WE.call (d := some 20) rfl rfl (by rfl) (f := 11) (args := #[]) (by go_simp) ?_
  refine (known2 _).mono ?_
  rintro e wn ⟨rfl, hb⟩
  refine ⟨_, rfl, hb, ?_⟩
  replace E := hid (E.out.trans hb)
  clear hb
  simp only [Act.put, List.setIfInBounds_toArray, List.set_cons_zero, List.set_cons_succ]
  refine WE.pure (d := some 21) rfl rfl (by rfl) (v := (.bool false)) (fun w' hk => ?_) ?_
  · go_simp
  simp only [Act.put, List.setIfInBounds_toArray, List.set_cons_zero, List.set_cons_succ]
  refine WE.done ?_
  go_upto_region 3 with (fail)
  refine wp_region_T [(0, 0), (1, 0), (2, 0), (3, 0), (4, 0), (5, 0)] (by kernel_rfl) fun wd hb => ?_
  replace E := hid (E.out.trans hb)
  clear hb
  refine WE.pure (d := some 22) rfl rfl (by rfl) (v := (.int .i32 a)) (fun w' hk => ?_) ?_
  · go_simp
  simp only [Act.put, List.setIfInBounds_toArray, List.set_cons_zero, List.set_cons_succ]
  refine WE.pure (d := some 23) rfl rfl (by rfl) (v := (.int .i64 a)) (fun w' hk => ?_) ?_
  · have q0 : IntKind.i64.wrap a = a := HWA.out; go_simp
  simp only [Act.put, List.setIfInBounds_toArray, List.set_cons_zero, List.set_cons_succ]
  refine WE.pure (d := some 24) rfl rfl (by rfl) (v := (.int .i32 b)) (fun w' hk => ?_) ?_
  · go_simp
  simp only [Act.put, List.setIfInBounds_toArray, List.set_cons_zero, List.set_cons_succ]
  refine WE.pure (d := some 25) rfl rfl (by rfl) (v := (.int .i64 b)) (fun w' hk => ?_) ?_
  · have q0 : IntKind.i64.wrap b = b := HWB.out; go_simp
  simp only [Act.put, List.setIfInBounds_toArray, List.set_cons_zero, List.set_cons_succ]
  refine WE.pure (d := some 5) rfl rfl (by rfl) (v := (.int .i64 a)) (fun w' hk => ?_) ?_
  · go_simp
  simp only [Act.put, List.setIfInBounds_toArray, List.set_cons_zero, List.set_cons_succ]
  refine WE.pure (d := some 6) rfl rfl (by rfl) (v := (.int .i64 b)) (fun w' hk => ?_) ?_
  · go_simp
  simp only [Act.put, List.setIfInBounds_toArray, List.set_cons_zero, List.set_cons_succ]
  refine WE.done ?_
  go_upto_region 4 with (fail)
  refine wp_region_T [(0, 0), (1, 1), (2, 0), (3, 1), (4, 1), (5, 1), (6, 4), (7, 4)] (by kernel_rfl) fun wd hb => ?_
  replace E := hid (E.out.trans hb)
  clear hb
  refine WE.pure (d := some 26) rfl rfl (by rfl) (v := (.int .i64 a)) (fun w' hk => ?_) ?_
  · go_simp
  simp only [Act.put, List.setIfInBounds_toArray, List.set_cons_zero, List.set_cons_succ]
  refine WE.call (d := some 27) rfl rfl (by rfl) (f := 22) (args := #[(.int .i64 a)]) (by go_simp) ?_
  refine (of_z (n := a) (by omega) (by omega) _).mono ?_
  rintro e wn ⟨v1, rfl, x1, hb⟩
  obtain ⟨g1, A1, n1, c1, rfl⟩ := x1.shape
  refine ⟨_, rfl, hb, ?_⟩
  replace E := hid (E.out.trans hb)
  have Q1 := hid x1
  clear hb x1
  simp only [Act.put, List.setIfInBounds_toArray, List.set_cons_zero, List.set_cons_succ]
  refine WE.pure (d := some 28) rfl rfl (by rfl) (v := (.int .i64 b)) (fun w' hk => ?_) ?_
  · go_simp
  simp only [Act.put, List.setIfInBounds_toArray, List.set_cons_zero, List.set_cons_succ]
  refine WE.call (d := some 29) rfl rfl (by rfl) (f := 22) (args := #[(.int .i64 b)]) (by go_simp) ?_
  refine (of_z (n := b) (by omega) (by omega) _).mono ?_
  rintro e wn ⟨v1, rfl, x1, hb⟩
  obtain ⟨g2, A2, n2, c2, rfl⟩ := x1.shape
  refine ⟨_, rfl, hb, ?_⟩
  replace E := hid (E.out.trans hb)
  replace Q1 := hid (Q1.out.up hb)
  have Q2 := hid x1
  clear hb x1
  simp only [Act.put, List.setIfInBounds_toArray, List.set_cons_zero, List.set_cons_succ]
  refine WE.new (d := some 7) (cs := #[.bool false, .slice none 0 0]) (t := 24) (v := fun g => (.pointer (some ⟨g, 0, none⟩))) rfl rfl (by rfl) (fun w => by go_simp) fun gV7 wv hx0 hbox hge => ?_
  have HGV7 := hid (show W.heap.size ≤ gV7 by have := E.out.size; omega)
  replace E := hid (E.out.trans hx0)
  replace Q1 := hid (Q1.out.up hx0)
  replace Q2 := hid (Q2.out.up hx0)
  have V7 : Hid (Box wv gV7 #[.bool false, .slice none 0 0] 24) := hid hbox
  clear hx0 hbox hge
  simp only [Act.put, List.setIfInBounds_toArray, List.set_cons_zero, List.set_cons_succ]
  refine WE.new (d := some 8) (cs := #[.bool false, .slice none 0 0]) (t := 24) (v := fun g => (.pointer (some ⟨g, 0, none⟩))) rfl rfl (by rfl) (fun w => by go_simp) fun gV8 wv hx0 hbox hge => ?_
  have HNV8V7 := hid (show gV8 ≠ gV7 by have := V7.out.lt; omega)
  have HGV8 := hid (show W.heap.size ≤ gV8 by have := E.out.size; omega)
  replace E := hid (E.out.trans hx0)
  replace V7 := hid (V7.out.up hx0)
  replace Q1 := hid (Q1.out.up hx0)
  replace Q2 := hid (Q2.out.up hx0)
  have V8 : Hid (Box wv gV8 #[.bool false, .slice none 0 0] 24) := hid hbox
  clear hx0 hbox hge
  simp only [Act.put, List.setIfInBounds_toArray, List.set_cons_zero, List.set_cons_succ]
  refine WE.store2 (g := gV7) (x := .bool g1) (y := .slice A1 n1 c1) (t := 24) rfl rfl (by rfl) (fun w hb => ?_) V7.out (by rfl) fun ws hk hs => ?_
  · have c0 := hb.cell (o := 0) (v := .bool false) rfl; have f0 := hb.free 0; have c1 := hb.cell (o := 1) (v := .slice none 0 0) rfl; have f1 := hb.free 1; go_simp
  intro hbx
  replace E := hid (E.out.keptG hk HGV7.out)
  replace V7 := hid hbx
  replace V8 := hid (V8.out.kept hk (by simpa using HNV8V7.out))
  replace Q1 := hid (Q1.out.kz hs)
  replace Q2 := hid (Q2.out.kz hs)
  clear hk hs hbx
  refine WE.store2 (g := gV8) (x := .bool g2) (y := .slice A2 n2 c2) (t := 24) rfl rfl (by rfl) (fun w hb => ?_) V8.out (by rfl) fun ws hk hs => ?_
  · have c0 := hb.cell (o := 0) (v := .bool false) rfl; have f0 := hb.free 0; have c1 := hb.cell (o := 1) (v := .slice none 0 0) rfl; have f1 := hb.free 1; go_simp
  intro hbx
  replace E := hid (E.out.keptG hk HGV8.out)
  replace V7 := hid (V7.out.kept hk (by simpa using HNV8V7.out.symm))
  replace V8 := hid hbx
  replace Q1 := hid (Q1.out.kz hs)
  replace Q2 := hid (Q2.out.kz hs)
  clear hk hs hbx
  refine WE.done ?_
  go_upto_region 5 with (fail)
  refine wp_region_T [(0, 0), (1, 0), (2, 1), (3, 1), (4, 0), (5, 0), (6, 0), (7, 0), (8, 0)] (by kernel_rfl) fun wd hb => ?_
  replace E := hid (E.out.trans hb)
  replace V7 := hid (V7.out.up hb)
  replace V8 := hid (V8.out.up hb)
  replace Q1 := hid (Q1.out.up hb)
  replace Q2 := hid (Q2.out.up hb)
  clear hb
  refine WE.pure (d := some 31) rfl rfl (by rfl) (v := (.agg #[.bool g1, .slice A1 n1 c1])) (fun w' hk => ?_) ?_
  · have c0 := hk.cell (V7.out.cell (o := 0) (v := .bool g1) rfl); have c1 := hk.cell (V7.out.cell (o := 1) (v := .slice A1 n1 c1) rfl); go_simp
  simp only [Act.put, List.setIfInBounds_toArray, List.set_cons_zero, List.set_cons_succ]
  refine WE.pure (d := some 32) rfl rfl (by rfl) (v := (.agg #[.bool g2, .slice A2 n2 c2])) (fun w' hk => ?_) ?_
  · have c0 := hk.cell (V8.out.cell (o := 0) (v := .bool g2) rfl); have c1 := hk.cell (V8.out.cell (o := 1) (v := .slice A2 n2 c2) rfl); go_simp
  simp only [Act.put, List.setIfInBounds_toArray, List.set_cons_zero, List.set_cons_succ]
  refine WE.call (d := some 33) rfl rfl (by rfl) (f := 38) (args := #[(.agg #[.bool g1, .slice A1 n1 c1]), (.agg #[.bool g2, .slice A2 n2 c2])]) (by go_simp) ?_
  refine (mul_w Q1.out.worth Q2.out.worth (by omega) (by omega) (by omega)).mono ?_
  rintro e wn ⟨v1, rfl, x1, hb⟩
  obtain ⟨g3, A3, n3, c3, rfl⟩ := x1.shape
  refine ⟨_, rfl, hb, ?_⟩
  replace E := hid (E.out.trans hb)
  replace V7 := hid (V7.out.up hb)
  replace V8 := hid (V8.out.up hb)
  replace Q1 := hid (Q1.out.up hb)
  replace Q2 := hid (Q2.out.up hb)
  have Q3 := hid x1
  clear hb x1
  simp only [Act.put, List.setIfInBounds_toArray, List.set_cons_zero, List.set_cons_succ]
  refine WE.call (d := some 34) rfl rfl (by rfl) (f := 17) (args := #[(.agg #[.bool g3, .slice A3 n3 c3])]) (by go_simp) ?_
  refine (small_as Q3.out.worth (HP.out) (Y := p) (HFP.out)).mono ?_
  rintro e wn ⟨rfl, hb⟩
  refine ⟨_, rfl, hb, ?_⟩
  replace E := hid (E.out.trans hb)
  replace V7 := hid (V7.out.up hb)
  replace V8 := hid (V8.out.up hb)
  replace Q1 := hid (Q1.out.up hb)
  replace Q2 := hid (Q2.out.up hb)
  replace Q3 := hid (Q3.out.up hb)
  clear hb
  simp only [Act.put, List.setIfInBounds_toArray, List.set_cons_zero, List.set_cons_succ]
  clear Q3
  refine WE.pure (d := some 30) rfl rfl (by rfl) (v := (.tuple #[(.int .i64 p), (.bool true)])) (fun w' hk => ?_) ?_
  · go_simp
  simp only [Act.put, List.setIfInBounds_toArray, List.set_cons_zero, List.set_cons_succ]
  refine WE.pure (d := some 35) rfl rfl (by rfl) (v := (.int .i64 p)) (fun w' hk => ?_) ?_
  · go_simp
  simp only [Act.put, List.setIfInBounds_toArray, List.set_cons_zero, List.set_cons_succ]
  refine WE.pure (d := some 36) rfl rfl (by rfl) (v := (.bool true)) (fun w' hk => ?_) ?_
  · go_simp
  simp only [Act.put, List.setIfInBounds_toArray, List.set_cons_zero, List.set_cons_succ]
  refine WE.pure (d := some 9) rfl rfl (by rfl) (v := (.int .i64 p)) (fun w' hk => ?_) ?_
  · go_simp
  simp only [Act.put, List.setIfInBounds_toArray, List.set_cons_zero, List.set_cons_succ]
  refine WE.pure (d := some 10) rfl rfl (by rfl) (v := (.bool true)) (fun w' hk => ?_) ?_
  · go_simp
  simp only [Act.put, List.setIfInBounds_toArray, List.set_cons_zero, List.set_cons_succ]
  refine WE.done ?_
  go_upto_region 6 with (fail)
  refine wp_region_T [(0, 0), (1, 0), (2, 1), (3, 1), (4, 0), (5, 0), (6, 0), (7, 0), (8, 0)] (by kernel_rfl) fun wd hb => ?_
  replace E := hid (E.out.trans hb)
  replace V7 := hid (V7.out.up hb)
  replace V8 := hid (V8.out.up hb)
  replace Q1 := hid (Q1.out.up hb)
  replace Q2 := hid (Q2.out.up hb)
  clear hb
  refine WE.pure (d := some 38) rfl rfl (by rfl) (v := (.agg #[.bool g1, .slice A1 n1 c1])) (fun w' hk => ?_) ?_
  · have c0 := hk.cell (V7.out.cell (o := 0) (v := .bool g1) rfl); have c1 := hk.cell (V7.out.cell (o := 1) (v := .slice A1 n1 c1) rfl); go_simp
  simp only [Act.put, List.setIfInBounds_toArray, List.set_cons_zero, List.set_cons_succ]
  refine WE.pure (d := some 39) rfl rfl (by rfl) (v := (.agg #[.bool g2, .slice A2 n2 c2])) (fun w' hk => ?_) ?_
  · have c0 := hk.cell (V8.out.cell (o := 0) (v := .bool g2) rfl); have c1 := hk.cell (V8.out.cell (o := 1) (v := .slice A2 n2 c2) rfl); go_simp
  simp only [Act.put, List.setIfInBounds_toArray, List.set_cons_zero, List.set_cons_succ]
  refine WE.call (d := some 40) rfl rfl (by rfl) (f := 36) (args := #[(.agg #[.bool g1, .slice A1 n1 c1]), (.agg #[.bool g2, .slice A2 n2 c2])]) (by go_simp) ?_
  refine (sub_w Q1.out.worth Q2.out.worth (by omega) (by omega)).mono ?_
  rintro e wn ⟨v1, rfl, x1, hb⟩
  obtain ⟨g4, A4, n4, c4, rfl⟩ := x1.shape
  refine ⟨_, rfl, hb, ?_⟩
  replace E := hid (E.out.trans hb)
  replace V7 := hid (V7.out.up hb)
  replace V8 := hid (V8.out.up hb)
  replace Q1 := hid (Q1.out.up hb)
  replace Q2 := hid (Q2.out.up hb)
  have Q4 := hid x1
  clear hb x1
  simp only [Act.put, List.setIfInBounds_toArray, List.set_cons_zero, List.set_cons_succ]
  refine WE.call (d := some 41) rfl rfl (by rfl) (f := 17) (args := #[(.agg #[.bool g4, .slice A4 n4 c4])]) (by go_simp) ?_
  refine (small_as Q4.out.worth (HDD.out) (Y := d) (HFD.out)).mono ?_
  rintro e wn ⟨rfl, hb⟩
  refine ⟨_, rfl, hb, ?_⟩
  replace E := hid (E.out.trans hb)
  replace V7 := hid (V7.out.up hb)
  replace V8 := hid (V8.out.up hb)
  replace Q1 := hid (Q1.out.up hb)
  replace Q2 := hid (Q2.out.up hb)
  replace Q4 := hid (Q4.out.up hb)
  clear hb
  simp only [Act.put, List.setIfInBounds_toArray, List.set_cons_zero, List.set_cons_succ]
  clear Q4
  refine WE.pure (d := some 37) rfl rfl (by rfl) (v := (.tuple #[(.int .i64 d), (.bool true)])) (fun w' hk => ?_) ?_
  · go_simp
  simp only [Act.put, List.setIfInBounds_toArray, List.set_cons_zero, List.set_cons_succ]
  refine WE.pure (d := some 42) rfl rfl (by rfl) (v := (.int .i64 d)) (fun w' hk => ?_) ?_
  · go_simp
  simp only [Act.put, List.setIfInBounds_toArray, List.set_cons_zero, List.set_cons_succ]
  refine WE.pure (d := some 43) rfl rfl (by rfl) (v := (.bool true)) (fun w' hk => ?_) ?_
  · go_simp
  simp only [Act.put, List.setIfInBounds_toArray, List.set_cons_zero, List.set_cons_succ]
  refine WE.pure (d := some 11) rfl rfl (by rfl) (v := (.int .i64 d)) (fun w' hk => ?_) ?_
  · go_simp
  simp only [Act.put, List.setIfInBounds_toArray, List.set_cons_zero, List.set_cons_succ]
  refine WE.pure (d := some 12) rfl rfl (by rfl) (v := (.bool true)) (fun w' hk => ?_) ?_
  · go_simp
  simp only [Act.put, List.setIfInBounds_toArray, List.set_cons_zero, List.set_cons_succ]
  refine WE.done ?_
  go_upto_region 7 with (fail)
  refine wp_region_T [(0, 0), (1, 0), (2, 0), (3, 0), (4, 0), (5, 0), (6, 0), (7, 0), (8, 0), (9, 0), (10, 0), (11, 0), (12, 0), (13, 0), (14, 0), (15, 0), (16, 0), (17, 0), (18, 0), (19, 0), (20, 0), (21, 0), (22, 0), (23, 1), (24, 0), (25, 0), (26, 0), (27, 1), (28, 0), (29, 0)] (by kernel_rfl) fun wd hb => ?_
  replace E := hid (E.out.trans hb)
  replace V7 := hid (V7.out.up hb)
  replace V8 := hid (V8.out.up hb)
  replace Q1 := hid (Q1.out.up hb)
  replace Q2 := hid (Q2.out.up hb)
  clear hb
  refine WE.pure (d := some 44) rfl rfl (by rfl) (v := (.bool true)) (fun w' hk => ?_) ?_
  · go_simp
  simp only [Act.put, List.setIfInBounds_toArray, List.set_cons_zero, List.set_cons_succ]
  refine WE.pure (d := some 45) rfl rfl (by rfl) (v := (.bool false)) (fun w' hk => ?_) ?_
  · go_simp
  simp only [Act.put, List.setIfInBounds_toArray, List.set_cons_zero, List.set_cons_succ]
  refine WE.pure (d := some 46) rfl rfl (by rfl) (v := (.bool false)) (fun w' hk => ?_) ?_
  · go_simp
  simp only [Act.put, List.setIfInBounds_toArray, List.set_cons_zero, List.set_cons_succ]
  refine WE.pure (d := some 47) rfl rfl (by rfl) (v := (.bool true)) (fun w' hk => ?_) ?_
  · go_simp
  simp only [Act.put, List.setIfInBounds_toArray, List.set_cons_zero, List.set_cons_succ]
  refine WE.pure (d := some 48) rfl rfl (by rfl) (v := (.bool false)) (fun w' hk => ?_) ?_
  · go_simp
  simp only [Act.put, List.setIfInBounds_toArray, List.set_cons_zero, List.set_cons_succ]
  refine WE.pure (d := some 49) rfl rfl (by rfl) (v := (.bool false)) (fun w' hk => ?_) ?_
  · go_simp
  simp only [Act.put, List.setIfInBounds_toArray, List.set_cons_zero, List.set_cons_succ]
  refine WE.pure (d := some 50) rfl rfl (by rfl) (v := (.bool false)) (fun w' hk => ?_) ?_
  · go_simp
  simp only [Act.put, List.setIfInBounds_toArray, List.set_cons_zero, List.set_cons_succ]
  refine WE.pure (d := some 51) rfl rfl (by rfl) (v := (.int .i64 p)) (fun w' hk => ?_) ?_
  · go_simp
  simp only [Act.put, List.setIfInBounds_toArray, List.set_cons_zero, List.set_cons_succ]
  refine WE.pure (d := some 52) rfl rfl (by rfl) (v := (.int .i64 a)) (fun w' hk => ?_) ?_
  · go_simp
  simp only [Act.put, List.setIfInBounds_toArray, List.set_cons_zero, List.set_cons_succ]
  refine WE.pure (d := some 53) rfl rfl (by rfl) (v := (.int .i64 b)) (fun w' hk => ?_) ?_
  · go_simp
  simp only [Act.put, List.setIfInBounds_toArray, List.set_cons_zero, List.set_cons_succ]
  refine WE.pure (d := some 54) rfl rfl (by rfl) (v := (.int .i64 p)) (fun w' hk => ?_) ?_
  · have q0 : a * b = p := HP.out; have q1 : IntKind.i64.wrap p = p := HWP.out; go_simp
  simp only [Act.put, List.setIfInBounds_toArray, List.set_cons_zero, List.set_cons_succ]
  refine WE.pure (d := some 55) rfl rfl (by rfl) (v := (.bool false)) (fun w' hk => ?_) ?_
  · go_simp
  simp only [Act.put, List.setIfInBounds_toArray, List.set_cons_zero, List.set_cons_succ]
  refine WE.pure (d := some 56) rfl rfl (by rfl) (v := (.bool false)) (fun w' hk => ?_) ?_
  · go_simp
  simp only [Act.put, List.setIfInBounds_toArray, List.set_cons_zero, List.set_cons_succ]
  refine WE.pure (d := some 57) rfl rfl (by rfl) (v := (.bool false)) (fun w' hk => ?_) ?_
  · go_simp
  simp only [Act.put, List.setIfInBounds_toArray, List.set_cons_zero, List.set_cons_succ]
  refine WE.pure (d := some 58) rfl rfl (by rfl) (v := (.int .i64 d)) (fun w' hk => ?_) ?_
  · go_simp
  simp only [Act.put, List.setIfInBounds_toArray, List.set_cons_zero, List.set_cons_succ]
  refine WE.pure (d := some 59) rfl rfl (by rfl) (v := (.int .i64 a)) (fun w' hk => ?_) ?_
  · go_simp
  simp only [Act.put, List.setIfInBounds_toArray, List.set_cons_zero, List.set_cons_succ]
  refine WE.pure (d := some 60) rfl rfl (by rfl) (v := (.int .i64 b)) (fun w' hk => ?_) ?_
  · go_simp
  simp only [Act.put, List.setIfInBounds_toArray, List.set_cons_zero, List.set_cons_succ]
  refine WE.pure (d := some 61) rfl rfl (by rfl) (v := (.int .i64 d)) (fun w' hk => ?_) ?_
  · have q0 : a - b = d := HDD.out; have q1 : IntKind.i64.wrap d = d := HWD.out; go_simp
  simp only [Act.put, List.setIfInBounds_toArray, List.set_cons_zero, List.set_cons_succ]
  refine WE.pure (d := some 62) rfl rfl (by rfl) (v := (.bool false)) (fun w' hk => ?_) ?_
  · go_simp
  simp only [Act.put, List.setIfInBounds_toArray, List.set_cons_zero, List.set_cons_succ]
  refine WE.pure (d := some 63) rfl rfl (by rfl) (v := (.bool false)) (fun w' hk => ?_) ?_
  · go_simp
  simp only [Act.put, List.setIfInBounds_toArray, List.set_cons_zero, List.set_cons_succ]
  refine WE.pure (d := some 64) rfl rfl (by rfl) (v := (.bool false)) (fun w' hk => ?_) ?_
  · go_simp
  simp only [Act.put, List.setIfInBounds_toArray, List.set_cons_zero, List.set_cons_succ]
  refine WE.pure (d := some 65) rfl rfl (by rfl) (v := (.agg #[.bool g1, .slice A1 n1 c1])) (fun w' hk => ?_) ?_
  · have c0 := hk.cell (V7.out.cell (o := 0) (v := .bool g1) rfl); have c1 := hk.cell (V7.out.cell (o := 1) (v := .slice A1 n1 c1) rfl); go_simp
  simp only [Act.put, List.setIfInBounds_toArray, List.set_cons_zero, List.set_cons_succ]
  refine WE.pure (d := some 66) rfl rfl (by rfl) (v := (.agg #[.bool g2, .slice A2 n2 c2])) (fun w' hk => ?_) ?_
  · have c0 := hk.cell (V8.out.cell (o := 0) (v := .bool g2) rfl); have c1 := hk.cell (V8.out.cell (o := 1) (v := .slice A2 n2 c2) rfl); go_simp
  simp only [Act.put, List.setIfInBounds_toArray, List.set_cons_zero, List.set_cons_succ]
  refine WE.call (d := some 67) rfl rfl (by rfl) (f := 26) (args := #[(.agg #[.bool g1, .slice A1 n1 c1]), (.agg #[.bool g2, .slice A2 n2 c2])]) (by go_simp) ?_
  refine (cmp_w Q1.out.worth Q2.out.worth (z := cz) (HCZ.out)).mono ?_
  rintro e wn ⟨rfl, hb⟩
  refine ⟨_, rfl, hb, ?_⟩
  replace E := hid (E.out.trans hb)
  replace V7 := hid (V7.out.up hb)
  replace V8 := hid (V8.out.up hb)
  replace Q1 := hid (Q1.out.up hb)
  replace Q2 := hid (Q2.out.up hb)
  clear hb
  simp only [Act.put, List.setIfInBounds_toArray, List.set_cons_zero, List.set_cons_succ]
  refine WE.pure (d := some 68) rfl rfl (by rfl) (v := (.int .i64 a)) (fun w' hk => ?_) ?_
  · go_simp
  simp only [Act.put, List.setIfInBounds_toArray, List.set_cons_zero, List.set_cons_succ]
  refine WE.pure (d := some 69) rfl rfl (by rfl) (v := (.int .i64 b)) (fun w' hk => ?_) ?_
  · go_simp
  simp only [Act.put, List.setIfInBounds_toArray, List.set_cons_zero, List.set_cons_succ]
  refine WE.pure (d := some 70) rfl rfl (by rfl) (v := (.int .i64 d)) (fun w' hk => ?_) ?_
  · have q0 : a - b = d := HDD.out; have q1 : IntKind.i64.wrap d = d := HWD.out; go_simp
  simp only [Act.put, List.setIfInBounds_toArray, List.set_cons_zero, List.set_cons_succ]
  refine WE.call (d := some 71) rfl rfl (by rfl) (f := 40) (args := #[(.int .i64 d)]) (by go_simp) ?_
  refine (sign2 _ (HCS.out)).mono ?_
  rintro e wq ⟨rfl, rfl⟩
  refine ⟨_, rfl, Ext.refl _, ?_⟩
  simp only [Act.put, List.setIfInBounds_toArray, List.set_cons_zero, List.set_cons_succ]
  refine WE.pure (d := some 72) rfl rfl (by rfl) (v := (.bool false)) (fun w' hk => ?_) ?_
  · go_simp
  simp only [Act.put, List.setIfInBounds_toArray, List.set_cons_zero, List.set_cons_succ]
  refine WE.pure (d := some 73) rfl rfl (by rfl) (v := (.bool false)) (fun w' hk => ?_) ?_
  · go_simp
  simp only [Act.put, List.setIfInBounds_toArray, List.set_cons_zero, List.set_cons_succ]
  refine WE.done ?_
  go_upto_region 9 with (fail)
  refine wp_region_T [(0, 0), (1, 0)] (by kernel_rfl) fun wd hb => ?_
  replace E := hid (E.out.trans hb)
  replace V7 := hid (V7.out.up hb)
  replace V8 := hid (V8.out.up hb)
  replace Q1 := hid (Q1.out.up hb)
  replace Q2 := hid (Q2.out.up hb)
  clear hb
  refine WE.pure (d := some 74) rfl rfl (by rfl) (v := (.int .i64 b)) (fun w' hk => ?_) ?_
  · go_simp
  simp only [Act.put, List.setIfInBounds_toArray, List.set_cons_zero, List.set_cons_succ]
  refine WE.pure (d := some 75) rfl rfl (by rfl) (v := (.bool false)) (fun w' hk => ?_) ?_
  · go_simp
  simp only [Act.put, List.setIfInBounds_toArray, List.set_cons_zero, List.set_cons_succ]
  refine WE.done ?_
  go_upto_region 11 with (fail)
  refine wp_region_T [(0, 0), (1, 0), (2, 1), (3, 0), (4, 0), (5, 0), (6, 1), (7, 1), (8, 4), (9, 4)] (by kernel_rfl) fun wd hb => ?_
  replace E := hid (E.out.trans hb)
  replace V7 := hid (V7.out.up hb)
  replace V8 := hid (V8.out.up hb)
  replace Q1 := hid (Q1.out.up hb)
  replace Q2 := hid (Q2.out.up hb)
  clear hb
  refine WE.pure (d := some 77) rfl rfl (by rfl) (v := (.agg #[.bool g1, .slice A1 n1 c1])) (fun w' hk => ?_) ?_
  · have c0 := hk.cell (V7.out.cell (o := 0) (v := .bool g1) rfl); have c1 := hk.cell (V7.out.cell (o := 1) (v := .slice A1 n1 c1) rfl); go_simp
  simp only [Act.put, List.setIfInBounds_toArray, List.set_cons_zero, List.set_cons_succ]
  refine WE.pure (d := some 78) rfl rfl (by rfl) (v := (.agg #[.bool g2, .slice A2 n2 c2])) (fun w' hk => ?_) ?_
  · have c0 := hk.cell (V8.out.cell (o := 0) (v := .bool g2) rfl); have c1 := hk.cell (V8.out.cell (o := 1) (v := .slice A2 n2 c2) rfl); go_simp
  simp only [Act.put, List.setIfInBounds_toArray, List.set_cons_zero, List.set_cons_succ]
  refine WE.call (d := some 79) rfl rfl (by rfl) (f := 15) (args := #[(.agg #[.bool g1, .slice A1 n1 c1]), (.agg #[.bool g2, .slice A2 n2 c2])]) (by go_simp) ?_
  refine (euclid_w Q1.out.worth Q2.out.worth (by omega) (by omega)).mono ?_
  rintro e wn ⟨v1, v2, rfl, x1, x2, hb⟩
  obtain ⟨g5, A5, n5, c5, rfl⟩ := x1.shape
  obtain ⟨g6, A6, n6, c6, rfl⟩ := x2.shape
  refine ⟨_, rfl, hb, ?_⟩
  replace E := hid (E.out.trans hb)
  replace V7 := hid (V7.out.up hb)
  replace V8 := hid (V8.out.up hb)
  replace Q1 := hid (Q1.out.up hb)
  replace Q2 := hid (Q2.out.up hb)
  have Q5 := hid x1
  have Q6 := hid x2
  clear hb x1 x2
  simp only [Act.put, List.setIfInBounds_toArray, List.set_cons_zero, List.set_cons_succ]
  refine WE.pure (d := some 76) rfl rfl (by rfl) (v := (.tuple #[(.agg #[.bool g5, .slice A5 n5 c5]), (.agg #[.bool g6, .slice A6 n6 c6])])) (fun w' hk => ?_) ?_
  · go_simp
  simp only [Act.put, List.setIfInBounds_toArray, List.set_cons_zero, List.set_cons_succ]
  refine WE.pure (d := some 80) rfl rfl (by rfl) (v := (.agg #[.bool g5, .slice A5 n5 c5])) (fun w' hk => ?_) ?_
  · go_simp
  simp only [Act.put, List.setIfInBounds_toArray, List.set_cons_zero, List.set_cons_succ]
  refine WE.pure (d := some 81) rfl rfl (by rfl) (v := (.agg #[.bool g6, .slice A6 n6 c6])) (fun w' hk => ?_) ?_
  · go_simp
  simp only [Act.put, List.setIfInBounds_toArray, List.set_cons_zero, List.set_cons_succ]
  refine WE.new (d := some 13) (cs := #[.bool false, .slice none 0 0]) (t := 24) (v := fun g => (.pointer (some ⟨g, 0, none⟩))) rfl rfl (by rfl) (fun w => by go_simp) fun gV13 wv hx0 hbox hge => ?_
  have HNV13V7 := hid (show gV13 ≠ gV7 by have := V7.out.lt; omega)
  have HNV13V8 := hid (show gV13 ≠ gV8 by have := V8.out.lt; omega)
  have HGV13 := hid (show W.heap.size ≤ gV13 by have := E.out.size; omega)
  replace E := hid (E.out.trans hx0)
  replace V7 := hid (V7.out.up hx0)
  replace V8 := hid (V8.out.up hx0)
  replace Q1 := hid (Q1.out.up hx0)
  replace Q2 := hid (Q2.out.up hx0)
  replace Q5 := hid (Q5.out.up hx0)
  replace Q6 := hid (Q6.out.up hx0)
  have V13 : Hid (Box wv gV13 #[.bool false, .slice none 0 0] 24) := hid hbox
  clear hx0 hbox hge
  simp only [Act.put, List.setIfInBounds_toArray, List.set_cons_zero, List.set_cons_succ]
  refine WE.new (d := some 14) (cs := #[.bool false, .slice none 0 0]) (t := 24) (v := fun g => (.pointer (some ⟨g, 0, none⟩))) rfl rfl (by rfl) (fun w => by go_simp) fun gV14 wv hx0 hbox hge => ?_
  have HNV14V7 := hid (show gV14 ≠ gV7 by have := V7.out.lt; omega)
  have HNV14V8 := hid (show gV14 ≠ gV8 by have := V8.out.lt; omega)
  have HNV14V13 := hid (show gV14 ≠ gV13 by have := V13.out.lt; omega)
  have HGV14 := hid (show W.heap.size ≤ gV14 by have := E.out.size; omega)
  replace E := hid (E.out.trans hx0)
  replace V7 := hid (V7.out.up hx0)
  replace V8 := hid (V8.out.up hx0)
  replace V13 := hid (V13.out.up hx0)
  replace Q1 := hid (Q1.out.up hx0)
  replace Q2 := hid (Q2.out.up hx0)
  replace Q5 := hid (Q5.out.up hx0)
  replace Q6 := hid (Q6.out.up hx0)
  have V14 : Hid (Box wv gV14 #[.bool false, .slice none 0 0] 24) := hid hbox
  clear hx0 hbox hge
  simp only [Act.put, List.setIfInBounds_toArray, List.set_cons_zero, List.set_cons_succ]
  refine WE.store2 (g := gV13) (x := .bool g5) (y := .slice A5 n5 c5) (t := 24) rfl rfl (by rfl) (fun w hb => ?_) V13.out (by rfl) fun ws hk hs => ?_
  · have c0 := hb.cell (o := 0) (v := .bool false) rfl; have f0 := hb.free 0; have c1 := hb.cell (o := 1) (v := .slice none 0 0) rfl; have f1 := hb.free 1; go_simp
  intro hbx
  replace E := hid (E.out.keptG hk HGV13.out)
  replace V7 := hid (V7.out.kept hk (by simpa using HNV13V7.out.symm))
  replace V8 := hid (V8.out.kept hk (by simpa using HNV13V8.out.symm))
  replace V13 := hid hbx
  replace V14 := hid (V14.out.kept hk (by simpa using HNV14V13.out))
  replace Q1 := hid (Q1.out.kz hs)
  replace Q2 := hid (Q2.out.kz hs)
  replace Q5 := hid (Q5.out.kz hs)
  replace Q6 := hid (Q6.out.kz hs)
  clear hk hs hbx
  refine WE.store2 (g := gV14) (x := .bool g6) (y := .slice A6 n6 c6) (t := 24) rfl rfl (by rfl) (fun w hb => ?_) V14.out (by rfl) fun ws hk hs => ?_
  · have c0 := hb.cell (o := 0) (v := .bool false) rfl; have f0 := hb.free 0; have c1 := hb.cell (o := 1) (v := .slice none 0 0) rfl; have f1 := hb.free 1; go_simp
  intro hbx
  replace E := hid (E.out.keptG hk HGV14.out)
  replace V7 := hid (V7.out.kept hk (by simpa using HNV14V7.out.symm))
  replace V8 := hid (V8.out.kept hk (by simpa using HNV14V8.out.symm))
  replace V13 := hid (V13.out.kept hk (by simpa using HNV14V13.out.symm))
  replace V14 := hid hbx
  replace Q1 := hid (Q1.out.kz hs)
  replace Q2 := hid (Q2.out.kz hs)
  replace Q5 := hid (Q5.out.kz hs)
  replace Q6 := hid (Q6.out.kz hs)
  clear hk hs hbx
  refine WE.done ?_
  go_upto_region 12 with (fail)
  refine wp_region_T [(0, 0), (1, 1), (2, 0), (3, 0), (4, 0), (5, 0), (6, 0)] (by kernel_rfl) fun wd hb => ?_
  replace E := hid (E.out.trans hb)
  replace V7 := hid (V7.out.up hb)
  replace V8 := hid (V8.out.up hb)
  replace V13 := hid (V13.out.up hb)
  replace V14 := hid (V14.out.up hb)
  replace Q1 := hid (Q1.out.up hb)
  replace Q2 := hid (Q2.out.up hb)
  replace Q5 := hid (Q5.out.up hb)
  replace Q6 := hid (Q6.out.up hb)
  clear hb
  refine WE.pure (d := some 83) rfl rfl (by rfl) (v := (.agg #[.bool g5, .slice A5 n5 c5])) (fun w' hk => ?_) ?_
  · have c0 := hk.cell (V13.out.cell (o := 0) (v := .bool g5) rfl); have c1 := hk.cell (V13.out.cell (o := 1) (v := .slice A5 n5 c5) rfl); go_simp
  simp only [Act.put, List.setIfInBounds_toArray, List.set_cons_zero, List.set_cons_succ]
  refine WE.call (d := some 84) rfl rfl (by rfl) (f := 17) (args := #[(.agg #[.bool g5, .slice A5 n5 c5])]) (by go_simp) ?_
  refine (small_as Q5.out.worth (HEE.out) (Y := e) (HFE.out)).mono ?_
  rintro e wn ⟨rfl, hb⟩
  refine ⟨_, rfl, hb, ?_⟩
  replace E := hid (E.out.trans hb)
  replace V7 := hid (V7.out.up hb)
  replace V8 := hid (V8.out.up hb)
  replace V13 := hid (V13.out.up hb)
  replace V14 := hid (V14.out.up hb)
  replace Q1 := hid (Q1.out.up hb)
  replace Q2 := hid (Q2.out.up hb)
  replace Q5 := hid (Q5.out.up hb)
  replace Q6 := hid (Q6.out.up hb)
  clear hb
  simp only [Act.put, List.setIfInBounds_toArray, List.set_cons_zero, List.set_cons_succ]
  refine WE.pure (d := some 82) rfl rfl (by rfl) (v := (.tuple #[(.int .i64 e), (.bool true)])) (fun w' hk => ?_) ?_
  · go_simp
  simp only [Act.put, List.setIfInBounds_toArray, List.set_cons_zero, List.set_cons_succ]
  refine WE.pure (d := some 85) rfl rfl (by rfl) (v := (.int .i64 e)) (fun w' hk => ?_) ?_
  · go_simp
  simp only [Act.put, List.setIfInBounds_toArray, List.set_cons_zero, List.set_cons_succ]
  refine WE.pure (d := some 86) rfl rfl (by rfl) (v := (.bool true)) (fun w' hk => ?_) ?_
  · go_simp
  simp only [Act.put, List.setIfInBounds_toArray, List.set_cons_zero, List.set_cons_succ]
  refine WE.pure (d := some 15) rfl rfl (by rfl) (v := (.int .i64 e)) (fun w' hk => ?_) ?_
  · go_simp
  simp only [Act.put, List.setIfInBounds_toArray, List.set_cons_zero, List.set_cons_succ]
  refine WE.pure (d := some 16) rfl rfl (by rfl) (v := (.bool true)) (fun w' hk => ?_) ?_
  · go_simp
  simp only [Act.put, List.setIfInBounds_toArray, List.set_cons_zero, List.set_cons_succ]
  refine WE.done ?_
  go_upto_region 13 with (fail)
  refine wp_region_T [(0, 0), (1, 1), (2, 0), (3, 0), (4, 0), (5, 0), (6, 0)] (by kernel_rfl) fun wd hb => ?_
  replace E := hid (E.out.trans hb)
  replace V7 := hid (V7.out.up hb)
  replace V8 := hid (V8.out.up hb)
  replace V13 := hid (V13.out.up hb)
  replace V14 := hid (V14.out.up hb)
  replace Q1 := hid (Q1.out.up hb)
  replace Q2 := hid (Q2.out.up hb)
  replace Q5 := hid (Q5.out.up hb)
  replace Q6 := hid (Q6.out.up hb)
  clear hb
  refine WE.pure (d := some 88) rfl rfl (by rfl) (v := (.agg #[.bool g6, .slice A6 n6 c6])) (fun w' hk => ?_) ?_
  · have c0 := hk.cell (V14.out.cell (o := 0) (v := .bool g6) rfl); have c1 := hk.cell (V14.out.cell (o := 1) (v := .slice A6 n6 c6) rfl); go_simp
  simp only [Act.put, List.setIfInBounds_toArray, List.set_cons_zero, List.set_cons_succ]
  refine WE.call (d := some 89) rfl rfl (by rfl) (f := 17) (args := #[(.agg #[.bool g6, .slice A6 n6 c6])]) (by go_simp) ?_
  refine (small_as Q6.out.worth (HMM.out) (Y := m) (HFM.out)).mono ?_
  rintro e wn ⟨rfl, hb⟩
  refine ⟨_, rfl, hb, ?_⟩
  replace E := hid (E.out.trans hb)
  replace V7 := hid (V7.out.up hb)
  replace V8 := hid (V8.out.up hb)
  replace V13 := hid (V13.out.up hb)
  replace V14 := hid (V14.out.up hb)
  replace Q1 := hid (Q1.out.up hb)
  replace Q2 := hid (Q2.out.up hb)
  replace Q5 := hid (Q5.out.up hb)
  replace Q6 := hid (Q6.out.up hb)
  clear hb
  simp only [Act.put, List.setIfInBounds_toArray, List.set_cons_zero, List.set_cons_succ]
  refine WE.pure (d := some 87) rfl rfl (by rfl) (v := (.tuple #[(.int .i64 m), (.bool true)])) (fun w' hk => ?_) ?_
  · go_simp
  simp only [Act.put, List.setIfInBounds_toArray, List.set_cons_zero, List.set_cons_succ]
  refine WE.pure (d := some 90) rfl rfl (by rfl) (v := (.int .i64 m)) (fun w' hk => ?_) ?_
  · go_simp
  simp only [Act.put, List.setIfInBounds_toArray, List.set_cons_zero, List.set_cons_succ]
  refine WE.pure (d := some 91) rfl rfl (by rfl) (v := (.bool true)) (fun w' hk => ?_) ?_
  · go_simp
  simp only [Act.put, List.setIfInBounds_toArray, List.set_cons_zero, List.set_cons_succ]
  refine WE.pure (d := some 17) rfl rfl (by rfl) (v := (.int .i64 m)) (fun w' hk => ?_) ?_
  · go_simp
  simp only [Act.put, List.setIfInBounds_toArray, List.set_cons_zero, List.set_cons_succ]
  refine WE.pure (d := some 18) rfl rfl (by rfl) (v := (.bool true)) (fun w' hk => ?_) ?_
  · go_simp
  simp only [Act.put, List.setIfInBounds_toArray, List.set_cons_zero, List.set_cons_succ]
  refine WE.done ?_
  go_upto_region 14 with (fail)
  refine wp_region_T [(0, 0), (1, 0), (2, 0), (3, 0), (4, 0), (5, 0), (6, 0), (7, 0), (8, 0), (9, 0), (10, 0), (11, 0), (12, 0), (13, 0)] (by kernel_rfl) fun wd hb => ?_
  replace E := hid (E.out.trans hb)
  replace V7 := hid (V7.out.up hb)
  replace V8 := hid (V8.out.up hb)
  replace V13 := hid (V13.out.up hb)
  replace V14 := hid (V14.out.up hb)
  replace Q1 := hid (Q1.out.up hb)
  replace Q2 := hid (Q2.out.up hb)
  replace Q5 := hid (Q5.out.up hb)
  replace Q6 := hid (Q6.out.up hb)
  clear hb
  refine WE.pure (d := some 92) rfl rfl (by rfl) (v := (.int .i64 a)) (fun w' hk => ?_) ?_
  · go_simp
  simp only [Act.put, List.setIfInBounds_toArray, List.set_cons_zero, List.set_cons_succ]
  refine WE.pure (d := some 93) rfl rfl (by rfl) (v := (.int .i64 b)) (fun w' hk => ?_) ?_
  · go_simp
  simp only [Act.put, List.setIfInBounds_toArray, List.set_cons_zero, List.set_cons_succ]
  refine WE.pure (d := some 94) rfl rfl (by rfl) (v := (.int .i64 t)) (fun w' hk => ?_) ?_
  · have q0 : a.tmod b = t := HTT.out; have q1 : IntKind.i64.wrap t = t := HWT.out; go_simp
  simp only [Act.put, List.setIfInBounds_toArray, List.set_cons_zero, List.set_cons_succ]
  refine WE.pure (d := some 95) rfl rfl (by rfl) (v := (.int .i64 b)) (fun w' hk => ?_) ?_
  · go_simp
  simp only [Act.put, List.setIfInBounds_toArray, List.set_cons_zero, List.set_cons_succ]
  refine WE.pure (d := some 96) rfl rfl (by rfl) (v := (.int .i64 b)) (fun w' hk => ?_) ?_
  · go_simp
  simp only [Act.put, List.setIfInBounds_toArray, List.set_cons_zero, List.set_cons_succ]
  refine WE.pure (d := some 97) rfl rfl (by rfl) (v := (.int .i64 nb)) (fun w' hk => ?_) ?_
  · have q0 : -b = nb := HNB.out; have q1 : IntKind.i64.wrap nb = nb := HWN.out; go_simp
  simp only [Act.put, List.setIfInBounds_toArray, List.set_cons_zero, List.set_cons_succ]
  refine WE.pure (d := some 98) rfl rfl (by rfl) (v := (.int .i64 mb)) (fun w' hk => ?_) ?_
  · have q0 : max b nb = mb := HMB.out; go_simp
  simp only [Act.put, List.setIfInBounds_toArray, List.set_cons_zero, List.set_cons_succ]
  refine WE.pure (d := some 99) rfl rfl (by rfl) (v := (.int .i64 s)) (fun w' hk => ?_) ?_
  · have q0 : t + mb = s := HSS.out; have q1 : IntKind.i64.wrap s = s := HWS.out; go_simp
  simp only [Act.put, List.setIfInBounds_toArray, List.set_cons_zero, List.set_cons_succ]
  refine WE.pure (d := some 100) rfl rfl (by rfl) (v := (.int .i64 b)) (fun w' hk => ?_) ?_
  · go_simp
  simp only [Act.put, List.setIfInBounds_toArray, List.set_cons_zero, List.set_cons_succ]
  refine WE.pure (d := some 101) rfl rfl (by rfl) (v := (.int .i64 b)) (fun w' hk => ?_) ?_
  · go_simp
  simp only [Act.put, List.setIfInBounds_toArray, List.set_cons_zero, List.set_cons_succ]
  refine WE.pure (d := some 102) rfl rfl (by rfl) (v := (.int .i64 nb)) (fun w' hk => ?_) ?_
  · have q0 : -b = nb := HNB.out; have q1 : IntKind.i64.wrap nb = nb := HWN.out; go_simp
  simp only [Act.put, List.setIfInBounds_toArray, List.set_cons_zero, List.set_cons_succ]
  refine WE.pure (d := some 103) rfl rfl (by rfl) (v := (.int .i64 mb)) (fun w' hk => ?_) ?_
  · have q0 : max b nb = mb := HMB.out; go_simp
  simp only [Act.put, List.setIfInBounds_toArray, List.set_cons_zero, List.set_cons_succ]
  refine WE.pure (d := some 104) rfl rfl (by rfl) (v := (.int .i64 m)) (fun w' hk => ?_) ?_
  · have q0 : s.tmod mb = m := HSM.out; have q1 : IntKind.i64.wrap m = m := HWM.out; have hmb1 : (mb == 0) = false := HMB0.out; have hmb3 : ¬ mb = 0 := HMB1.out; go_simp
  simp only [Act.put, List.setIfInBounds_toArray, List.set_cons_zero, List.set_cons_succ]
  refine WE.pure (d := some 19) rfl rfl (by rfl) (v := (.int .i64 m)) (fun w' hk => ?_) ?_
  · go_simp
  simp only [Act.put, List.setIfInBounds_toArray, List.set_cons_zero, List.set_cons_succ]
  refine WE.done ?_
  go_upto_region 15 with (fail)
  refine wp_region_T [(0, 0), (1, 0), (2, 0), (3, 0), (4, 0), (5, 0), (6, 0), (7, 0), (8, 0), (9, 0), (10, 0), (11, 0), (12, 0), (13, 0), (14, 0), (15, 0), (16, 0), (17, 0), (18, 0)] (by kernel_rfl) fun wd hb => ?_
  replace E := hid (E.out.trans hb)
  replace V7 := hid (V7.out.up hb)
  replace V8 := hid (V8.out.up hb)
  replace V13 := hid (V13.out.up hb)
  replace V14 := hid (V14.out.up hb)
  replace Q1 := hid (Q1.out.up hb)
  replace Q2 := hid (Q2.out.up hb)
  replace Q5 := hid (Q5.out.up hb)
  replace Q6 := hid (Q6.out.up hb)
  clear hb
  refine WE.pure (d := some 105) rfl rfl (by rfl) (v := (.bool true)) (fun w' hk => ?_) ?_
  · go_simp
  simp only [Act.put, List.setIfInBounds_toArray, List.set_cons_zero, List.set_cons_succ]
  refine WE.pure (d := some 106) rfl rfl (by rfl) (v := (.bool true)) (fun w' hk => ?_) ?_
  · go_simp
  simp only [Act.put, List.setIfInBounds_toArray, List.set_cons_zero, List.set_cons_succ]
  refine WE.pure (d := some 107) rfl rfl (by rfl) (v := (.bool true)) (fun w' hk => ?_) ?_
  · go_simp
  simp only [Act.put, List.setIfInBounds_toArray, List.set_cons_zero, List.set_cons_succ]
  refine WE.pure (d := some 108) rfl rfl (by rfl) (v := (.bool true)) (fun w' hk => ?_) ?_
  · go_simp
  simp only [Act.put, List.setIfInBounds_toArray, List.set_cons_zero, List.set_cons_succ]
  refine WE.pure (d := some 109) rfl rfl (by rfl) (v := (.bool true)) (fun w' hk => ?_) ?_
  · go_simp
  simp only [Act.put, List.setIfInBounds_toArray, List.set_cons_zero, List.set_cons_succ]
  refine WE.pure (d := some 110) rfl rfl (by rfl) (v := (.int .i64 m)) (fun w' hk => ?_) ?_
  · go_simp
  simp only [Act.put, List.setIfInBounds_toArray, List.set_cons_zero, List.set_cons_succ]
  refine WE.pure (d := some 111) rfl rfl (by rfl) (v := (.int .i64 m)) (fun w' hk => ?_) ?_
  · go_simp
  simp only [Act.put, List.setIfInBounds_toArray, List.set_cons_zero, List.set_cons_succ]
  refine WE.pure (d := some 112) rfl rfl (by rfl) (v := (.bool true)) (fun w' hk => ?_) ?_
  · go_simp
  simp only [Act.put, List.setIfInBounds_toArray, List.set_cons_zero, List.set_cons_succ]
  refine WE.pure (d := some 113) rfl rfl (by rfl) (v := (.bool true)) (fun w' hk => ?_) ?_
  · go_simp
  simp only [Act.put, List.setIfInBounds_toArray, List.set_cons_zero, List.set_cons_succ]
  refine WE.pure (d := some 114) rfl rfl (by rfl) (v := (.bool true)) (fun w' hk => ?_) ?_
  · go_simp
  simp only [Act.put, List.setIfInBounds_toArray, List.set_cons_zero, List.set_cons_succ]
  refine WE.pure (d := some 115) rfl rfl (by rfl) (v := (.int .i64 e)) (fun w' hk => ?_) ?_
  · go_simp
  simp only [Act.put, List.setIfInBounds_toArray, List.set_cons_zero, List.set_cons_succ]
  refine WE.pure (d := some 116) rfl rfl (by rfl) (v := (.int .i64 a)) (fun w' hk => ?_) ?_
  · go_simp
  simp only [Act.put, List.setIfInBounds_toArray, List.set_cons_zero, List.set_cons_succ]
  refine WE.pure (d := some 117) rfl rfl (by rfl) (v := (.int .i64 m)) (fun w' hk => ?_) ?_
  · go_simp
  simp only [Act.put, List.setIfInBounds_toArray, List.set_cons_zero, List.set_cons_succ]
  refine WE.pure (d := some 118) rfl rfl (by rfl) (v := (.int .i64 u)) (fun w' hk => ?_) ?_
  · have q0 : a - m = u := HUU.out; have q1 : IntKind.i64.wrap u = u := HWU.out; go_simp
  simp only [Act.put, List.setIfInBounds_toArray, List.set_cons_zero, List.set_cons_succ]
  refine WE.pure (d := some 119) rfl rfl (by rfl) (v := (.int .i64 b)) (fun w' hk => ?_) ?_
  · go_simp
  simp only [Act.put, List.setIfInBounds_toArray, List.set_cons_zero, List.set_cons_succ]
  refine WE.pure (d := some 120) rfl rfl (by rfl) (v := (.int .i64 e)) (fun w' hk => ?_) ?_
  · have q0 : u.tdiv b = e := HUE.out; have q1 : IntKind.i64.wrap e = e := HWE.out; go_simp
  simp only [Act.put, List.setIfInBounds_toArray, List.set_cons_zero, List.set_cons_succ]
  refine WE.pure (d := some 121) rfl rfl (by rfl) (v := (.bool true)) (fun w' hk => ?_) ?_
  · go_simp
  simp only [Act.put, List.setIfInBounds_toArray, List.set_cons_zero, List.set_cons_succ]
  refine WE.pure (d := some 122) rfl rfl (by rfl) (v := (.bool true)) (fun w' hk => ?_) ?_
  · go_simp
  simp only [Act.put, List.setIfInBounds_toArray, List.set_cons_zero, List.set_cons_succ]
  refine WE.pure (d := some 4) rfl rfl (by rfl) (v := (.bool true)) (fun w' hk => ?_) ?_
  · go_simp
  simp only [Act.put, List.setIfInBounds_toArray, List.set_cons_zero, List.set_cons_succ]
  refine WE.done ?_
  go_wp2
  go_ret
  exact ⟨rfl, E.out⟩

theorem wholeSmall_walk (W : World) (a : Int) (wa : (Lit.int .i32 a).wf = true) (b : Int) (wb : (Lit.int .i32 b).wf = true) :
    Calls Try.prog 6 #[.int .i32 a, .int .i32 b] W (fun e w' => e = .returned (.bool true) ∧ Ext W w') := by
  have h1 := i32_of_wf wa
  have h2 := i32_of_wf wb
  by_cases hz : b = 0
  · exact wholeSmall_z W a b h1.1 h1.2 h2.1 h2.2 hz
  · exact wholeSmall_n W a b h1.1 h1.2 h2.1 h2.2 hz

set_option maxRecDepth 100000 in
theorem wholeSmall_lifted (os : Os) (started : os.Started) (H : Type) (enc : TypeId × Value → H) :
    ReturnsInHanded {} Try.checked os 6 .any (Rows.wholeSmallSpec.pre6 enc Try.prog Try.f6 Rows.wholeSmallRow.domain false) (Rows.wholeSmallSpec.post enc Try.prog Try.f6 false true false false) := by
  refine returnsInHanded_of_change (C := Try.checked) own started (by kernel_rfl) Try.func6
    (ChangeSpec.witness6 (enc := enc) (C := Try.checked) false ⟨#[], #[.int .i32 0, .int .i32 0], []⟩ 8 (by kernel_rfl) (by kernel_rfl) (by kernel_rfl) (by kernel_rfl)) ?_
  intro W base args ds gs before hval0 hW _ _
  have hval : ∀ (j : Nat) t v, Try.f6.params[j]? = some t → args[j]? = some v → Value.okWide Try.prog W .any base t v := hval0
  have hW' := hW
  obtain ⟨p, q, hA0, hV, rfl, hfz, hnd⟩ := hW
  have hA : DataW.TrodAll enc Try.prog W 0 (fun _ => true) true Try.f6.params.toList args.toList ds p := hA0
  rw [Try.params6] at hA hval
  obtain ⟨v0, vs0, d0, ds0, p0, q0, hargs, rfl, rfl, h0, r0⟩ := trodAll_cons hA
  obtain ⟨v1, vs1, d1, ds1, p1, q1, rfl, rfl, rfl, h1, r1⟩ := trodAll_cons r0
  obtain ⟨rfl, rfl, rfl⟩ := trodAll_nil r1
  obtain rfl : args = #[v0, v1] := by cases args; simp_all
  obtain ⟨rfl, rfl⟩ := trodVars_none hV
  obtain ⟨a0, rfl, -, -, w0⟩ := open_int Try.underlying21 (hval 0 21 v0 rfl rfl) h0
  obtain ⟨a1, rfl, -, -, w1⟩ := open_int Try.underlying21 (hval 1 21 v1 rfl rfl) h1
  clear hA0 hval0
  refine (wholeSmall_walk W a0 w0 a1 w1).mono fun e W' ⟨he, hg⟩ => ?_
  subst he
  exact ⟨_, rfl, law_post hW' rfl rfl (by kernel_rfl) (by kernel_rfl) hg⟩

theorem wholeSmall_over : Rows.wholeSmallRow.holds Try.pinned (OpenSpec.ofChange Rows.wholeSmallSpec) :=
  OpenClaim.holds_of_wide 6 Try.f6 rfl rfl rfl rfl rfl rfl rfl ⟨rfl, rfl, rfl, rfl, rfl⟩ rfl rfl rfl rfl rfl (by kernel_rfl) Try.func6 (by kernel_rfl)
    (of_decide_eq_true (by kernel_rfl)) (by unfold Func.isWrapper; first | (rw [if_pos (by decide +kernel)]; kernel_rfl) | (rw [if_neg (by decide +kernel)]; exact ⟨rfl, rfl⟩))
    (fun os started H enc _ => wholeSmall_lifted os started H enc)

theorem wholeSmall_proved : Rows.WholeSmallSaid := wholeSmall_over

end Go.Proofs.Ytjmonmbgfihgmaa
