/-
  GcdRows's law, one of its ways.
-/
import Derived.Test.YtljjijcmoafndaaGKnown
import Derived.Test.YtljjijcmoafndaaGLists
namespace Go.Proofs.Ytljjijcmoafndaa
open Go.ChangeShapes Go.WideShapes Go.ChangeAt Go.RowKit
set_option linter.unusedSimpArgs false
set_option linter.unusedVariables false

set_option maxRecDepth 100000 in
set_option maxHeartbeats 16000000 in
theorem gcdRows_some (W : World) (A : Option Addr) (n c : Nat) (xs : List Int) (hX : IList W (.slice A n c) xs) (at_ : Int) (h1 : 0 ≤ at_) (h2 : at_ ≤ 255) (hl : n ≤ 12) (hn : 0 < n) :
    Calls Try.prog 7 #[.slice A n c, .int .u8 at_] W (fun e w' => e = .returned (.bool true) ∧ Ext W w') := by
  have HX := hid hX
  have HC := hid hX.count
  have HB := hid (show ∀ x ∈ xs, -2147483648 ≤ x ∧ x ≤ 2147483647 from (by obtain ⟨_, _, _, _, _, _, _, h, _⟩ := hX; exact h))
  have HL := hid hl
  have H1 := hid h1
  have H2 := hid h2
  have hb9 : n ≤ 9223372036854775807 := hX.count.2.2.2
  have hfl : decide ((12 : Int) < (n : Int)) = false := by simp; omega
  obtain ⟨k, hk⟩ : ∃ k : Nat, k = at_.toNat % n := ⟨_, rfl⟩
  have hkn : k < n := by rw [hk]; exact Nat.mod_lt _ hn
  have HK := hid (Nat.le_of_lt hkn)
  have hfn : decide ((0 : Int) < (n : Int)) = true := decide_eq_true (by omega)
  have hn0 : ¬ n = 0 := by omega
  have hni : ¬ (n : Int) = 0 := by omega
  have hwa : IntKind.i64.wrap at_ = at_ := by rw [IntKind.wrap_i64]; omega
  have hq : at_.tmod (n : Int) = (k : Int) := by rw [hk, show at_ = (at_.toNat : Int) by omega]; exact (Int.ofNat_tmod _ _).symm
  have hwk : IntKind.i64.wrap (k : Int) = (k : Int) := by rw [IntKind.wrap_i64]; omega
  obtain ⟨Ad, nd, cd, hs3⟩ : ∃ Ad nd cd, Value.slice (if c = k then A else A.map (·.add (k * 1))) (n - k) (c - k) = .slice Ad nd cd := ⟨_, _, _, rfl⟩
  obtain ⟨Ae, ne, ce, hs4⟩ : ∃ Ae ne ce, Value.slice (if c = 0 then A else A.map (·.add (0 * 1))) k c = .slice Ae ne ce := ⟨_, _, _, rfl⟩
  have HF3 := hid (show ∀ w, (Instr.slice 43 (.slice A n c) (some (.int .i64 (k : Int))) none none).run Try.prog w = .ok (.slice Ad nd cd) w from fun w => hs3 ▸ slice_from (k := k) HK.out w)
  have HF4 := hid (show ∀ w, (Instr.slice 43 (.slice A n c) none (some (.int .i64 (k : Int))) none).run Try.prog w = .ok (.slice Ae ne ce) w from fun w => hs4 ▸ slice_to (k := k) (Nat.le_trans HK.out HC.out.2.1) w)
  have HI3 := hid (show IList W (.slice Ad nd cd) (xs.drop k) from hs3 ▸ hX.from_ HK.out)
  have HI4 := hid (show IList W (.slice Ae ne ce) (xs.take k) from hs4 ▸ hX.to_ HK.out)
  have HL0 := hid (show xs.length ≤ 12 by have := hX.count.1; omega)
  clear hX h1 h2 hl hs3 hs4 hk hkn
  go_enter Try.func7, Try.ntmps7
  go_upto_region 1 with (fail)
  have E := hid (Ext.refl W)
  go_upto_region 1 with (fail)
  refine wp_region_T [(0, 1), (1, 0)] (by kernel_rfl) fun wd hb => ?_
  replace E := hid (E.out.trans hb)
  clear hb
  refine WE.call (d := some 9) rfl rfl (by rfl) (f := 8) (args := #[]) (by go_simp) ?_
  refine (known4 _).mono ?_
  rintro e wn ⟨rfl, hb⟩
  refine ⟨_, rfl, hb, ?_⟩
  replace E := hid (E.out.trans hb)
  clear hb
  simp only [Act.put, List.setIfInBounds_toArray, List.set_cons_zero, List.set_cons_succ]
  refine WE.pure (d := some 10) rfl rfl (by rfl) (v := (.bool false)) (fun w' hk => ?_) ?_
  · go_simp
  simp only [Act.put, List.setIfInBounds_toArray, List.set_cons_zero, List.set_cons_succ]
  refine WE.done ?_
  go_upto_region 3 with (fail)
  refine wp_region_T [(0, 0), (1, 0), (2, 0)] (by kernel_rfl) fun wd hb => ?_
  replace E := hid (E.out.trans hb)
  clear hb
  refine WE.pure (d := some 11) rfl rfl (by rfl) (v := (.slice A n c)) (fun w' hk => ?_) ?_
  · go_simp
  simp only [Act.put, List.setIfInBounds_toArray, List.set_cons_zero, List.set_cons_succ]
  refine WE.pure (d := some 12) rfl rfl (by rfl) (v := (.int .i64 (n : Int))) (fun w' hk => ?_) ?_
  · go_simp
  simp only [Act.put, List.setIfInBounds_toArray, List.set_cons_zero, List.set_cons_succ]
  refine WE.pure (d := some 13) rfl rfl (by rfl) (v := (.bool false)) (fun w' hk => ?_) ?_
  · go_simp
  simp only [Act.put, List.setIfInBounds_toArray, List.set_cons_zero, List.set_cons_succ]
  refine WE.done ?_
  go_upto_region 5 with (fail)
  refine wp_region_T [(0, 0)] (by kernel_rfl) fun wd hb => ?_
  replace E := hid (E.out.trans hb)
  clear hb
  refine WE.pure (d := some 5) rfl rfl (by rfl) (v := (.int .i64 (0))) (fun w' hk => ?_) ?_
  · go_simp
  simp only [Act.put, List.setIfInBounds_toArray, List.set_cons_zero, List.set_cons_succ]
  refine WE.done ?_
  go_upto_region 6 with (fail)
  refine wp_region_T [(0, 0), (1, 0), (2, 0)] (by kernel_rfl) fun wd hb => ?_
  replace E := hid (E.out.trans hb)
  clear hb
  refine WE.pure (d := some 14) rfl rfl (by rfl) (v := (.slice A n c)) (fun w' hk => ?_) ?_
  · go_simp
  simp only [Act.put, List.setIfInBounds_toArray, List.set_cons_zero, List.set_cons_succ]
  refine WE.pure (d := some 15) rfl rfl (by rfl) (v := (.int .i64 (n : Int))) (fun w' hk => ?_) ?_
  · go_simp
  simp only [Act.put, List.setIfInBounds_toArray, List.set_cons_zero, List.set_cons_succ]
  refine WE.pure (d := some 16) rfl rfl (by rfl) (v := (.bool true)) (fun w' hk => ?_) ?_
  · go_simp
  simp only [Act.put, List.setIfInBounds_toArray, List.set_cons_zero, List.set_cons_succ]
  refine WE.done ?_
  go_upto_region 7 with (fail)
  refine wp_region_T [(0, 0), (1, 0), (2, 0), (3, 0), (4, 0), (5, 0)] (by kernel_rfl) fun wd hb => ?_
  replace E := hid (E.out.trans hb)
  clear hb
  refine WE.pure (d := some 17) rfl rfl (by rfl) (v := (.int .u8 at_)) (fun w' hk => ?_) ?_
  · go_simp
  simp only [Act.put, List.setIfInBounds_toArray, List.set_cons_zero, List.set_cons_succ]
  refine WE.pure (d := some 18) rfl rfl (by rfl) (v := (.int .i64 at_)) (fun w' hk => ?_) ?_
  · go_simp
  simp only [Act.put, List.setIfInBounds_toArray, List.set_cons_zero, List.set_cons_succ]
  refine WE.pure (d := some 19) rfl rfl (by rfl) (v := (.slice A n c)) (fun w' hk => ?_) ?_
  · go_simp
  simp only [Act.put, List.setIfInBounds_toArray, List.set_cons_zero, List.set_cons_succ]
  refine WE.pure (d := some 20) rfl rfl (by rfl) (v := (.int .i64 (n : Int))) (fun w' hk => ?_) ?_
  · go_simp
  simp only [Act.put, List.setIfInBounds_toArray, List.set_cons_zero, List.set_cons_succ]
  as_aux_lemma =>
    refine WE.pure (d := some 21) rfl rfl (by rfl) (v := (.int .i64 (k : Int))) (fun w' hk => ?_) ?_
    · go_simp
    simp only [Act.put, List.setIfInBounds_toArray, List.set_cons_zero, List.set_cons_succ]
    refine WE.pure (d := some 5) rfl rfl (by rfl) (v := (.int .i64 (k : Int))) (fun w' hk => ?_) ?_
    · go_simp
    simp only [Act.put, List.setIfInBounds_toArray, List.set_cons_zero, List.set_cons_succ]
    refine WE.done ?_
    go_upto_region 8 with (fail)
    refine wp_region_T [(0, 0), (1, 1), (2, 1), (3, 1), (4, 4)] (by kernel_rfl) fun wd hb => ?_
    replace E := hid (E.out.trans hb)
    clear hb
    refine WE.pure (d := some 22) rfl rfl (by rfl) (v := (.slice A n c)) (fun w' hk => ?_) ?_
    · go_simp
    simp only [Act.put, List.setIfInBounds_toArray, List.set_cons_zero, List.set_cons_succ]
    refine WE.call (d := some 23) rfl rfl (by rfl) (f := 25) (args := #[(.slice A n c)]) (by go_simp) ?_
    refine (ints_w (HX.out.up E.out) (by have := HL0.out; omega)).mono ?_
    rintro e wn ⟨v1, rfl, x1, hb⟩
    obtain ⟨A1, n1, c1, rfl⟩ := x1.shape
    refine ⟨_, rfl, hb, ?_⟩
    replace E := hid (E.out.trans hb)
    have ZL1 := hid x1
    clear hb x1
    simp only [Act.put, List.setIfInBounds_toArray, List.set_cons_zero, List.set_cons_succ]
    refine WE.call (d := some 24) rfl rfl (by rfl) (f := 15) (args := #[(.slice A1 n1 c1)]) (by go_simp) ?_
    refine (gAll_w ZL1.out (raw_short HB.out) (by omega)).mono ?_
    rintro e wn ⟨v1, rfl, x1, hb⟩
    obtain ⟨g2, A2, n2, c2, rfl⟩ := x1.shape
    refine ⟨_, rfl, hb, ?_⟩
    replace E := hid (E.out.trans hb)
    replace ZL1 := hid (ZL1.out.up hb)
    have Q2 := hid x1
    clear hb x1
    simp only [Act.put, List.setIfInBounds_toArray, List.set_cons_zero, List.set_cons_succ]
    clear ZL1
    refine WE.new (d := some 6) (cs := #[.bool false, .slice none 0 0]) (t := 24) (v := fun g => (.pointer (some ⟨g, 0, none⟩))) rfl rfl (by rfl) (fun w => by go_simp) fun gV6 wv hx0 hbox hge => ?_
    have HGV6 := hid (show W.heap.size ≤ gV6 by have := E.out.size; omega)
    replace E := hid (E.out.trans hx0)
    replace Q2 := hid (Q2.out.up hx0)
    have V6 : Hid (Box wv gV6 #[.bool false, .slice none 0 0] 24) := hid hbox
    clear hx0 hbox hge
    simp only [Act.put, List.setIfInBounds_toArray, List.set_cons_zero, List.set_cons_succ]
    refine WE.store2 (g := gV6) (x := .bool g2) (y := .slice A2 n2 c2) (t := 24) rfl rfl (by rfl) (fun w hb => ?_) V6.out (by rfl) fun ws hk hs => ?_
    · have c0 := hb.cell (o := 0) (v := .bool false) rfl; have f0 := hb.free 0; have c1 := hb.cell (o := 1) (v := .slice none 0 0) rfl; have f1 := hb.free 1; go_simp
    intro hbx
    replace E := hid (E.out.keptG hk HGV6.out)
    replace V6 := hid hbx
    replace Q2 := hid (Q2.out.kz hs)
    clear hk hs hbx
    refine WE.done ?_
    go_upto_region 9 with (fail)
    refine wp_region_E [(0, 0), (1, 0), (2, 0), (5, 0), (6, 0), (7, 0), (3, 2), (4, 2), (8, 2), (9, 2), (10, 2), (11, 3), (12, 4)] (fun _ => (24, #[.bool false, .slice none 0 0])) rfl (by kernel_rfl) (by intro j hj; simp [pend] at hj; obtain rfl := hj; exact ⟨_, rfl, rfl, rfl, fun w => by go_simp⟩) (fun _ _ d _ _ => by cases d <;> exact Iff.rfl) fun wd hb => ?_
    replace E := hid (E.out.trans hb)
    replace V6 := hid (V6.out.up hb)
    replace Q2 := hid (Q2.out.up hb)
    clear hb
    have HL1V6 := hid V6.out.lt
    have HW1 := hid (show W.heap.size ≤ wd.heap.size from E.out.size)
    refine WE.pure (d := some 25) rfl rfl (by rfl) (v := (.slice A n c)) (fun w' hk => ?_) ?_
    · go_simp
    simp only [Act.put, List.setIfInBounds_toArray, List.set_cons_zero, List.set_cons_succ]
    refine WE.pure (d := some 26) rfl rfl (by rfl) (v := (.int .i64 (k : Int))) (fun w' hk => ?_) ?_
    · go_simp
    simp only [Act.put, List.setIfInBounds_toArray, List.set_cons_zero, List.set_cons_succ]
    refine WE.pure (d := some 27) rfl rfl (by rfl) (v := (.slice Ae ne ce)) (fun w' hk => ?_) ?_
    · have hf := HF4.out; go_simp
    simp only [Act.put, List.setIfInBounds_toArray, List.set_cons_zero, List.set_cons_succ]
    refine WE.pure (d := some 30) rfl rfl (by rfl) (v := (.slice A n c)) (fun w' hk => ?_) ?_
    · go_simp
    simp only [Act.put, List.setIfInBounds_toArray, List.set_cons_zero, List.set_cons_succ]
    refine WE.pure (d := some 31) rfl rfl (by rfl) (v := (.int .i64 (k : Int))) (fun w' hk => ?_) ?_
    · go_simp
    simp only [Act.put, List.setIfInBounds_toArray, List.set_cons_zero, List.set_cons_succ]
    refine WE.pure (d := some 32) rfl rfl (by rfl) (v := (.slice Ad nd cd)) (fun w' hk => ?_) ?_
    · have hf := HF3.out; go_simp
    simp only [Act.put, List.setIfInBounds_toArray, List.set_cons_zero, List.set_cons_succ]
    refine WE.callR (d := some 28) rfl rfl (by rfl) (f := 25) (args := #[(.slice Ae ne ce)]) (fun w => by go_simp) (fun wx hx0 => ?_)
    replace E := hid (E.out.trans hx0)
    replace V6 := hid (V6.out.up hx0)
    replace Q2 := hid (Q2.out.up hx0)
    clear hx0
    refine (ints_w (HI4.out.up E.out) (by have := HL0.out; rw [List.length_take]; omega)).mono ?_
    rintro e wn ⟨v1, rfl, x1, hb⟩
    obtain ⟨A3, n3, c3, rfl⟩ := x1.shape
    refine ⟨_, rfl, hb, ?_⟩
    replace E := hid (E.out.trans hb)
    replace V6 := hid (V6.out.up hb)
    replace Q2 := hid (Q2.out.up hb)
    have ZL3 := hid x1
    clear hb x1
    simp only [Act.put, List.setIfInBounds_toArray, List.set_cons_zero, List.set_cons_succ]
    as_aux_lemma =>
      refine WE.callR (d := some 29) rfl rfl (by rfl) (f := 15) (args := #[(.slice A3 n3 c3)]) (fun w => by go_simp) (fun wx hx0 => ?_)
      replace E := hid (E.out.trans hx0)
      replace V6 := hid (V6.out.up hx0)
      replace Q2 := hid (Q2.out.up hx0)
      replace ZL3 := hid (ZL3.out.up hx0)
      clear hx0
      refine (gAll_w ZL3.out (raw_short (fun x hx => HB.out x (List.mem_of_mem_take hx))) (by omega)).mono ?_
      rintro e wn ⟨v1, rfl, x1, hb⟩
      obtain ⟨g4, A4, n4, c4, rfl⟩ := x1.shape
      refine ⟨_, rfl, hb, ?_⟩
      replace E := hid (E.out.trans hb)
      replace V6 := hid (V6.out.up hb)
      replace Q2 := hid (Q2.out.up hb)
      replace ZL3 := hid (ZL3.out.up hb)
      have Q4 := hid x1
      clear hb x1
      simp only [Act.put, List.setIfInBounds_toArray, List.set_cons_zero, List.set_cons_succ]
      clear ZL3
      refine WE.callR (d := some 33) rfl rfl (by rfl) (f := 25) (args := #[(.slice Ad nd cd)]) (fun w => by go_simp) (fun wx hx0 => ?_)
      replace E := hid (E.out.trans hx0)
      replace V6 := hid (V6.out.up hx0)
      replace Q2 := hid (Q2.out.up hx0)
      replace Q4 := hid (Q4.out.up hx0)
      clear hx0
      refine (ints_w (HI3.out.up E.out) (by have := HL0.out; rw [List.length_drop]; omega)).mono ?_
      rintro e wn ⟨v1, rfl, x1, hb⟩
      obtain ⟨A5, n5, c5, rfl⟩ := x1.shape
      refine ⟨_, rfl, hb, ?_⟩
      replace E := hid (E.out.trans hb)
      replace V6 := hid (V6.out.up hb)
      replace Q2 := hid (Q2.out.up hb)
      replace Q4 := hid (Q4.out.up hb)
      have ZL5 := hid x1
      clear hb x1
      simp only [Act.put, List.setIfInBounds_toArray, List.set_cons_zero, List.set_cons_succ]
      refine WE.callR (d := some 34) rfl rfl (by rfl) (f := 15) (args := #[(.slice A5 n5 c5)]) (fun w => by go_simp) (fun wx hx0 => ?_)
      replace E := hid (E.out.trans hx0)
      replace V6 := hid (V6.out.up hx0)
      replace Q2 := hid (Q2.out.up hx0)
      replace Q4 := hid (Q4.out.up hx0)
      replace ZL5 := hid (ZL5.out.up hx0)
      clear hx0
      refine (gAll_w ZL5.out (raw_short (fun x hx => HB.out x (List.mem_of_mem_drop hx))) (by omega)).mono ?_
      rintro e wn ⟨v1, rfl, x1, hb⟩
      obtain ⟨g6, A6, n6, c6, rfl⟩ := x1.shape
      refine ⟨_, rfl, hb, ?_⟩
      replace E := hid (E.out.trans hb)
      replace V6 := hid (V6.out.up hb)
      replace Q2 := hid (Q2.out.up hb)
      replace Q4 := hid (Q4.out.up hb)
      replace ZL5 := hid (ZL5.out.up hb)
      have Q6 := hid x1
      clear hb x1
      simp only [Act.put, List.setIfInBounds_toArray, List.set_cons_zero, List.set_cons_succ]
      clear ZL5
      refine WE.callR (d := some 35) rfl rfl (by rfl) (f := 12) (args := #[(.agg #[.bool g4, .slice A4 n4 c4]), (.agg #[.bool g6, .slice A6 n6 c6])]) (fun w => by go_simp) (fun wx hx0 => ?_)
      replace E := hid (E.out.trans hx0)
      replace V6 := hid (V6.out.up hx0)
      replace Q2 := hid (Q2.out.up hx0)
      replace Q4 := hid (Q4.out.up hx0)
      replace Q6 := hid (Q6.out.up hx0)
      clear hx0
      refine (gOf_w (Worth.wide Q4.out.worth (k := 20) (by omega)) (Worth.wide Q6.out.worth (k := 20) (by omega)) (by omega)).mono ?_
      rintro e wn ⟨v1, rfl, x1, hb⟩
      obtain ⟨g7, A7, n7, c7, rfl⟩ := x1.shape
      refine ⟨_, rfl, hb, ?_⟩
      replace E := hid (E.out.trans hb)
      replace V6 := hid (V6.out.up hb)
      replace Q2 := hid (Q2.out.up hb)
      replace Q4 := hid (Q4.out.up hb)
      replace Q6 := hid (Q6.out.up hb)
      have Q7 := hid x1
      clear hb x1
      simp only [Act.put, List.setIfInBounds_toArray, List.set_cons_zero, List.set_cons_succ]
      clear Q4
      clear Q6
      refine WE.var (d := some 7) rfl fun gV7 wv hx0 hbox hge hng => ?_
      have HNV7V6 := hid (show gV7 ≠ gV6 by have := HL1V6.out; omega)
      have HGV7 := hid (show W.heap.size ≤ gV7 by have := HW1.out; omega)
      replace E := hid (E.out.trans hx0)
      replace V6 := hid (V6.out.up hx0)
      replace Q2 := hid (Q2.out.up hx0)
      replace Q7 := hid (Q7.out.up hx0)
      have V7 : Hid (Box wv gV7 #[.bool false, .slice none 0 0] 24) := hid hbox
      clear hx0 hbox hge hng
      simp only [Act.put, List.setIfInBounds_toArray, List.set_cons_zero, List.set_cons_succ]
      refine WE.store2 (g := gV7) (x := .bool g7) (y := .slice A7 n7 c7) (t := 24) rfl rfl (by rfl) (fun w hb => ?_) V7.out (by rfl) fun ws hk hs => ?_
      · have c0 := hb.cell (o := 0) (v := .bool false) rfl; have f0 := hb.free 0; have c1 := hb.cell (o := 1) (v := .slice none 0 0) rfl; have f1 := hb.free 1; go_simp
      intro hbx
      replace E := hid (E.out.keptG hk HGV7.out)
      replace V6 := hid (V6.out.kept hk (by simpa using HNV7V6.out.symm))
      replace V7 := hid hbx
      replace Q2 := hid (Q2.out.kz hs)
      replace Q7 := hid (Q7.out.kz hs)
      clear hk hs hbx
      refine WE.done ?_
      go_upto_region 10 with (fail)
      refine wp_region_Y [] [(0, 0), (1, 0), (2, 0), (4, 0), (5, 0), (6, 0), (3, 7), (7, 8), (8, 2), (9, 2), (10, 3), (11, 4)] (fun _ => (24, #[.bool false, .slice none 0 0])) rfl (by kernel_rfl) (by intro j hj; simp [pend] at hj; obtain rfl := hj; exact ⟨_, rfl, rfl, rfl, fun w => by go_simp⟩) (fun _ _ d _ _ => by cases d <;> exact Iff.rfl) fun wd hb => ?_
      replace E := hid (E.out.trans hb)
      replace V6 := hid (V6.out.up hb)
      replace V7 := hid (V7.out.up hb)
      replace Q2 := hid (Q2.out.up hb)
      replace Q7 := hid (Q7.out.up hb)
      clear hb
      have EX := hid (Ext.refl wd)
      have HL2V6 := hid V6.out.lt
      have HL2V7 := hid V7.out.lt
      have HW2 := hid (show W.heap.size ≤ wd.heap.size from E.out.size)
      refine WY.pure (d := some 36) rfl rfl (by rfl) (v := (.slice A n c)) (fun w' hk => ?_) ?_
      · go_simp
      simp only [Act.put, List.setIfInBounds_toArray, List.set_cons_zero, List.set_cons_succ]
      refine WY.pure (d := some 37) rfl rfl (by rfl) (v := (.int .i64 (k : Int))) (fun w' hk => ?_) ?_
      · go_simp
      simp only [Act.put, List.setIfInBounds_toArray, List.set_cons_zero, List.set_cons_succ]
      refine WY.pure (d := some 38) rfl rfl (by rfl) (v := (.slice Ad nd cd)) (fun w' hk => ?_) ?_
      · have hf := HF3.out; go_simp
      simp only [Act.put, List.setIfInBounds_toArray, List.set_cons_zero, List.set_cons_succ]
      refine WY.pure (d := some 40) rfl rfl (by rfl) (v := (.slice A n c)) (fun w' hk => ?_) ?_
      · go_simp
      simp only [Act.put, List.setIfInBounds_toArray, List.set_cons_zero, List.set_cons_succ]
      refine WY.pure (d := some 41) rfl rfl (by rfl) (v := (.int .i64 (k : Int))) (fun w' hk => ?_) ?_
      · go_simp
      simp only [Act.put, List.setIfInBounds_toArray, List.set_cons_zero, List.set_cons_succ]
      refine WY.pure (d := some 42) rfl rfl (by rfl) (v := (.slice Ae ne ce)) (fun w' hk => ?_) ?_
      · have hf := HF4.out; go_simp
      simp only [Act.put, List.setIfInBounds_toArray, List.set_cons_zero, List.set_cons_succ]
      refine WY.actG (v := undef) (d := some 39) rfl rfl (by rfl) fun w1 hx0 => ?_
      replace E := hid (E.out.trans hx0)
      replace EX := hid (EX.out.trans hx0)
      clear hx0
      obtain ⟨B1, hB1⟩ : ∃ b, b = w1.heap.size := ⟨_, rfl⟩
      have HB1 := hid (show wd.heap.size ≤ B1 by rw [hB1]; exact EX.out.size)
      have HB2 := hid (show W.heap.size ≤ B1 by rw [hB1]; exact E.out.size)
      obtain ⟨v1, w2, hrun, hown, hgrow⟩ := appI_run (base := B1) (ys := []) (World.ownsRow_nil w1 _ _ _) (HI3.out.up E.out) (by have := HL0.out; rw [List.length_drop]; simp; omega) (Nat.le_of_eq hB1) 43
      have hg2 : Ext w1 w2 := grown_ext hgrow
      refine ⟨v1, w2, v1.ownBlock.toList, exec_append _ _ rfl rfl rfl hrun, hg2, fun g hg => by have := hown.lt g (by simpa using hg); rw [← hB1]; exact this, ?_⟩
      have HO1 := hid (show w2.ownsRow B1 21 1 v1 (xs.drop k).length ((xs.drop k).map fun x => Value.int .i32 x) from (by simpa using hown))
      have HSZ := hid (show B1 ≤ w2.heap.size by rw [hB1]; exact hg2.size)
      obtain ⟨A8, n8, c8, rfl⟩ := (IList.own HO1.out (fun x hx => HB.out x (List.mem_of_mem_drop hx))).shape
      clear hrun hown hgrow
      replace E := hid (E.out.trans hg2)
      replace EX := hid (EX.out.trans hg2)
      clear hg2 hB1
      simp only [Act.put, List.setIfInBounds_toArray, List.set_cons_zero, List.set_cons_succ]
      refine WY.actL (v := undef) (d := some 43) rfl rfl (by rfl) fun w1 hx0 => ?_
      replace E := hid (E.out.trans hx0)
      replace EX := hid (EX.out.trans hx0)
      replace HO1 := hid (owns_up HO1.out hx0)
      replace HSZ := hid (Nat.le_trans HSZ.out hx0.size)
      clear hx0
      obtain ⟨v2, w2, hrun, hown, hgrow⟩ := appI_run (base := B1) HO1.out (HI4.out.up E.out) (by have := HL0.out; rw [List.length_drop, List.length_take]; omega) HSZ.out 43
      have hch : Ext w1 w2 ∨ ∃ g, g ∈ (Value.slice A8 n8 c8).ownBlock.toList ++ [] ∧ B1 ≤ g ∧ Kept [g] w1 w2 := by
        cases hob : (Value.slice A8 n8 c8).ownBlock with
        | none => rw [hob] at hgrow; exact .inl (grown_ext hgrow)
        | some g => rw [hob] at hgrow; exact .inr ⟨g, by simp, (HO1.out.lt g hob).1, grown_kept hgrow⟩
      have hto : ∀ w0 : World, w0.heap.size ≤ B1 → Ext w0 w1 → Ext w0 w2 := fun w0 h0 h3 => by
        rcases hch with h | ⟨g, _, hg, h⟩
        · exact h3.trans h
        · exact h3.keptG h (Nat.le_trans h0 hg)
      refine ⟨v2, w2, exec_append _ _ rfl rfl rfl hrun, hch.imp id (fun ⟨g, a, b, c⟩ => ⟨g, a, Nat.le_trans HB1.out b, c⟩), ?_⟩
      replace E := hid (hto _ HB2.out E.out)
      replace EX := hid (hto _ HB1.out EX.out)
      have IL5 := hid (IList.own hown (by intro x hx; rcases List.mem_append.1 hx with hx | hx; exact HB.out x (List.mem_of_mem_drop hx); exact HB.out x (List.mem_of_mem_take hx)))
      obtain ⟨A9, n9, c9, rfl⟩ := IL5.out.shape
      clear hrun hown hgrow hch hto HO1 HSZ
      simp only [Act.put, List.setIfInBounds_toArray, List.set_cons_zero, List.set_cons_succ]
      replace V6 := hid (V6.out.up EX.out)
      replace V7 := hid (V7.out.up EX.out)
      replace Q2 := hid (Q2.out.up EX.out)
      replace Q7 := hid (Q7.out.up EX.out)
      refine WY.callR (d := some 44) rfl rfl (by rfl) (f := 25) (args := #[(.slice A9 n9 c9)]) (fun w => by go_simp) (fun wx hx0 => ?_)
      replace E := hid (E.out.trans hx0)
      replace EX := hid (EX.out.trans hx0)
      replace V6 := hid (V6.out.up hx0)
      replace V7 := hid (V7.out.up hx0)
      replace Q2 := hid (Q2.out.up hx0)
      replace Q7 := hid (Q7.out.up hx0)
      replace IL5 := hid (IL5.out.up hx0)
      clear hx0
      refine (ints_w IL5.out (by have := HL0.out; rw [List.length_append, List.length_drop, List.length_take]; omega)).mono ?_
      rintro e wn ⟨v1, rfl, x1, hb⟩
      obtain ⟨A8, n8, c8, rfl⟩ := x1.shape
      refine ⟨_, rfl, hb, ?_⟩
      replace E := hid (E.out.trans hb)
      replace EX := hid (EX.out.trans hb)
      replace V6 := hid (V6.out.up hb)
      replace V7 := hid (V7.out.up hb)
      replace Q2 := hid (Q2.out.up hb)
      replace Q7 := hid (Q7.out.up hb)
      replace IL5 := hid (IL5.out.up hb)
      have ZL8 := hid x1
      clear hb x1
      simp only [Act.put, List.setIfInBounds_toArray, List.set_cons_zero, List.set_cons_succ]
      clear IL5
      refine WY.callR (d := some 45) rfl rfl (by rfl) (f := 15) (args := #[(.slice A8 n8 c8)]) (fun w => by go_simp) (fun wx hx0 => ?_)
      replace E := hid (E.out.trans hx0)
      replace EX := hid (EX.out.trans hx0)
      replace V6 := hid (V6.out.up hx0)
      replace V7 := hid (V7.out.up hx0)
      replace Q2 := hid (Q2.out.up hx0)
      replace Q7 := hid (Q7.out.up hx0)
      replace ZL8 := hid (ZL8.out.up hx0)
      clear hx0
      refine (gAll_w ZL8.out (raw_short (fun x hx => by rcases List.mem_append.1 hx with hx | hx; exact HB.out x (List.mem_of_mem_drop hx); exact HB.out x (List.mem_of_mem_take hx))) (by omega)).mono ?_
      rintro e wn ⟨v1, rfl, x1, hb⟩
      obtain ⟨g9, A9, n9, c9, rfl⟩ := x1.shape
      refine ⟨_, rfl, hb, ?_⟩
      replace E := hid (E.out.trans hb)
      replace EX := hid (EX.out.trans hb)
      replace V6 := hid (V6.out.up hb)
      replace V7 := hid (V7.out.up hb)
      replace Q2 := hid (Q2.out.up hb)
      replace Q7 := hid (Q7.out.up hb)
      replace ZL8 := hid (ZL8.out.up hb)
      have Q9 := hid x1
      clear hb x1
      simp only [Act.put, List.setIfInBounds_toArray, List.set_cons_zero, List.set_cons_succ]
      clear ZL8
      refine WY.var (d := some 8) rfl fun gV8 wv hx0 hbox hge hng => ?_
      have HNV8V6 := hid (show gV8 ≠ gV6 by have := HL2V6.out; omega)
      have HNV8V7 := hid (show gV8 ≠ gV7 by have := HL2V7.out; omega)
      have HGV8 := hid (show W.heap.size ≤ gV8 by have := HW2.out; omega)
      replace E := hid (E.out.trans hx0)
      replace EX := hid (EX.out.trans hx0)
      replace V6 := hid (V6.out.up hx0)
      replace V7 := hid (V7.out.up hx0)
      replace Q2 := hid (Q2.out.up hx0)
      replace Q7 := hid (Q7.out.up hx0)
      replace Q9 := hid (Q9.out.up hx0)
      have V8 : Hid (Box wv gV8 #[.bool false, .slice none 0 0] 24) := hid hbox
      have HBV8 := hid hge
      clear hx0 hbox hge hng
      simp only [Act.put, List.setIfInBounds_toArray, List.set_cons_zero, List.set_cons_succ]
      clear EX
      refine WY.store2 (g := gV8) (x := .bool g9) (y := .slice A9 n9 c9) (t := 24) rfl rfl (by rfl) (fun w hb => ?_) V8.out (by rfl) (.inr HBV8.out) fun ws hk hs => ?_
      · have c0 := hb.cell (o := 0) (v := .bool false) rfl; have f0 := hb.free 0; have c1 := hb.cell (o := 1) (v := .slice none 0 0) rfl; have f1 := hb.free 1; go_simp
      intro hbx
      replace E := hid (E.out.keptG hk HGV8.out)
      replace V6 := hid (V6.out.kept hk (by simpa using HNV8V6.out.symm))
      replace V7 := hid (V7.out.kept hk (by simpa using HNV8V7.out.symm))
      replace V8 := hid hbx
      replace Q2 := hid (Q2.out.kz hs)
      replace Q7 := hid (Q7.out.kz hs)
      replace Q9 := hid (Q9.out.kz hs)
      clear hk hs hbx
      refine WY.done ?_
      go_upto_region 11 with (fail)
      refine wp_region_T [(0, 0), (1, 0), (2, 1), (3, 0), (4, 0), (5, 0), (6, 1), (7, 0), (8, 0)] (by kernel_rfl) fun wd hb => ?_
      replace E := hid (E.out.trans hb)
      replace V6 := hid (V6.out.up hb)
      replace V7 := hid (V7.out.up hb)
      replace V8 := hid (V8.out.up hb)
      replace Q2 := hid (Q2.out.up hb)
      replace Q7 := hid (Q7.out.up hb)
      replace Q9 := hid (Q9.out.up hb)
      clear hb
      refine WE.pure (d := some 46) rfl rfl (by rfl) (v := (.agg #[.bool g2, .slice A2 n2 c2])) (fun w' hk => ?_) ?_
      · have c0 := hk.cell (V6.out.cell (o := 0) (v := .bool g2) rfl); have c1 := hk.cell (V6.out.cell (o := 1) (v := .slice A2 n2 c2) rfl); go_simp
      simp only [Act.put, List.setIfInBounds_toArray, List.set_cons_zero, List.set_cons_succ]
      refine WE.pure (d := some 47) rfl rfl (by rfl) (v := (.agg #[.bool g7, .slice A7 n7 c7])) (fun w' hk => ?_) ?_
      · have c0 := hk.cell (V7.out.cell (o := 0) (v := .bool g7) rfl); have c1 := hk.cell (V7.out.cell (o := 1) (v := .slice A7 n7 c7) rfl); go_simp
      simp only [Act.put, List.setIfInBounds_toArray, List.set_cons_zero, List.set_cons_succ]
      refine WE.call (d := some 48) rfl rfl (by rfl) (f := 11) (args := #[(.agg #[.bool g2, .slice A2 n2 c2]), (.agg #[.bool g7, .slice A7 n7 c7])]) (by go_simp) ?_
      refine (equal_z (IsZ.to Q2.out (rfl)) (IsZ.to Q7.out (M.gl_halves xs k))).mono ?_
      rintro e wn ⟨rfl, hb⟩
      refine ⟨_, rfl, hb, ?_⟩
      replace E := hid (E.out.trans hb)
      replace V6 := hid (V6.out.up hb)
      replace V7 := hid (V7.out.up hb)
      replace V8 := hid (V8.out.up hb)
      replace Q2 := hid (Q2.out.up hb)
      replace Q7 := hid (Q7.out.up hb)
      replace Q9 := hid (Q9.out.up hb)
      clear hb
      simp only [Act.put, List.setIfInBounds_toArray, List.set_cons_zero, List.set_cons_succ]
      refine WE.pure (d := some 49) rfl rfl (by rfl) (v := (.bool true)) (fun w' hk => ?_) ?_
      · go_simp
      simp only [Act.put, List.setIfInBounds_toArray, List.set_cons_zero, List.set_cons_succ]
      refine WE.pure (d := some 50) rfl rfl (by rfl) (v := (.agg #[.bool g2, .slice A2 n2 c2])) (fun w' hk => ?_) ?_
      · have c0 := hk.cell (V6.out.cell (o := 0) (v := .bool g2) rfl); have c1 := hk.cell (V6.out.cell (o := 1) (v := .slice A2 n2 c2) rfl); go_simp
      simp only [Act.put, List.setIfInBounds_toArray, List.set_cons_zero, List.set_cons_succ]
      refine WE.pure (d := some 51) rfl rfl (by rfl) (v := (.agg #[.bool g9, .slice A9 n9 c9])) (fun w' hk => ?_) ?_
      · have c0 := hk.cell (V8.out.cell (o := 0) (v := .bool g9) rfl); have c1 := hk.cell (V8.out.cell (o := 1) (v := .slice A9 n9 c9) rfl); go_simp
      simp only [Act.put, List.setIfInBounds_toArray, List.set_cons_zero, List.set_cons_succ]
      refine WE.call (d := some 52) rfl rfl (by rfl) (f := 11) (args := #[(.agg #[.bool g2, .slice A2 n2 c2]), (.agg #[.bool g9, .slice A9 n9 c9])]) (by go_simp) ?_
      refine (equal_z (IsZ.to Q2.out (rfl)) (IsZ.to Q9.out (M.gl_turned xs k))).mono ?_
      rintro e wn ⟨rfl, hb⟩
      refine ⟨_, rfl, hb, ?_⟩
      replace E := hid (E.out.trans hb)
      replace V6 := hid (V6.out.up hb)
      replace V7 := hid (V7.out.up hb)
      replace V8 := hid (V8.out.up hb)
      replace Q2 := hid (Q2.out.up hb)
      replace Q7 := hid (Q7.out.up hb)
      replace Q9 := hid (Q9.out.up hb)
      clear hb
      simp only [Act.put, List.setIfInBounds_toArray, List.set_cons_zero, List.set_cons_succ]
      refine WE.pure (d := some 53) rfl rfl (by rfl) (v := (.bool true)) (fun w' hk => ?_) ?_
      · go_simp
      simp only [Act.put, List.setIfInBounds_toArray, List.set_cons_zero, List.set_cons_succ]
      as_aux_lemma =>
        refine WE.pure (d := some 4) rfl rfl (by rfl) (v := (.bool true)) (fun w' hk => ?_) ?_
        · go_simp
        simp only [Act.put, List.setIfInBounds_toArray, List.set_cons_zero, List.set_cons_succ]
        refine WE.done ?_
        repeat go_step
        go_ret
        exact ⟨rfl, E.out⟩

end Go.Proofs.Ytljjijcmoafndaa
