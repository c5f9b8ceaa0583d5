/-
  GcdTells: whatever two integers, or what is none, and whatever list: true. No conditions.
-/
import Derived.Test.YtljjijcmoafndaaGKnown
import Derived.Deep.Slices
namespace Go.Proofs.Ytljjijcmoafndaa
open Go.ChangeShapes Go.WideShapes Go.ChangeAt Go.RowKit
set_option linter.unusedSimpArgs false
set_option linter.unusedVariables false

section
variable {H : Type} {enc : TypeId × Value → H} {W : World}
set_option maxRecDepth 100000 in
theorem open_ZL {r : Reach} {b0 : Nat} {v : Value} {d : DataW H} {ps : List MemPlace} (hval : Value.okWide Try.prog W r b0 25 v) (h : DataW.Trod enc Try.prog W 0 (fun _ => true) true 25 v d ps) :
    ∃ A n c ls, v = .slice A n c ∧ ZList W (.slice A n c) ls := by
  obtain ⟨a0, len, cap, rfl⟩ := okWide_slice Try.underlying25 hval
  obtain ⟨fuel, hf⟩ := h
  have hf' : DataW.trod enc Try.prog W 0 (fun _ => true) true fuel 25 [.slice a0 len cap] = some (d, ps) := hf
  rcases Go.Deep.open_slice Try.underlying25 hf' with ⟨hcs, _⟩ | ⟨a, len', cap', m, n, D, Pl, hcs, _, hl, hmx, hm, _, hx⟩
  · injection hcs with hcs
    injection hcs with e1 e2 e3
    subst e1 e2 e3
    exact ⟨none, 0, 0, [], rfl, ZList.nil _ _ (Nat.zero_le _) _⟩
  · injection hcs with hcs
    injection hcs with e1 e2 e3
    subst e1 e2 e3
    simp only [if_true] at hm
    subst hm
    rw [cells_Int] at hx
    have key : ∀ i, i < len → ∃ (x : Bool × List Nat), a.block < W.heap.size ∧ ZAt W a i x := by
      intro i hi
      obtain ⟨cs', h1, h2⟩ := hx i (by omega)
      obtain ⟨_, hlen, hc⟩ := World.cells?_some h1
      obtain ⟨y0, y1, n', _, _, h0, h1'⟩ := trod_struct2 Try.underlying24 h2
      match cs', hlen with
      | [v0, v1], _ =>
        have c0 : Try.prog.cellsOf 4 = 1 := by kernel_rfl
        have c1 : Try.prog.cellsOf 22 = 1 := by kernel_rfl
        simp only [List.drop_zero, c0, List.take_succ_cons, List.take_zero] at h0
        simp only [List.drop_succ_cons, List.drop_zero, c1, List.take_succ_cons, List.take_zero] at h1'
        obtain ⟨b, hb, _⟩ := DataW.trod_bool Try.underlying4 h0
        injection hb with hb
        subst hb
        obtain ⟨A', n1, c1', l, rfl, hn⟩ := open_row h1'
        have k0 := hc 0 (by omega)
        have k1 := hc 1 (by omega)
        have hbl := World.block_lt_of_cell? W _ k1
        rw [addr_block, addr_block] at hbl
        exact ⟨(b, l), hbl, A', n1, c1', k0, k1, hn⟩
    obtain ⟨f, hfx⟩ := Go.Deep.choose_lt (α := Bool × List Nat) (p := fun i x => a.block < W.heap.size ∧ ZAt W a i x) key
    refine ⟨some a, _, _, (List.range len).map f, rfl, some a, _, _, rfl, by simp, hl, hmx, fun k x hk => ?_⟩
    rw [List.getElem?_map] at hk
    obtain ⟨k', hk1, hk2⟩ := Option.map_eq_some_iff.1 hk
    obtain ⟨hk3, hk4⟩ := List.getElem?_eq_some_iff.1 hk1
    simp at hk3 hk4
    subst hk4 hk2
    exact ⟨a, rfl, (hfx k hk3).1, (hfx k hk3).2⟩
end
theorem few_take {ls : List (Bool × List Nat)} {k : Nat} {g : Bool} {l : List Nat} (h : ∀ x ∈ ls.take k, x.2.length ≤ 6) (hx : ls[k]? = some (g, l)) (hl : l.length ≤ 6) : ∀ x ∈ ls.take (k + 1), x.2.length ≤ 6 := by
  obtain ⟨hk, e⟩ := List.getElem?_eq_some_iff.1 hx
  intro x hm
  rw [List.take_succ_eq_append_getElem hk, List.mem_append] at hm
  rcases hm with hm | hm
  · exact h x hm
  · simp at hm; rw [hm, e]; exact hl
theorem M.gl_ref {ls : List (Bool × List Nat)} {k : Nat} {g : Bool} {l : List Nat} (h : ls[k]? = some (g, l)) : ((Int.gcd (M.gl (ls.take k) : Int) (M.zv g l) : Nat) : Int) = (M.gl (ls.take (k + 1)) : Int) := by
  rw [M.gl_take h, Nat.gcd_comm]
  show ((Nat.gcd (M.gl (ls.take k) : Int).natAbs (M.zv g l).natAbs : Nat) : Int) = _
  rw [Int.natAbs_natCast]

set_option maxRecDepth 100000 in
set_option maxHeartbeats 2000000 in
theorem gcdTells_skip0 (W : World) (ga : Bool) (Aa : Option Addr) (na ca : Nat) (la : List Nat) (ha : Num W W.heap.size (.slice Aa na ca) la) (gb : Bool) (Ab : Option Addr) (nb cb : Nat) (lb : List Nat) (hb : Num W W.heap.size (.slice Ab nb cb) lb) (A : Option Addr) (n c : Nat) (ls : List (Bool × List Nat)) (hZ : ZList W (.slice A n c) ls) (fa : Hid (decide (la.length ≤ 6) = false)) :
    Calls Try.prog 3 #[.agg #[.bool ga, .slice Aa na ca], .agg #[.bool gb, .slice Ab nb cb], .slice A n c] W (fun e w' => e = .returned (.bool true) ∧ Ext W w') := by
  have HZ := hid hZ
  have HC := hid hZ.count
  have hb9 : n ≤ 9223372036854775807 := hZ.count.2.2
  clear hZ
  have Na := hid ha
  have Nb := hid hb
  clear ha hb
  go_enter Try.func3, Try.ntmps3
  go_upto_region 1 with (fail)
  have E := hid (((Ext.refl W).alloc' (.cells #[.bool ga, .slice Aa na ca] 24)).alloc' (.cells #[.bool gb, .slice Ab nb cb] 24))
  have Ba : Hid (Box ((W.alloc (.cells #[.bool ga, .slice Aa na ca] 24)).alloc (.cells #[.bool gb, .slice Ab nb cb] 24)) (W.heap.size) #[.bool ga, .slice Aa na ca] 24) := hid ((Box.at_ (w := W) #[.bool ga, .slice Aa na ca] 24 (by simp)).alloc (.cells #[.bool gb, .slice Ab nb cb] 24))
  have Bb : Hid (Box ((W.alloc (.cells #[.bool ga, .slice Aa na ca] 24)).alloc (.cells #[.bool gb, .slice Ab nb cb] 24)) (W.heap.size + 1) #[.bool gb, .slice Ab nb cb] 24) := hid (Box.at_ (w := (W.alloc (.cells #[.bool ga, .slice Aa na ca] 24))) #[.bool gb, .slice Ab nb cb] 24 (by simp))
  replace Na := hid (Na.out.up E.out)
  replace Nb := hid (Nb.out.up E.out)
  go_upto_region 1 with (fail)
  refine wp_region_T [(0, 1), (1, 0)] (by kernel_rfl) fun wd hb => ?_
  replace E := hid (E.out.trans hb)
  replace Ba := hid (Ba.out.up hb)
  replace Bb := hid (Bb.out.up hb)
  replace Na := hid (Na.out.up hb)
  replace Nb := hid (Nb.out.up hb)
  clear hb
  refine WE.call (d := some 9) rfl rfl (by rfl) (f := 8) (args := #[]) (by go_simp) ?_
  refine (known4 _).mono ?_
  rintro e wn ⟨rfl, hb⟩
  refine ⟨_, rfl, hb, ?_⟩
  replace E := hid (E.out.trans hb)
  replace Ba := hid (Ba.out.up hb)
  replace Bb := hid (Bb.out.up hb)
  replace Na := hid (Na.out.up hb)
  replace Nb := hid (Nb.out.up hb)
  clear hb
  simp only [Act.put, List.setIfInBounds_toArray, List.set_cons_zero, List.set_cons_succ]
  refine WE.pure (d := some 10) rfl rfl (by rfl) (v := (.bool false)) (fun w' hk => ?_) ?_
  · go_simp
  simp only [Act.put, List.setIfInBounds_toArray, List.set_cons_zero, List.set_cons_succ]
  refine WE.done ?_
  go_upto_region 3 with (fail)
  refine wp_region_T [(0, 0), (1, 1), (2, 0), (3, 0), (4, 0), (5, 1), (6, 0), (7, 0), (8, 0), (9, 0), (10, 0), (11, 0), (12, 0)] (by kernel_rfl) fun wd hb => ?_
  replace E := hid (E.out.trans hb)
  replace Ba := hid (Ba.out.up hb)
  replace Bb := hid (Bb.out.up hb)
  replace Na := hid (Na.out.up hb)
  replace Nb := hid (Nb.out.up hb)
  clear hb
  refine WE.pure (d := some 11) rfl rfl (by rfl) (v := (.agg #[.bool ga, .slice Aa na ca])) (fun w' hk => ?_) ?_
  · have c0 := hk.cell (Ba.out.cell (o := 0) (v := .bool ga) rfl); have c1 := hk.cell (Ba.out.cell (o := 1) (v := .slice Aa na ca) rfl); go_simp
  simp only [Act.put, List.setIfInBounds_toArray, List.set_cons_zero, List.set_cons_succ]
  refine WE.call (d := some 12) rfl rfl (by rfl) (f := 9) (args := #[(.agg #[.bool ga, .slice Aa na ca])]) (by go_simp) ?_
  refine (few4_z Na.out fa.out).mono ?_
  rintro e wn ⟨rfl, hb⟩
  refine ⟨_, rfl, hb, ?_⟩
  replace E := hid (E.out.trans hb)
  replace Ba := hid (Ba.out.up hb)
  replace Bb := hid (Bb.out.up hb)
  replace Na := hid (Na.out.up hb)
  replace Nb := hid (Nb.out.up hb)
  clear hb
  simp only [Act.put, List.setIfInBounds_toArray, List.set_cons_zero, List.set_cons_succ]
  refine WE.pure (d := some 13) rfl rfl (by rfl) (v := (.bool true)) (fun w' hk => ?_) ?_
  · go_simp
  simp only [Act.put, List.setIfInBounds_toArray, List.set_cons_zero, List.set_cons_succ]
  refine WE.pure (d := some 14) rfl rfl (by rfl) (v := (.bool true)) (fun w' hk => ?_) ?_
  · go_simp
  simp only [Act.put, List.setIfInBounds_toArray, List.set_cons_zero, List.set_cons_succ]
  refine WE.skip (d := some 15) rfl rfl (by rfl) ?_
  simp only [Act.put, List.setIfInBounds_toArray, List.set_cons_zero, List.set_cons_succ]
  refine WE.pass (d := some 16) rfl rfl (by rfl) ?_
  simp only [Act.put, List.setIfInBounds_toArray, List.set_cons_zero, List.set_cons_succ]
  refine WE.skip (d := some 17) rfl rfl (by rfl) ?_
  simp only [Act.put, List.setIfInBounds_toArray, List.set_cons_zero, List.set_cons_succ]
  refine WE.pure (d := some 18) rfl rfl (by rfl) (v := (.bool true)) (fun w' hk => ?_) ?_
  · go_simp
  simp only [Act.put, List.setIfInBounds_toArray, List.set_cons_zero, List.set_cons_succ]
  refine WE.pure (d := some 19) rfl rfl (by rfl) (v := (.bool true)) (fun w' hk => ?_) ?_
  · go_simp
  simp only [Act.put, List.setIfInBounds_toArray, List.set_cons_zero, List.set_cons_succ]
  refine WE.skip (d := some 20) rfl rfl (by rfl) ?_
  simp only [Act.put, List.setIfInBounds_toArray, List.set_cons_zero, List.set_cons_succ]
  refine WE.skip (d := some 21) rfl rfl (by rfl) ?_
  simp only [Act.put, List.setIfInBounds_toArray, List.set_cons_zero, List.set_cons_succ]
  refine WE.skip (d := some 22) rfl rfl (by rfl) ?_
  simp only [Act.put, List.setIfInBounds_toArray, List.set_cons_zero, List.set_cons_succ]
  refine WE.pure (d := some 23) rfl rfl (by rfl) (v := (.bool true)) (fun w' hk => ?_) ?_
  · go_simp
  simp only [Act.put, List.setIfInBounds_toArray, List.set_cons_zero, List.set_cons_succ]
  refine WE.done ?_
  repeat go_step
  go_ret
  exact ⟨rfl, E.out⟩

set_option maxRecDepth 100000 in
set_option maxHeartbeats 2000000 in
theorem gcdTells_skip1 (W : World) (ga : Bool) (Aa : Option Addr) (na ca : Nat) (la : List Nat) (ha : Num W W.heap.size (.slice Aa na ca) la) (gb : Bool) (Ab : Option Addr) (nb cb : Nat) (lb : List Nat) (hb : Num W W.heap.size (.slice Ab nb cb) lb) (A : Option Addr) (n c : Nat) (ls : List (Bool × List Nat)) (hZ : ZList W (.slice A n c) ls) (fa : Hid (decide (la.length ≤ 6) = true)) (fb : Hid (decide (lb.length ≤ 6) = false)) :
    Calls Try.prog 3 #[.agg #[.bool ga, .slice Aa na ca], .agg #[.bool gb, .slice Ab nb cb], .slice A n c] W (fun e w' => e = .returned (.bool true) ∧ Ext W w') := by
  have HZ := hid hZ
  have HC := hid hZ.count
  have hb9 : n ≤ 9223372036854775807 := hZ.count.2.2
  clear hZ
  have Na := hid ha
  have Nb := hid hb
  clear ha hb
  go_enter Try.func3, Try.ntmps3
  go_upto_region 1 with (fail)
  have E := hid (((Ext.refl W).alloc' (.cells #[.bool ga, .slice Aa na ca] 24)).alloc' (.cells #[.bool gb, .slice Ab nb cb] 24))
  have Ba : Hid (Box ((W.alloc (.cells #[.bool ga, .slice Aa na ca] 24)).alloc (.cells #[.bool gb, .slice Ab nb cb] 24)) (W.heap.size) #[.bool ga, .slice Aa na ca] 24) := hid ((Box.at_ (w := W) #[.bool ga, .slice Aa na ca] 24 (by simp)).alloc (.cells #[.bool gb, .slice Ab nb cb] 24))
  have Bb : Hid (Box ((W.alloc (.cells #[.bool ga, .slice Aa na ca] 24)).alloc (.cells #[.bool gb, .slice Ab nb cb] 24)) (W.heap.size + 1) #[.bool gb, .slice Ab nb cb] 24) := hid (Box.at_ (w := (W.alloc (.cells #[.bool ga, .slice Aa na ca] 24))) #[.bool gb, .slice Ab nb cb] 24 (by simp))
  replace Na := hid (Na.out.up E.out)
  replace Nb := hid (Nb.out.up E.out)
  go_upto_region 1 with (fail)
  refine wp_region_T [(0, 1), (1, 0)] (by kernel_rfl) fun wd hb => ?_
  replace E := hid (E.out.trans hb)
  replace Ba := hid (Ba.out.up hb)
  replace Bb := hid (Bb.out.up hb)
  replace Na := hid (Na.out.up hb)
  replace Nb := hid (Nb.out.up hb)
  clear hb
  refine WE.call (d := some 9) rfl rfl (by rfl) (f := 8) (args := #[]) (by go_simp) ?_
  refine (known4 _).mono ?_
  rintro e wn ⟨rfl, hb⟩
  refine ⟨_, rfl, hb, ?_⟩
  replace E := hid (E.out.trans hb)
  replace Ba := hid (Ba.out.up hb)
  replace Bb := hid (Bb.out.up hb)
  replace Na := hid (Na.out.up hb)
  replace Nb := hid (Nb.out.up hb)
  clear hb
  simp only [Act.put, List.setIfInBounds_toArray, List.set_cons_zero, List.set_cons_succ]
  refine WE.pure (d := some 10) rfl rfl (by rfl) (v := (.bool false)) (fun w' hk => ?_) ?_
  · go_simp
  simp only [Act.put, List.setIfInBounds_toArray, List.set_cons_zero, List.set_cons_succ]
  refine WE.done ?_
  go_upto_region 3 with (fail)
  refine wp_region_T [(0, 0), (1, 1), (2, 0), (3, 0), (4, 0), (5, 1), (6, 0), (7, 0), (8, 0), (9, 0), (10, 0), (11, 0), (12, 0)] (by kernel_rfl) fun wd hb => ?_
  replace E := hid (E.out.trans hb)
  replace Ba := hid (Ba.out.up hb)
  replace Bb := hid (Bb.out.up hb)
  replace Na := hid (Na.out.up hb)
  replace Nb := hid (Nb.out.up hb)
  clear hb
  refine WE.pure (d := some 11) rfl rfl (by rfl) (v := (.agg #[.bool ga, .slice Aa na ca])) (fun w' hk => ?_) ?_
  · have c0 := hk.cell (Ba.out.cell (o := 0) (v := .bool ga) rfl); have c1 := hk.cell (Ba.out.cell (o := 1) (v := .slice Aa na ca) rfl); go_simp
  simp only [Act.put, List.setIfInBounds_toArray, List.set_cons_zero, List.set_cons_succ]
  refine WE.call (d := some 12) rfl rfl (by rfl) (f := 9) (args := #[(.agg #[.bool ga, .slice Aa na ca])]) (by go_simp) ?_
  refine (few4_z Na.out fa.out).mono ?_
  rintro e wn ⟨rfl, hb⟩
  refine ⟨_, rfl, hb, ?_⟩
  replace E := hid (E.out.trans hb)
  replace Ba := hid (Ba.out.up hb)
  replace Bb := hid (Bb.out.up hb)
  replace Na := hid (Na.out.up hb)
  replace Nb := hid (Nb.out.up hb)
  clear hb
  simp only [Act.put, List.setIfInBounds_toArray, List.set_cons_zero, List.set_cons_succ]
  refine WE.pure (d := some 13) rfl rfl (by rfl) (v := (.bool false)) (fun w' hk => ?_) ?_
  · go_simp
  simp only [Act.put, List.setIfInBounds_toArray, List.set_cons_zero, List.set_cons_succ]
  refine WE.pure (d := some 14) rfl rfl (by rfl) (v := (.bool false)) (fun w' hk => ?_) ?_
  · go_simp
  simp only [Act.put, List.setIfInBounds_toArray, List.set_cons_zero, List.set_cons_succ]
  refine WE.pure (d := some 15) rfl rfl (by rfl) (v := (.agg #[.bool gb, .slice Ab nb cb])) (fun w' hk => ?_) ?_
  · have c0 := hk.cell (Bb.out.cell (o := 0) (v := .bool gb) rfl); have c1 := hk.cell (Bb.out.cell (o := 1) (v := .slice Ab nb cb) rfl); go_simp
  simp only [Act.put, List.setIfInBounds_toArray, List.set_cons_zero, List.set_cons_succ]
  refine WE.call (d := some 16) rfl rfl (by rfl) (f := 9) (args := #[(.agg #[.bool gb, .slice Ab nb cb])]) (by go_simp) ?_
  refine (few4_z Nb.out fb.out).mono ?_
  rintro e wn ⟨rfl, hb⟩
  refine ⟨_, rfl, hb, ?_⟩
  replace E := hid (E.out.trans hb)
  replace Ba := hid (Ba.out.up hb)
  replace Bb := hid (Bb.out.up hb)
  replace Na := hid (Na.out.up hb)
  replace Nb := hid (Nb.out.up hb)
  clear hb
  simp only [Act.put, List.setIfInBounds_toArray, List.set_cons_zero, List.set_cons_succ]
  refine WE.pure (d := some 17) rfl rfl (by rfl) (v := (.bool true)) (fun w' hk => ?_) ?_
  · go_simp
  simp only [Act.put, List.setIfInBounds_toArray, List.set_cons_zero, List.set_cons_succ]
  refine WE.pure (d := some 18) rfl rfl (by rfl) (v := (.bool true)) (fun w' hk => ?_) ?_
  · go_simp
  simp only [Act.put, List.setIfInBounds_toArray, List.set_cons_zero, List.set_cons_succ]
  refine WE.pure (d := some 19) rfl rfl (by rfl) (v := (.bool true)) (fun w' hk => ?_) ?_
  · go_simp
  simp only [Act.put, List.setIfInBounds_toArray, List.set_cons_zero, List.set_cons_succ]
  refine WE.skip (d := some 20) rfl rfl (by rfl) ?_
  simp only [Act.put, List.setIfInBounds_toArray, List.set_cons_zero, List.set_cons_succ]
  refine WE.skip (d := some 21) rfl rfl (by rfl) ?_
  simp only [Act.put, List.setIfInBounds_toArray, List.set_cons_zero, List.set_cons_succ]
  refine WE.skip (d := some 22) rfl rfl (by rfl) ?_
  simp only [Act.put, List.setIfInBounds_toArray, List.set_cons_zero, List.set_cons_succ]
  refine WE.pure (d := some 23) rfl rfl (by rfl) (v := (.bool true)) (fun w' hk => ?_) ?_
  · go_simp
  simp only [Act.put, List.setIfInBounds_toArray, List.set_cons_zero, List.set_cons_succ]
  refine WE.done ?_
  repeat go_step
  go_ret
  exact ⟨rfl, E.out⟩

set_option maxRecDepth 100000 in
set_option maxHeartbeats 2000000 in
theorem gcdTells_skip2 (W : World) (ga : Bool) (Aa : Option Addr) (na ca : Nat) (la : List Nat) (ha : Num W W.heap.size (.slice Aa na ca) la) (gb : Bool) (Ab : Option Addr) (nb cb : Nat) (lb : List Nat) (hb : Num W W.heap.size (.slice Ab nb cb) lb) (A : Option Addr) (n c : Nat) (ls : List (Bool × List Nat)) (hZ : ZList W (.slice A n c) ls) (fa : Hid (decide (la.length ≤ 6) = true)) (fb : Hid (decide (lb.length ≤ 6) = true)) (fl : Hid (decide ((10 : Int) < (n : Int)) = true)) :
    Calls Try.prog 3 #[.agg #[.bool ga, .slice Aa na ca], .agg #[.bool gb, .slice Ab nb cb], .slice A n c] W (fun e w' => e = .returned (.bool true) ∧ Ext W w') := by
  have HZ := hid hZ
  have HC := hid hZ.count
  have hb9 : n ≤ 9223372036854775807 := hZ.count.2.2
  clear hZ
  have Na := hid ha
  have Nb := hid hb
  clear ha hb
  go_enter Try.func3, Try.ntmps3
  go_upto_region 1 with (fail)
  have E := hid (((Ext.refl W).alloc' (.cells #[.bool ga, .slice Aa na ca] 24)).alloc' (.cells #[.bool gb, .slice Ab nb cb] 24))
  have Ba : Hid (Box ((W.alloc (.cells #[.bool ga, .slice Aa na ca] 24)).alloc (.cells #[.bool gb, .slice Ab nb cb] 24)) (W.heap.size) #[.bool ga, .slice Aa na ca] 24) := hid ((Box.at_ (w := W) #[.bool ga, .slice Aa na ca] 24 (by simp)).alloc (.cells #[.bool gb, .slice Ab nb cb] 24))
  have Bb : Hid (Box ((W.alloc (.cells #[.bool ga, .slice Aa na ca] 24)).alloc (.cells #[.bool gb, .slice Ab nb cb] 24)) (W.heap.size + 1) #[.bool gb, .slice Ab nb cb] 24) := hid (Box.at_ (w := (W.alloc (.cells #[.bool ga, .slice Aa na ca] 24))) #[.bool gb, .slice Ab nb cb] 24 (by simp))
  replace Na := hid (Na.out.up E.out)
  replace Nb := hid (Nb.out.up E.out)
  go_upto_region 1 with (fail)
  refine wp_region_T [(0, 1), (1, 0)] (by kernel_rfl) fun wd hb => ?_
  replace E := hid (E.out.trans hb)
  replace Ba := hid (Ba.out.up hb)
  replace Bb := hid (Bb.out.up hb)
  replace Na := hid (Na.out.up hb)
  replace Nb := hid (Nb.out.up hb)
  clear hb
  refine WE.call (d := some 9) rfl rfl (by rfl) (f := 8) (args := #[]) (by go_simp) ?_
  refine (known4 _).mono ?_
  rintro e wn ⟨rfl, hb⟩
  refine ⟨_, rfl, hb, ?_⟩
  replace E := hid (E.out.trans hb)
  replace Ba := hid (Ba.out.up hb)
  replace Bb := hid (Bb.out.up hb)
  replace Na := hid (Na.out.up hb)
  replace Nb := hid (Nb.out.up hb)
  clear hb
  simp only [Act.put, List.setIfInBounds_toArray, List.set_cons_zero, List.set_cons_succ]
  refine WE.pure (d := some 10) rfl rfl (by rfl) (v := (.bool false)) (fun w' hk => ?_) ?_
  · go_simp
  simp only [Act.put, List.setIfInBounds_toArray, List.set_cons_zero, List.set_cons_succ]
  refine WE.done ?_
  go_upto_region 3 with (fail)
  refine wp_region_T [(0, 0), (1, 1), (2, 0), (3, 0), (4, 0), (5, 1), (6, 0), (7, 0), (8, 0), (9, 0), (10, 0), (11, 0), (12, 0)] (by kernel_rfl) fun wd hb => ?_
  replace E := hid (E.out.trans hb)
  replace Ba := hid (Ba.out.up hb)
  replace Bb := hid (Bb.out.up hb)
  replace Na := hid (Na.out.up hb)
  replace Nb := hid (Nb.out.up hb)
  clear hb
  refine WE.pure (d := some 11) rfl rfl (by rfl) (v := (.agg #[.bool ga, .slice Aa na ca])) (fun w' hk => ?_) ?_
  · have c0 := hk.cell (Ba.out.cell (o := 0) (v := .bool ga) rfl); have c1 := hk.cell (Ba.out.cell (o := 1) (v := .slice Aa na ca) rfl); go_simp
  simp only [Act.put, List.setIfInBounds_toArray, List.set_cons_zero, List.set_cons_succ]
  refine WE.call (d := some 12) rfl rfl (by rfl) (f := 9) (args := #[(.agg #[.bool ga, .slice Aa na ca])]) (by go_simp) ?_
  refine (few4_z Na.out fa.out).mono ?_
  rintro e wn ⟨rfl, hb⟩
  refine ⟨_, rfl, hb, ?_⟩
  replace E := hid (E.out.trans hb)
  replace Ba := hid (Ba.out.up hb)
  replace Bb := hid (Bb.out.up hb)
  replace Na := hid (Na.out.up hb)
  replace Nb := hid (Nb.out.up hb)
  clear hb
  simp only [Act.put, List.setIfInBounds_toArray, List.set_cons_zero, List.set_cons_succ]
  refine WE.pure (d := some 13) rfl rfl (by rfl) (v := (.bool false)) (fun w' hk => ?_) ?_
  · go_simp
  simp only [Act.put, List.setIfInBounds_toArray, List.set_cons_zero, List.set_cons_succ]
  refine WE.pure (d := some 14) rfl rfl (by rfl) (v := (.bool false)) (fun w' hk => ?_) ?_
  · go_simp
  simp only [Act.put, List.setIfInBounds_toArray, List.set_cons_zero, List.set_cons_succ]
  refine WE.pure (d := some 15) rfl rfl (by rfl) (v := (.agg #[.bool gb, .slice Ab nb cb])) (fun w' hk => ?_) ?_
  · have c0 := hk.cell (Bb.out.cell (o := 0) (v := .bool gb) rfl); have c1 := hk.cell (Bb.out.cell (o := 1) (v := .slice Ab nb cb) rfl); go_simp
  simp only [Act.put, List.setIfInBounds_toArray, List.set_cons_zero, List.set_cons_succ]
  refine WE.call (d := some 16) rfl rfl (by rfl) (f := 9) (args := #[(.agg #[.bool gb, .slice Ab nb cb])]) (by go_simp) ?_
  refine (few4_z Nb.out fb.out).mono ?_
  rintro e wn ⟨rfl, hb⟩
  refine ⟨_, rfl, hb, ?_⟩
  replace E := hid (E.out.trans hb)
  replace Ba := hid (Ba.out.up hb)
  replace Bb := hid (Bb.out.up hb)
  replace Na := hid (Na.out.up hb)
  replace Nb := hid (Nb.out.up hb)
  clear hb
  simp only [Act.put, List.setIfInBounds_toArray, List.set_cons_zero, List.set_cons_succ]
  refine WE.pure (d := some 17) rfl rfl (by rfl) (v := (.bool false)) (fun w' hk => ?_) ?_
  · go_simp
  simp only [Act.put, List.setIfInBounds_toArray, List.set_cons_zero, List.set_cons_succ]
  refine WE.pure (d := some 18) rfl rfl (by rfl) (v := (.bool false)) (fun w' hk => ?_) ?_
  · go_simp
  simp only [Act.put, List.setIfInBounds_toArray, List.set_cons_zero, List.set_cons_succ]
  refine WE.pure (d := some 19) rfl rfl (by rfl) (v := (.bool false)) (fun w' hk => ?_) ?_
  · go_simp
  simp only [Act.put, List.setIfInBounds_toArray, List.set_cons_zero, List.set_cons_succ]
  refine WE.pure (d := some 20) rfl rfl (by rfl) (v := (.slice A n c)) (fun w' hk => ?_) ?_
  · go_simp
  simp only [Act.put, List.setIfInBounds_toArray, List.set_cons_zero, List.set_cons_succ]
  refine WE.pure (d := some 21) rfl rfl (by rfl) (v := (.int .i64 (n : Int))) (fun w' hk => ?_) ?_
  · go_simp
  simp only [Act.put, List.setIfInBounds_toArray, List.set_cons_zero, List.set_cons_succ]
  refine WE.pure (d := some 22) rfl rfl (by rfl) (v := (.bool true)) (fun w' hk => ?_) ?_
  · have hfl := fl.out; go_simp
  simp only [Act.put, List.setIfInBounds_toArray, List.set_cons_zero, List.set_cons_succ]
  refine WE.pure (d := some 23) rfl rfl (by rfl) (v := (.bool true)) (fun w' hk => ?_) ?_
  · go_simp
  simp only [Act.put, List.setIfInBounds_toArray, List.set_cons_zero, List.set_cons_succ]
  refine WE.done ?_
  repeat go_step
  go_ret
  exact ⟨rfl, E.out⟩

set_option maxRecDepth 100000 in
set_option maxHeartbeats 8000000 in
theorem gcdTells_main (W : World) (ga : Bool) (Aa : Option Addr) (na ca : Nat) (la : List Nat) (ha : Num W W.heap.size (.slice Aa na ca) la) (gb : Bool) (Ab : Option Addr) (nb cb : Nat) (lb : List Nat) (hb : Num W W.heap.size (.slice Ab nb cb) lb) (A : Option Addr) (n c : Nat) (ls : List (Bool × List Nat)) (hZ : ZList W (.slice A n c) ls) (fa : Hid (decide (la.length ≤ 6) = true)) (fb : Hid (decide (lb.length ≤ 6) = true)) (fl : Hid (decide ((10 : Int) < (n : Int)) = false)) (x : Int) (HX : Hid (x = M.zv ga la)) (y : Int) (HY : Hid (y = M.zv gb lb)) :
    Calls Try.prog 3 #[.agg #[.bool ga, .slice Aa na ca], .agg #[.bool gb, .slice Ab nb cb], .slice A n c] W (fun e w' => e = .returned (.bool true) ∧ Ext W w') := by
  have HZ := hid hZ
  have HC := hid hZ.count
  have hb9 : n ≤ 9223372036854775807 := hZ.count.2.2
  clear hZ
  have Na := hid ha
  have Nb := hid hb
  have Ra := hid (worth_of ha (of_decide_eq_true fa.out) HX.out)
  have Rb := hid (worth_of hb (of_decide_eq_true fb.out) HY.out)
  clear ha hb
  go_enter Try.func3, Try.ntmps3
  go_upto_region 1 with (fail)
  have E := hid (((Ext.refl W).alloc' (.cells #[.bool ga, .slice Aa na ca] 24)).alloc' (.cells #[.bool gb, .slice Ab nb cb] 24))
  have Ba : Hid (Box ((W.alloc (.cells #[.bool ga, .slice Aa na ca] 24)).alloc (.cells #[.bool gb, .slice Ab nb cb] 24)) (W.heap.size) #[.bool ga, .slice Aa na ca] 24) := hid ((Box.at_ (w := W) #[.bool ga, .slice Aa na ca] 24 (by simp)).alloc (.cells #[.bool gb, .slice Ab nb cb] 24))
  have Bb : Hid (Box ((W.alloc (.cells #[.bool ga, .slice Aa na ca] 24)).alloc (.cells #[.bool gb, .slice Ab nb cb] 24)) (W.heap.size + 1) #[.bool gb, .slice Ab nb cb] 24) := hid (Box.at_ (w := (W.alloc (.cells #[.bool ga, .slice Aa na ca] 24))) #[.bool gb, .slice Ab nb cb] 24 (by simp))
  replace Na := hid (Na.out.up E.out)
  replace Nb := hid (Nb.out.up E.out)
  replace Ra := hid (Ra.out.up E.out)
  replace Rb := hid (Rb.out.up E.out)
  go_upto_region 1 with (fail)
  refine wp_region_T [(0, 1), (1, 0)] (by kernel_rfl) fun wd hb => ?_
  replace E := hid (E.out.trans hb)
  replace Ba := hid (Ba.out.up hb)
  replace Bb := hid (Bb.out.up hb)
  replace Na := hid (Na.out.up hb)
  replace Nb := hid (Nb.out.up hb)
  replace Ra := hid (Ra.out.up hb)
  replace Rb := hid (Rb.out.up hb)
  clear hb
  refine WE.call (d := some 9) rfl rfl (by rfl) (f := 8) (args := #[]) (by go_simp) ?_
  refine (known4 _).mono ?_
  rintro e wn ⟨rfl, hb⟩
  refine ⟨_, rfl, hb, ?_⟩
  replace E := hid (E.out.trans hb)
  replace Ba := hid (Ba.out.up hb)
  replace Bb := hid (Bb.out.up hb)
  replace Na := hid (Na.out.up hb)
  replace Nb := hid (Nb.out.up hb)
  replace Ra := hid (Ra.out.up hb)
  replace Rb := hid (Rb.out.up hb)
  clear hb
  simp only [Act.put, List.setIfInBounds_toArray, List.set_cons_zero, List.set_cons_succ]
  refine WE.pure (d := some 10) rfl rfl (by rfl) (v := (.bool false)) (fun w' hk => ?_) ?_
  · go_simp
  simp only [Act.put, List.setIfInBounds_toArray, List.set_cons_zero, List.set_cons_succ]
  refine WE.done ?_
  go_upto_region 3 with (fail)
  refine wp_region_T [(0, 0), (1, 1), (2, 0), (3, 0), (4, 0), (5, 1), (6, 0), (7, 0), (8, 0), (9, 0), (10, 0), (11, 0), (12, 0)] (by kernel_rfl) fun wd hb => ?_
  replace E := hid (E.out.trans hb)
  replace Ba := hid (Ba.out.up hb)
  replace Bb := hid (Bb.out.up hb)
  replace Na := hid (Na.out.up hb)
  replace Nb := hid (Nb.out.up hb)
  replace Ra := hid (Ra.out.up hb)
  replace Rb := hid (Rb.out.up hb)
  clear hb
  refine WE.pure (d := some 11) rfl rfl (by rfl) (v := (.agg #[.bool ga, .slice Aa na ca])) (fun w' hk => ?_) ?_
  · have c0 := hk.cell (Ba.out.cell (o := 0) (v := .bool ga) rfl); have c1 := hk.cell (Ba.out.cell (o := 1) (v := .slice Aa na ca) rfl); go_simp
  simp only [Act.put, List.setIfInBounds_toArray, List.set_cons_zero, List.set_cons_succ]
  refine WE.call (d := some 12) rfl rfl (by rfl) (f := 9) (args := #[(.agg #[.bool ga, .slice Aa na ca])]) (by go_simp) ?_
  refine (few4_z Na.out fa.out).mono ?_
  rintro e wn ⟨rfl, hb⟩
  refine ⟨_, rfl, hb, ?_⟩
  replace E := hid (E.out.trans hb)
  replace Ba := hid (Ba.out.up hb)
  replace Bb := hid (Bb.out.up hb)
  replace Na := hid (Na.out.up hb)
  replace Nb := hid (Nb.out.up hb)
  replace Ra := hid (Ra.out.up hb)
  replace Rb := hid (Rb.out.up hb)
  clear hb
  simp only [Act.put, List.setIfInBounds_toArray, List.set_cons_zero, List.set_cons_succ]
  refine WE.pure (d := some 13) rfl rfl (by rfl) (v := (.bool false)) (fun w' hk => ?_) ?_
  · go_simp
  simp only [Act.put, List.setIfInBounds_toArray, List.set_cons_zero, List.set_cons_succ]
  refine WE.pure (d := some 14) rfl rfl (by rfl) (v := (.bool false)) (fun w' hk => ?_) ?_
  · go_simp
  simp only [Act.put, List.setIfInBounds_toArray, List.set_cons_zero, List.set_cons_succ]
  refine WE.pure (d := some 15) rfl rfl (by rfl) (v := (.agg #[.bool gb, .slice Ab nb cb])) (fun w' hk => ?_) ?_
  · have c0 := hk.cell (Bb.out.cell (o := 0) (v := .bool gb) rfl); have c1 := hk.cell (Bb.out.cell (o := 1) (v := .slice Ab nb cb) rfl); go_simp
  simp only [Act.put, List.setIfInBounds_toArray, List.set_cons_zero, List.set_cons_succ]
  refine WE.call (d := some 16) rfl rfl (by rfl) (f := 9) (args := #[(.agg #[.bool gb, .slice Ab nb cb])]) (by go_simp) ?_
  refine (few4_z Nb.out fb.out).mono ?_
  rintro e wn ⟨rfl, hb⟩
  refine ⟨_, rfl, hb, ?_⟩
  replace E := hid (E.out.trans hb)
  replace Ba := hid (Ba.out.up hb)
  replace Bb := hid (Bb.out.up hb)
  replace Na := hid (Na.out.up hb)
  replace Nb := hid (Nb.out.up hb)
  replace Ra := hid (Ra.out.up hb)
  replace Rb := hid (Rb.out.up hb)
  clear hb
  simp only [Act.put, List.setIfInBounds_toArray, List.set_cons_zero, List.set_cons_succ]
  refine WE.pure (d := some 17) rfl rfl (by rfl) (v := (.bool false)) (fun w' hk => ?_) ?_
  · go_simp
  simp only [Act.put, List.setIfInBounds_toArray, List.set_cons_zero, List.set_cons_succ]
  refine WE.pure (d := some 18) rfl rfl (by rfl) (v := (.bool false)) (fun w' hk => ?_) ?_
  · go_simp
  simp only [Act.put, List.setIfInBounds_toArray, List.set_cons_zero, List.set_cons_succ]
  refine WE.pure (d := some 19) rfl rfl (by rfl) (v := (.bool false)) (fun w' hk => ?_) ?_
  · go_simp
  simp only [Act.put, List.setIfInBounds_toArray, List.set_cons_zero, List.set_cons_succ]
  refine WE.pure (d := some 20) rfl rfl (by rfl) (v := (.slice A n c)) (fun w' hk => ?_) ?_
  · go_simp
  simp only [Act.put, List.setIfInBounds_toArray, List.set_cons_zero, List.set_cons_succ]
  refine WE.pure (d := some 21) rfl rfl (by rfl) (v := (.int .i64 (n : Int))) (fun w' hk => ?_) ?_
  · go_simp
  simp only [Act.put, List.setIfInBounds_toArray, List.set_cons_zero, List.set_cons_succ]
  refine WE.pure (d := some 22) rfl rfl (by rfl) (v := (.bool false)) (fun w' hk => ?_) ?_
  · have hfl := fl.out; go_simp
  simp only [Act.put, List.setIfInBounds_toArray, List.set_cons_zero, List.set_cons_succ]
  refine WE.pure (d := some 23) rfl rfl (by rfl) (v := (.bool false)) (fun w' hk => ?_) ?_
  · go_simp
  simp only [Act.put, List.setIfInBounds_toArray, List.set_cons_zero, List.set_cons_succ]
  refine WE.done ?_
  go_upto_region 5 with (fail)
  refine wp_region_T [(0, 0), (1, 1), (2, 4)] (by kernel_rfl) fun wd hb => ?_
  replace E := hid (E.out.trans hb)
  replace Ba := hid (Ba.out.up hb)
  replace Bb := hid (Bb.out.up hb)
  replace Na := hid (Na.out.up hb)
  replace Nb := hid (Nb.out.up hb)
  replace Ra := hid (Ra.out.up hb)
  replace Rb := hid (Rb.out.up hb)
  clear hb
  refine WE.pure (d := some 24) rfl rfl (by rfl) (v := (.agg #[.bool false, .slice none 0 0])) (fun w' hk => ?_) ?_
  · go_simp
  simp only [Act.put, List.setIfInBounds_toArray, List.set_cons_zero, List.set_cons_succ]
  refine WE.new (d := some 7) (cs := #[.bool false, .slice none 0 0]) (t := 24) (v := fun g => (.pointer (some ⟨g, 0, none⟩))) rfl rfl (by rfl) (fun w => by go_simp) fun gV7 wv hx0 hbox hge => ?_
  have HNV7Ba := hid (show gV7 ≠ (W.heap.size) by have := Ba.out.lt; omega)
  have HNV7Bb := hid (show gV7 ≠ (W.heap.size + 1) by have := Bb.out.lt; omega)
  have HGV7 := hid (show W.heap.size ≤ gV7 by have := E.out.size; omega)
  replace E := hid (E.out.trans hx0)
  replace Ba := hid (Ba.out.up hx0)
  replace Bb := hid (Bb.out.up hx0)
  replace Na := hid (Na.out.up hx0)
  replace Nb := hid (Nb.out.up hx0)
  replace Ra := hid (Ra.out.up hx0)
  replace Rb := hid (Rb.out.up hx0)
  have V7 : Hid (Box wv gV7 #[.bool false, .slice none 0 0] 24) := hid hbox
  clear hx0 hbox hge
  simp only [Act.put, List.setIfInBounds_toArray, List.set_cons_zero, List.set_cons_succ]
  refine WE.store2 (g := gV7) (x := .bool false) (y := .slice none 0 0) (t := 24) rfl rfl (by rfl) (fun w hb => ?_) V7.out (by rfl) fun ws hk hs => ?_
  · have c0 := hb.cell (o := 0) (v := .bool false) rfl; have f0 := hb.free 0; have c1 := hb.cell (o := 1) (v := .slice none 0 0) rfl; have f1 := hb.free 1; go_simp
  intro hbx
  replace E := hid (E.out.keptG hk HGV7.out)
  replace Ba := hid (Ba.out.kept hk (by simpa using HNV7Ba.out.symm))
  replace Bb := hid (Bb.out.kept hk (by simpa using HNV7Bb.out.symm))
  replace V7 := hid hbx
  replace Na := hid (Na.out.kz hs)
  replace Nb := hid (Nb.out.kz hs)
  replace Ra := hid (Ra.out.kz hs)
  replace Rb := hid (Rb.out.kz hs)
  clear hk hs hbx
  refine WE.done ?_
  have QN : Hid (IsZ ws (.agg #[.bool false, .slice none 0 0]) 0 20) := hid (IsZ.nought_.wide (Nat.zero_le _))
  go_wp2
  go_loopw [8] (fun i wr => ∃ (k : Nat) (g7 : Bool) (A7 : Option Addr) (n7 c7 : Nat), k ≤ n ∧ i = .int .i64 (k : Int) ∧ Hid (∀ x ∈ ls.take k, x.2.length ≤ 6) ∧ Hid (Ext W wr) ∧ Hid (Box wr (W.heap.size) #[.bool ga, .slice Aa na ca] 24) ∧ Hid (Box wr (W.heap.size + 1) #[.bool gb, .slice Ab nb cb] 24) ∧ Hid (Box wr gV7 #[.bool g7, .slice A7 n7 c7] 24) ∧
    Hid (Num wr wr.heap.size (.slice Aa na ca) la) ∧ Hid (Num wr wr.heap.size (.slice Ab nb cb) lb) ∧ Hid (Worth wr (.agg #[.bool ga, .slice Aa na ca]) x 6) ∧ Hid (Worth wr (.agg #[.bool gb, .slice Ab nb cb]) y 6) ∧ Hid (IsZ wr (.agg #[.bool g7, .slice A7 n7 c7]) (M.gl (ls.take k) : Int) 20)) (fun i _ => n - (intOf i).toNat)
  case atStart => exact ⟨0, _, _, _, _, Nat.zero_le _, rfl, hid (by intro x hx; simp at hx), E, Ba, Bb, V7, Na, Nb, Ra, Rb, QN⟩
  case round =>
    clear E Ba Bb V7 Na Nb Ra Rb QN
    obtain ⟨k, g7, A7, n7, c7, hk, rfl, HFW, E, Ba, Bb, V7, Na, Nb, Ra, Rb, QG⟩ := hrel
    by_cases hlt : k < n
    · have hlt' : decide ((k : Int) < (n : Int)) = true := decide_eq_true (by omega)
      obtain ⟨x0, hx0⟩ : ∃ x0, ls[k]? = some x0 := ⟨_, List.getElem?_eq_getElem (by rw [← HC.out.1]; exact hlt)⟩
      obtain ⟨ad, A3, n3, c3, rfl, k0, k1, hm⟩ := (HZ.out.up E.out).get hx0
      obtain ⟨gx, lx⟩ := x0
      have HX := hid hx0
      have KA : Hid (CellAt wr (ad.add (k * 2)) (.bool gx)) := hid k0
      have KB : Hid (CellAt wr ((ad.add (k * 2)).add 1) (.slice A3 n3 c3)) := hid k1
      have NX : Hid (Num wr wr.heap.size (.slice A3 n3 c3) lx) := hid hm
      clear hx0 k0 k1 hm
      cases hfx : decide (lx.length ≤ 6) with
      | false =>
        have HFX := hid hfx
        clear hfx
        go_upto_region 9 with (fail)
        refine wp_region_T [(0, 0), (1, 0), (2, 0), (3, 0), (4, 1), (5, 0)] (by kernel_rfl) fun wd hb => ?_
        replace E := hid (E.out.trans hb)
        replace Ba := hid (Ba.out.up hb)
        replace Bb := hid (Bb.out.up hb)
        replace V7 := hid (V7.out.up hb)
        replace Na := hid (Na.out.up hb)
        replace Nb := hid (Nb.out.up hb)
        replace Ra := hid (Ra.out.up hb)
        replace Rb := hid (Rb.out.up hb)
        replace QG := hid (QG.out.up hb)
        replace KA := hid (KA.out.up hb)
        replace KB := hid (KB.out.up hb)
        replace NX := hid (NX.out.up hb)
        clear hb
        refine WE.pure (d := some 31) rfl rfl (by rfl) (v := (.slice (some ad) n c)) (fun w' hk => ?_) ?_
        · go_simp
        simp only [Act.put, List.setIfInBounds_toArray, List.set_cons_zero, List.set_cons_succ]
        refine WE.pure (d := some 32) rfl rfl (by rfl) (v := (.int .i64 (k : Int))) (fun w' hk => ?_) ?_
        · go_simp
        simp only [Act.put, List.setIfInBounds_toArray, List.set_cons_zero, List.set_cons_succ]
        refine WE.pure (d := some 33) rfl rfl (by rfl) (v := ((.pointer (some (ad.add (k * 2)))))) (fun w' hk => ?_) ?_
        · go_simp
        simp only [Act.put, List.setIfInBounds_toArray, List.set_cons_zero, List.set_cons_succ]
        refine WE.pure (d := some 34) rfl rfl (by rfl) (v := (.agg #[.bool gx, .slice A3 n3 c3])) (fun w' hk => ?_) ?_
        · have c0 : w'.cell? (ad.add (k * 2)) = some (.bool gx) := KA.out.up hk; have c1 : w'.cell? ⟨(ad.add (k * 2)).block, (ad.add (k * 2)).off + 1, none⟩ = some (.slice A3 n3 c3) := KB.out.up hk; go_simp
        simp only [Act.put, List.setIfInBounds_toArray, List.set_cons_zero, List.set_cons_succ]
        refine WE.call (d := some 35) rfl rfl (by rfl) (f := 9) (args := #[(.agg #[.bool gx, .slice A3 n3 c3])]) (by go_simp) ?_
        refine (few4_z NX.out HFX.out).mono ?_
        rintro e wn ⟨rfl, hb⟩
        refine ⟨_, rfl, hb, ?_⟩
        replace E := hid (E.out.trans hb)
        replace Ba := hid (Ba.out.up hb)
        replace Bb := hid (Bb.out.up hb)
        replace V7 := hid (V7.out.up hb)
        replace Na := hid (Na.out.up hb)
        replace Nb := hid (Nb.out.up hb)
        replace Ra := hid (Ra.out.up hb)
        replace Rb := hid (Rb.out.up hb)
        replace QG := hid (QG.out.up hb)
        replace KA := hid (KA.out.up hb)
        replace KB := hid (KB.out.up hb)
        replace NX := hid (NX.out.up hb)
        clear hb
        simp only [Act.put, List.setIfInBounds_toArray, List.set_cons_zero, List.set_cons_succ]
        refine WE.pure (d := some 36) rfl rfl (by rfl) (v := (.bool true)) (fun w' hk => ?_) ?_
        · go_simp
        simp only [Act.put, List.setIfInBounds_toArray, List.set_cons_zero, List.set_cons_succ]
        refine WE.done ?_
        repeat go_step
        go_ret
        exact ⟨rfl, E.out⟩
      | true =>
        have HFX := hid hfx
        have RX := hid (show Worth wr (.agg #[.bool gx, .slice A3 n3 c3]) (M.zv gx lx) 6 from ⟨gx, A3, n3, c3, lx, rfl, NX.out, of_decide_eq_true hfx, rfl⟩)
        clear hfx
        go_upto_region 9 with (fail)
        refine wp_region_T [(0, 0), (1, 0), (2, 0), (3, 0), (4, 1), (5, 0)] (by kernel_rfl) fun wd hb => ?_
        replace E := hid (E.out.trans hb)
        replace Ba := hid (Ba.out.up hb)
        replace Bb := hid (Bb.out.up hb)
        replace V7 := hid (V7.out.up hb)
        replace Na := hid (Na.out.up hb)
        replace Nb := hid (Nb.out.up hb)
        replace Ra := hid (Ra.out.up hb)
        replace Rb := hid (Rb.out.up hb)
        replace QG := hid (QG.out.up hb)
        replace KA := hid (KA.out.up hb)
        replace KB := hid (KB.out.up hb)
        replace NX := hid (NX.out.up hb)
        replace RX := hid (RX.out.up hb)
        clear hb
        refine WE.pure (d := some 31) rfl rfl (by rfl) (v := (.slice (some ad) n c)) (fun w' hk => ?_) ?_
        · go_simp
        simp only [Act.put, List.setIfInBounds_toArray, List.set_cons_zero, List.set_cons_succ]
        refine WE.pure (d := some 32) rfl rfl (by rfl) (v := (.int .i64 (k : Int))) (fun w' hk => ?_) ?_
        · go_simp
        simp only [Act.put, List.setIfInBounds_toArray, List.set_cons_zero, List.set_cons_succ]
        refine WE.pure (d := some 33) rfl rfl (by rfl) (v := ((.pointer (some (ad.add (k * 2)))))) (fun w' hk => ?_) ?_
        · go_simp
        simp only [Act.put, List.setIfInBounds_toArray, List.set_cons_zero, List.set_cons_succ]
        refine WE.pure (d := some 34) rfl rfl (by rfl) (v := (.agg #[.bool gx, .slice A3 n3 c3])) (fun w' hk => ?_) ?_
        · have c0 : w'.cell? (ad.add (k * 2)) = some (.bool gx) := KA.out.up hk; have c1 : w'.cell? ⟨(ad.add (k * 2)).block, (ad.add (k * 2)).off + 1, none⟩ = some (.slice A3 n3 c3) := KB.out.up hk; go_simp
        simp only [Act.put, List.setIfInBounds_toArray, List.set_cons_zero, List.set_cons_succ]
        refine WE.call (d := some 35) rfl rfl (by rfl) (f := 9) (args := #[(.agg #[.bool gx, .slice A3 n3 c3])]) (by go_simp) ?_
        refine (few4_z NX.out HFX.out).mono ?_
        rintro e wn ⟨rfl, hb⟩
        refine ⟨_, rfl, hb, ?_⟩
        replace E := hid (E.out.trans hb)
        replace Ba := hid (Ba.out.up hb)
        replace Bb := hid (Bb.out.up hb)
        replace V7 := hid (V7.out.up hb)
        replace Na := hid (Na.out.up hb)
        replace Nb := hid (Nb.out.up hb)
        replace Ra := hid (Ra.out.up hb)
        replace Rb := hid (Rb.out.up hb)
        replace QG := hid (QG.out.up hb)
        replace KA := hid (KA.out.up hb)
        replace KB := hid (KB.out.up hb)
        replace NX := hid (NX.out.up hb)
        replace RX := hid (RX.out.up hb)
        clear hb
        simp only [Act.put, List.setIfInBounds_toArray, List.set_cons_zero, List.set_cons_succ]
        refine WE.pure (d := some 36) rfl rfl (by rfl) (v := (.bool false)) (fun w' hk => ?_) ?_
        · go_simp
        simp only [Act.put, List.setIfInBounds_toArray, List.set_cons_zero, List.set_cons_succ]
        refine WE.done ?_
        go_upto_region 11 with (fail)
        refine wp_region_E [(0, 0), (1, 0), (2, 0), (3, 0), (4, 0), (5, 1), (6, 4)] (fun _ => (0, #[])) rfl (by kernel_rfl) (by intro j hj; cases hj) (fun _ _ d _ _ => by cases d <;> exact Iff.rfl) fun wd hb => ?_
        replace E := hid (E.out.trans hb)
        replace Ba := hid (Ba.out.up hb)
        replace Bb := hid (Bb.out.up hb)
        replace V7 := hid (V7.out.up hb)
        replace Na := hid (Na.out.up hb)
        replace Nb := hid (Nb.out.up hb)
        replace Ra := hid (Ra.out.up hb)
        replace Rb := hid (Rb.out.up hb)
        replace QG := hid (QG.out.up hb)
        replace KA := hid (KA.out.up hb)
        replace KB := hid (KB.out.up hb)
        replace NX := hid (NX.out.up hb)
        replace RX := hid (RX.out.up hb)
        clear hb
        refine WE.pure (d := some 37) rfl rfl (by rfl) (v := (.agg #[.bool g7, .slice A7 n7 c7])) (fun w' hk => ?_) ?_
        · have c0 := hk.cell (V7.out.cell (o := 0) (v := .bool g7) rfl); have c1 := hk.cell (V7.out.cell (o := 1) (v := .slice A7 n7 c7) rfl); go_simp
        simp only [Act.put, List.setIfInBounds_toArray, List.set_cons_zero, List.set_cons_succ]
        refine WE.pure (d := some 38) rfl rfl (by rfl) (v := (.slice (some ad) n c)) (fun w' hk => ?_) ?_
        · go_simp
        simp only [Act.put, List.setIfInBounds_toArray, List.set_cons_zero, List.set_cons_succ]
        refine WE.pure (d := some 39) rfl rfl (by rfl) (v := (.int .i64 (k : Int))) (fun w' hk => ?_) ?_
        · go_simp
        simp only [Act.put, List.setIfInBounds_toArray, List.set_cons_zero, List.set_cons_succ]
        refine WE.pure (d := some 40) rfl rfl (by rfl) (v := ((.pointer (some (ad.add (k * 2)))))) (fun w' hk => ?_) ?_
        · go_simp
        simp only [Act.put, List.setIfInBounds_toArray, List.set_cons_zero, List.set_cons_succ]
        refine WE.pure (d := some 41) rfl rfl (by rfl) (v := (.agg #[.bool gx, .slice A3 n3 c3])) (fun w' hk => ?_) ?_
        · have c0 : w'.cell? (ad.add (k * 2)) = some (.bool gx) := KA.out.up hk; have c1 : w'.cell? ⟨(ad.add (k * 2)).block, (ad.add (k * 2)).off + 1, none⟩ = some (.slice A3 n3 c3) := KB.out.up hk; go_simp
        simp only [Act.put, List.setIfInBounds_toArray, List.set_cons_zero, List.set_cons_succ]
        refine WE.call (d := some 42) rfl rfl (by rfl) (f := 10) (args := #[(.agg #[.bool g7, .slice A7 n7 c7]), (.agg #[.bool gx, .slice A3 n3 c3])]) (by go_simp) ?_
        refine (rGcd_w (Worth.wide QG.out.worth (k := 20) (by omega)) (Worth.wide RX.out (k := 20) (by omega)) (by omega)).mono ?_
        rintro e wn ⟨v1, rfl, x1, hb⟩
        obtain ⟨g11, A11, n11, c11, rfl⟩ := x1.shape
        refine ⟨_, rfl, hb, ?_⟩
        replace E := hid (E.out.trans hb)
        replace Ba := hid (Ba.out.up hb)
        replace Bb := hid (Bb.out.up hb)
        replace V7 := hid (V7.out.up hb)
        replace Na := hid (Na.out.up hb)
        replace Nb := hid (Nb.out.up hb)
        replace Ra := hid (Ra.out.up hb)
        replace Rb := hid (Rb.out.up hb)
        replace QG := hid (QG.out.up hb)
        replace KA := hid (KA.out.up hb)
        replace KB := hid (KB.out.up hb)
        replace NX := hid (NX.out.up hb)
        replace RX := hid (RX.out.up hb)
        have Q11 := hid x1
        clear hb x1
        simp only [Act.put, List.setIfInBounds_toArray, List.set_cons_zero, List.set_cons_succ]
        clear RX
        clear KA KB
        refine WE.store2 (g := gV7) (x := .bool g11) (y := .slice A11 n11 c11) (t := 24) rfl rfl (by rfl) (fun w hb => ?_) V7.out (by rfl) fun ws hk hs => ?_
        · have c0 := hb.cell (o := 0) (v := .bool g7) rfl; have f0 := hb.free 0; have c1 := hb.cell (o := 1) (v := .slice A7 n7 c7) rfl; have f1 := hb.free 1; go_simp
        intro hbx
        replace E := hid (E.out.keptG hk HGV7.out)
        replace Ba := hid (Ba.out.kept hk (by simpa using HNV7Ba.out.symm))
        replace Bb := hid (Bb.out.kept hk (by simpa using HNV7Bb.out.symm))
        replace V7 := hid hbx
        replace Na := hid (Na.out.kz hs)
        replace Nb := hid (Nb.out.kz hs)
        replace Ra := hid (Ra.out.kz hs)
        replace Rb := hid (Rb.out.kz hs)
        replace QG := hid (QG.out.kz hs)
        replace NX := hid (NX.out.kz hs)
        replace Q11 := hid (Q11.out.kz hs)
        clear hk hs hbx
        refine WE.done ?_
        go_wp2
        go_roundw
        case rel => exact ⟨k + 1, _, _, _, _, by omega, by go_num, few_take HFW.out HX.out (of_decide_eq_true HFX.out), E, Ba, Bb, V7, Na, Nb, Ra, Rb, by rw [← M.gl_ref HX.out]; exact Q11⟩
        case measure => simp [intOf]; all_goals omega
    · obtain rfl : k = n := by omega
      have hlt' : decide ((k : Int) < (k : Int)) = false := by simp
      have HALL := hid (show ∀ x ∈ ls, x.2.length ≤ 6 by have := HFW.out; rw [List.take_of_length_le (by rw [HC.out.1]; exact Nat.le_refl _)] at this; exact this)
      have QGL : Hid (IsZ wr (.agg #[.bool g7, .slice A7 n7 c7]) (M.gl ls : Int) 20) := hid (by have := QG.out; rw [List.take_of_length_le (by rw [HC.out.1]; exact Nat.le_refl _)] at this; exact this)
      clear QG
      go_upto_region 12 with (fail)
      refine wp_region_E [(0, 0), (1, 0), (3, 0), (4, 0), (2, 1), (5, 1), (6, 1), (7, 0), (8, 0), (9, 0), (11, 0), (12, 0), (10, 1), (13, 1), (14, 1), (15, 0), (16, 0), (17, 0), (19, 0), (18, 1), (20, 1), (21, 0), (22, 0)] (fun _ => (0, #[])) rfl (by kernel_rfl) (by intro j hj; cases hj) (fun _ _ d _ _ => by cases d <;> exact Iff.rfl) fun wd hb => ?_
      replace E := hid (E.out.trans hb)
      replace Ba := hid (Ba.out.up hb)
      replace Bb := hid (Bb.out.up hb)
      replace V7 := hid (V7.out.up hb)
      replace Na := hid (Na.out.up hb)
      replace Nb := hid (Nb.out.up hb)
      replace Ra := hid (Ra.out.up hb)
      replace Rb := hid (Rb.out.up hb)
      replace QGL := hid (QGL.out.up hb)
      clear hb
      refine WE.pure (d := some 43) rfl rfl (by rfl) (v := (.agg #[.bool ga, .slice Aa na ca])) (fun w' hk => ?_) ?_
      · have c0 := hk.cell (Ba.out.cell (o := 0) (v := .bool ga) rfl); have c1 := hk.cell (Ba.out.cell (o := 1) (v := .slice Aa na ca) rfl); go_simp
      simp only [Act.put, List.setIfInBounds_toArray, List.set_cons_zero, List.set_cons_succ]
      refine WE.pure (d := some 44) rfl rfl (by rfl) (v := (.agg #[.bool gb, .slice Ab nb cb])) (fun w' hk => ?_) ?_
      · have c0 := hk.cell (Bb.out.cell (o := 0) (v := .bool gb) rfl); have c1 := hk.cell (Bb.out.cell (o := 1) (v := .slice Ab nb cb) rfl); go_simp
      simp only [Act.put, List.setIfInBounds_toArray, List.set_cons_zero, List.set_cons_succ]
      refine WE.pure (d := some 46) rfl rfl (by rfl) (v := (.agg #[.bool ga, .slice Aa na ca])) (fun w' hk => ?_) ?_
      · have c0 := hk.cell (Ba.out.cell (o := 0) (v := .bool ga) rfl); have c1 := hk.cell (Ba.out.cell (o := 1) (v := .slice Aa na ca) rfl); go_simp
      simp only [Act.put, List.setIfInBounds_toArray, List.set_cons_zero, List.set_cons_succ]
      refine WE.pure (d := some 47) rfl rfl (by rfl) (v := (.agg #[.bool gb, .slice Ab nb cb])) (fun w' hk => ?_) ?_
      · have c0 := hk.cell (Bb.out.cell (o := 0) (v := .bool gb) rfl); have c1 := hk.cell (Bb.out.cell (o := 1) (v := .slice Ab nb cb) rfl); go_simp
      simp only [Act.put, List.setIfInBounds_toArray, List.set_cons_zero, List.set_cons_succ]
      refine WE.call (d := some 45) rfl rfl (by rfl) (f := 12) (args := #[(.agg #[.bool ga, .slice Aa na ca]), (.agg #[.bool gb, .slice Ab nb cb])]) (by go_simp) ?_
      refine (gOf_w (Worth.wide Ra.out (k := 20) (by omega)) (Worth.wide Rb.out (k := 20) (by omega)) (by omega)).mono ?_
      rintro e wn ⟨v1, rfl, x1, hb⟩
      obtain ⟨g11, A11, n11, c11, rfl⟩ := x1.shape
      refine ⟨_, rfl, hb, ?_⟩
      replace E := hid (E.out.trans hb)
      replace Ba := hid (Ba.out.up hb)
      replace Bb := hid (Bb.out.up hb)
      replace V7 := hid (V7.out.up hb)
      replace Na := hid (Na.out.up hb)
      replace Nb := hid (Nb.out.up hb)
      replace Ra := hid (Ra.out.up hb)
      replace Rb := hid (Rb.out.up hb)
      replace QGL := hid (QGL.out.up hb)
      have Q11 := hid x1
      clear hb x1
      simp only [Act.put, List.setIfInBounds_toArray, List.set_cons_zero, List.set_cons_succ]
      refine WE.call (d := some 48) rfl rfl (by rfl) (f := 10) (args := #[(.agg #[.bool ga, .slice Aa na ca]), (.agg #[.bool gb, .slice Ab nb cb])]) (by go_simp) ?_
      refine (rGcd_w (Worth.wide Ra.out (k := 20) (by omega)) (Worth.wide Rb.out (k := 20) (by omega)) (by omega)).mono ?_
      rintro e wn ⟨v1, rfl, x1, hb⟩
      obtain ⟨g12, A12, n12, c12, rfl⟩ := x1.shape
      refine ⟨_, rfl, hb, ?_⟩
      replace E := hid (E.out.trans hb)
      replace Ba := hid (Ba.out.up hb)
      replace Bb := hid (Bb.out.up hb)
      replace V7 := hid (V7.out.up hb)
      replace Na := hid (Na.out.up hb)
      replace Nb := hid (Nb.out.up hb)
      replace Ra := hid (Ra.out.up hb)
      replace Rb := hid (Rb.out.up hb)
      replace QGL := hid (QGL.out.up hb)
      replace Q11 := hid (Q11.out.up hb)
      have Q12 := hid x1
      clear hb x1
      simp only [Act.put, List.setIfInBounds_toArray, List.set_cons_zero, List.set_cons_succ]
      refine WE.call (d := some 49) rfl rfl (by rfl) (f := 11) (args := #[(.agg #[.bool g11, .slice A11 n11 c11]), (.agg #[.bool g12, .slice A12 n12 c12])]) (by go_simp) ?_
      refine (equal_z (IsZ.to Q11.out (rfl)) (IsZ.to Q12.out (rfl))).mono ?_
      rintro e wn ⟨rfl, hb⟩
      refine ⟨_, rfl, hb, ?_⟩
      replace E := hid (E.out.trans hb)
      replace Ba := hid (Ba.out.up hb)
      replace Bb := hid (Bb.out.up hb)
      replace V7 := hid (V7.out.up hb)
      replace Na := hid (Na.out.up hb)
      replace Nb := hid (Nb.out.up hb)
      replace Ra := hid (Ra.out.up hb)
      replace Rb := hid (Rb.out.up hb)
      replace QGL := hid (QGL.out.up hb)
      replace Q11 := hid (Q11.out.up hb)
      replace Q12 := hid (Q12.out.up hb)
      clear hb
      simp only [Act.put, List.setIfInBounds_toArray, List.set_cons_zero, List.set_cons_succ]
      clear Q11
      clear Q12
      refine WE.pure (d := some 50) rfl rfl (by rfl) (v := (.bool true)) (fun w' hk => ?_) ?_
      · go_simp
      simp only [Act.put, List.setIfInBounds_toArray, List.set_cons_zero, List.set_cons_succ]
      refine WE.pure (d := some 51) rfl rfl (by rfl) (v := (.agg #[.bool ga, .slice Aa na ca])) (fun w' hk => ?_) ?_
      · have c0 := hk.cell (Ba.out.cell (o := 0) (v := .bool ga) rfl); have c1 := hk.cell (Ba.out.cell (o := 1) (v := .slice Aa na ca) rfl); go_simp
      simp only [Act.put, List.setIfInBounds_toArray, List.set_cons_zero, List.set_cons_succ]
      refine WE.pure (d := some 52) rfl rfl (by rfl) (v := (.agg #[.bool gb, .slice Ab nb cb])) (fun w' hk => ?_) ?_
      · have c0 := hk.cell (Bb.out.cell (o := 0) (v := .bool gb) rfl); have c1 := hk.cell (Bb.out.cell (o := 1) (v := .slice Ab nb cb) rfl); go_simp
      simp only [Act.put, List.setIfInBounds_toArray, List.set_cons_zero, List.set_cons_succ]
      refine WE.pure (d := some 54) rfl rfl (by rfl) (v := (.agg #[.bool ga, .slice Aa na ca])) (fun w' hk => ?_) ?_
      · have c0 := hk.cell (Ba.out.cell (o := 0) (v := .bool ga) rfl); have c1 := hk.cell (Ba.out.cell (o := 1) (v := .slice Aa na ca) rfl); go_simp
      simp only [Act.put, List.setIfInBounds_toArray, List.set_cons_zero, List.set_cons_succ]
      refine WE.pure (d := some 55) rfl rfl (by rfl) (v := (.agg #[.bool gb, .slice Ab nb cb])) (fun w' hk => ?_) ?_
      · have c0 := hk.cell (Bb.out.cell (o := 0) (v := .bool gb) rfl); have c1 := hk.cell (Bb.out.cell (o := 1) (v := .slice Ab nb cb) rfl); go_simp
      simp only [Act.put, List.setIfInBounds_toArray, List.set_cons_zero, List.set_cons_succ]
      refine WE.call (d := some 53) rfl rfl (by rfl) (f := 13) (args := #[(.agg #[.bool ga, .slice Aa na ca]), (.agg #[.bool gb, .slice Ab nb cb])]) (by go_simp) ?_
      refine (gLcm_w (Worth.wide Ra.out (k := 20) (by omega)) (Worth.wide Rb.out (k := 20) (by omega)) (by omega) (by omega)).mono ?_
      rintro e wn ⟨v1, rfl, x1, hb⟩
      obtain ⟨g13, A13, n13, c13, rfl⟩ := x1.shape
      refine ⟨_, rfl, hb, ?_⟩
      replace E := hid (E.out.trans hb)
      replace Ba := hid (Ba.out.up hb)
      replace Bb := hid (Bb.out.up hb)
      replace V7 := hid (V7.out.up hb)
      replace Na := hid (Na.out.up hb)
      replace Nb := hid (Nb.out.up hb)
      replace Ra := hid (Ra.out.up hb)
      replace Rb := hid (Rb.out.up hb)
      replace QGL := hid (QGL.out.up hb)
      have Q13 := hid x1
      clear hb x1
      simp only [Act.put, List.setIfInBounds_toArray, List.set_cons_zero, List.set_cons_succ]
      refine WE.call (d := some 56) rfl rfl (by rfl) (f := 14) (args := #[(.agg #[.bool ga, .slice Aa na ca]), (.agg #[.bool gb, .slice Ab nb cb])]) (by go_simp) ?_
      refine (rLcm_w (Worth.wide Ra.out (k := 20) (by omega)) (Worth.wide Rb.out (k := 20) (by omega)) (by omega)).mono ?_
      rintro e wn ⟨v1, rfl, x1, hb⟩
      obtain ⟨g14, A14, n14, c14, rfl⟩ := x1.shape
      refine ⟨_, rfl, hb, ?_⟩
      replace E := hid (E.out.trans hb)
      replace Ba := hid (Ba.out.up hb)
      replace Bb := hid (Bb.out.up hb)
      replace V7 := hid (V7.out.up hb)
      replace Na := hid (Na.out.up hb)
      replace Nb := hid (Nb.out.up hb)
      replace Ra := hid (Ra.out.up hb)
      replace Rb := hid (Rb.out.up hb)
      replace QGL := hid (QGL.out.up hb)
      replace Q13 := hid (Q13.out.up hb)
      have Q14 := hid x1
      clear hb x1
      simp only [Act.put, List.setIfInBounds_toArray, List.set_cons_zero, List.set_cons_succ]
      refine WE.call (d := some 57) rfl rfl (by rfl) (f := 11) (args := #[(.agg #[.bool g13, .slice A13 n13 c13]), (.agg #[.bool g14, .slice A14 n14 c14])]) (by go_simp) ?_
      refine (equal_z (IsZ.to Q13.out (rfl)) (IsZ.to Q14.out (rfl))).mono ?_
      rintro e wn ⟨rfl, hb⟩
      refine ⟨_, rfl, hb, ?_⟩
      replace E := hid (E.out.trans hb)
      replace Ba := hid (Ba.out.up hb)
      replace Bb := hid (Bb.out.up hb)
      replace V7 := hid (V7.out.up hb)
      replace Na := hid (Na.out.up hb)
      replace Nb := hid (Nb.out.up hb)
      replace Ra := hid (Ra.out.up hb)
      replace Rb := hid (Rb.out.up hb)
      replace QGL := hid (QGL.out.up hb)
      replace Q13 := hid (Q13.out.up hb)
      replace Q14 := hid (Q14.out.up hb)
      clear hb
      simp only [Act.put, List.setIfInBounds_toArray, List.set_cons_zero, List.set_cons_succ]
      clear Q13
      clear Q14
      refine WE.pure (d := some 58) rfl rfl (by rfl) (v := (.bool true)) (fun w' hk => ?_) ?_
      · go_simp
      simp only [Act.put, List.setIfInBounds_toArray, List.set_cons_zero, List.set_cons_succ]
      refine WE.pure (d := some 59) rfl rfl (by rfl) (v := (.bool true)) (fun w' hk => ?_) ?_
      · go_simp
      simp only [Act.put, List.setIfInBounds_toArray, List.set_cons_zero, List.set_cons_succ]
      refine WE.pure (d := some 60) rfl rfl (by rfl) (v := (.slice A k c)) (fun w' hk => ?_) ?_
      · go_simp
      simp only [Act.put, List.setIfInBounds_toArray, List.set_cons_zero, List.set_cons_succ]
      refine WE.pure (d := some 62) rfl rfl (by rfl) (v := (.agg #[.bool g7, .slice A7 n7 c7])) (fun w' hk => ?_) ?_
      · have c0 := hk.cell (V7.out.cell (o := 0) (v := .bool g7) rfl); have c1 := hk.cell (V7.out.cell (o := 1) (v := .slice A7 n7 c7) rfl); go_simp
      simp only [Act.put, List.setIfInBounds_toArray, List.set_cons_zero, List.set_cons_succ]
      refine WE.call (d := some 61) rfl rfl (by rfl) (f := 15) (args := #[(.slice A k c)]) (by go_simp) ?_
      refine (gAll_w (K := 20) (HZ.out.up E.out) (fun x hx => Nat.le_trans (HALL.out x hx) (by omega)) (by omega)).mono ?_
      rintro e wn ⟨v1, rfl, x1, hb⟩
      obtain ⟨g15, A15, n15, c15, rfl⟩ := x1.shape
      refine ⟨_, rfl, hb, ?_⟩
      replace E := hid (E.out.trans hb)
      replace Ba := hid (Ba.out.up hb)
      replace Bb := hid (Bb.out.up hb)
      replace V7 := hid (V7.out.up hb)
      replace Na := hid (Na.out.up hb)
      replace Nb := hid (Nb.out.up hb)
      replace Ra := hid (Ra.out.up hb)
      replace Rb := hid (Rb.out.up hb)
      replace QGL := hid (QGL.out.up hb)
      have Q15 := hid x1
      clear hb x1
      simp only [Act.put, List.setIfInBounds_toArray, List.set_cons_zero, List.set_cons_succ]
      refine WE.call (d := some 63) rfl rfl (by rfl) (f := 11) (args := #[(.agg #[.bool g15, .slice A15 n15 c15]), (.agg #[.bool g7, .slice A7 n7 c7])]) (by go_simp) ?_
      refine (equal_z (IsZ.to Q15.out (rfl)) (IsZ.to QGL.out (rfl))).mono ?_
      rintro e wn ⟨rfl, hb⟩
      refine ⟨_, rfl, hb, ?_⟩
      replace E := hid (E.out.trans hb)
      replace Ba := hid (Ba.out.up hb)
      replace Bb := hid (Bb.out.up hb)
      replace V7 := hid (V7.out.up hb)
      replace Na := hid (Na.out.up hb)
      replace Nb := hid (Nb.out.up hb)
      replace Ra := hid (Ra.out.up hb)
      replace Rb := hid (Rb.out.up hb)
      replace QGL := hid (QGL.out.up hb)
      replace Q15 := hid (Q15.out.up hb)
      clear hb
      simp only [Act.put, List.setIfInBounds_toArray, List.set_cons_zero, List.set_cons_succ]
      clear Q15
      refine WE.pure (d := some 64) rfl rfl (by rfl) (v := (.bool true)) (fun w' hk => ?_) ?_
      · go_simp
      simp only [Act.put, List.setIfInBounds_toArray, List.set_cons_zero, List.set_cons_succ]
      refine WE.pure (d := some 6) rfl rfl (by rfl) (v := (.bool true)) (fun w' hk => ?_) ?_
      · go_simp
      simp only [Act.put, List.setIfInBounds_toArray, List.set_cons_zero, List.set_cons_succ]
      refine WE.done ?_
      repeat go_step
      go_ret
      exact ⟨rfl, E.out⟩

theorem gcdTells_walk (W : World) (ga : Bool) (Aa : Option Addr) (na ca : Nat) (la : List Nat) (ha : Num W W.heap.size (.slice Aa na ca) la) (gb : Bool) (Ab : Option Addr) (nb cb : Nat) (lb : List Nat) (hb : Num W W.heap.size (.slice Ab nb cb) lb) (A : Option Addr) (n c : Nat) (ls : List (Bool × List Nat)) (hZ : ZList W (.slice A n c) ls) :
    Calls Try.prog 3 #[.agg #[.bool ga, .slice Aa na ca], .agg #[.bool gb, .slice Ab nb cb], .slice A n c] W (fun e w' => e = .returned (.bool true) ∧ Ext W w') := by
  rcases fa : (decide (la.length ≤ 6)) with _ | _
  · exact gcdTells_skip0 W ga Aa na ca la ha gb Ab nb cb lb hb A n c ls hZ fa
  rcases fb : (decide (lb.length ≤ 6)) with _ | _
  · exact gcdTells_skip1 W ga Aa na ca la ha gb Ab nb cb lb hb A n c ls hZ fa fb
  rcases fl : (decide ((10 : Int) < (n : Int))) with _ | _
  · exact gcdTells_main W ga Aa na ca la ha gb Ab nb cb lb hb A n c ls hZ fa fb fl _ rfl _ rfl
  · exact gcdTells_skip2 W ga Aa na ca la ha gb Ab nb cb lb hb A n c ls hZ fa fb fl

set_option maxRecDepth 100000 in
theorem gcdTells_lifted (os : Os) (started : os.Started) (H : Type) (enc : TypeId × Value → H) :
    ReturnsInHanded {} Try.checked os 3 .any (Rows.gcdTellsSpec.pre6 enc Try.prog Try.f3 Rows.gcdTellsRow.domain false) (Rows.gcdTellsSpec.post enc Try.prog Try.f3 false true false false) := by
  refine returnsInHanded_of_change (C := Try.checked) own started (by kernel_rfl) Try.func3
    (ChangeSpec.witness6 (enc := enc) (C := Try.checked) false ⟨#[], #[.agg #[.bool false, .slice none 0 0], .agg #[.bool false, .slice none 0 0], .slice none 0 0], []⟩ 8 (by kernel_rfl) (by kernel_rfl) (by kernel_rfl) (by kernel_rfl)) ?_
  intro W base args ds gs before hval0 hW _ _
  have hval : ∀ (j : Nat) t v, Try.f3.params[j]? = some t → args[j]? = some v → Value.okWide Try.prog W .any base t v := hval0
  have hW' := hW
  obtain ⟨p, q, hA0, hV, rfl, hfz, hnd⟩ := hW
  have hA : DataW.TrodAll enc Try.prog W 0 (fun _ => true) true Try.f3.params.toList args.toList ds p := hA0
  rw [Try.params3] at hA hval
  obtain ⟨v0, vs0, d0, ds0, p0, q0, hargs, rfl, rfl, h0, r0⟩ := trodAll_cons hA
  obtain ⟨v1, vs1, d1, ds1, p1, q1, rfl, rfl, rfl, h1, r1⟩ := trodAll_cons r0
  obtain ⟨v2, vs2, d2, ds2, p2, q2, rfl, rfl, rfl, h2, r2⟩ := trodAll_cons r1
  obtain ⟨rfl, rfl, rfl⟩ := trodAll_nil r2
  obtain rfl : args = #[v0, v1, v2] := by cases args; simp_all
  obtain ⟨rfl, rfl⟩ := trodVars_none hV
  obtain ⟨g0, A0, n0, c0, l0, rfl, e0⟩ := open_Z (hval 0 24 _ rfl rfl) h0
  obtain ⟨g1, A1, n1, c1, l1, rfl, e1⟩ := open_Z (hval 1 24 _ rfl rfl) h1
  obtain ⟨A2, n2, c2, l2, rfl, e2⟩ := open_ZL (hval 2 25 _ rfl rfl) h2
  clear hA0 hval0
  refine (gcdTells_walk W g0 A0 n0 c0 l0 e0 g1 A1 n1 c1 l1 e1 A2 n2 c2 l2 e2).mono fun e W' ⟨he, hg⟩ => ?_
  subst he
  exact ⟨_, rfl, law_post hW' rfl rfl (by kernel_rfl) (by kernel_rfl) hg⟩

theorem gcdTells_over : Rows.gcdTellsRow.holds Try.pinned (OpenSpec.ofChange Rows.gcdTellsSpec) :=
  OpenClaim.holds_of_wide 3 Try.f3 rfl rfl rfl rfl rfl rfl rfl ⟨rfl, rfl, rfl, rfl, rfl⟩ rfl rfl rfl rfl rfl (by kernel_rfl) Try.func3 (by kernel_rfl)
    (of_decide_eq_true (by kernel_rfl)) (by unfold Func.isWrapper; first | (rw [if_pos (by decide +kernel)]; kernel_rfl) | (rw [if_neg (by decide +kernel)]; exact ⟨rfl, rfl⟩))
    (fun os started H enc _ => gcdTells_lifted os started H enc)

theorem gcdTells_proved : Rows.GcdTellsSaid := gcdTells_over

end Go.Proofs.Ytljjijcmoafndaa
