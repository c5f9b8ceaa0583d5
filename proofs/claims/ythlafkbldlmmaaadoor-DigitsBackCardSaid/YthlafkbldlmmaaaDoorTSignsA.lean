/-
  DigitsSigns, its walk: what is not a number and what is.
-/
import Derived.Test.YthlafkbldlmmaaaDoorTLaid
import Derived.Test.YthlafkbldlmmaaaDoorTSignM
import Derived.Test.YthlafkbldlmmaaaDoorRZA
namespace Go.Proofs.YthlafkbldlmmaaaDoor
open Go.ChangeShapes Go.WideShapes Go.ChangeAt Go.RowKit
set_option linter.unusedSimpArgs false
set_option linter.unusedVariables false

theorem u8_of_wf {n : Int} (h : (Lit.int .u8 n).wf = true) : 0 ≤ n ∧ n < 256 := by
  have : 0 ≤ n ∧ n ≤ 255 := by simpa [Lit.wf, IntKind.min, IntKind.max, IntKind.signed, IntKind.bits] using h
  omega
theorem sets8 (c0 c1 c2 c3 c4 c5 c6 c7 x0 x1 x2 x3 x4 x5 x6 x7 : Value) : (((((((((#[c0, c1, c2, c3, c4, c5, c6, c7] : Array Value).setIfInBounds 0 x0).setIfInBounds 1 x1).setIfInBounds 2 x2).setIfInBounds 3 x3).setIfInBounds 4 x4).setIfInBounds 5 x5).setIfInBounds 6 x6).setIfInBounds 7 x7) = #[x0, x1, x2, x3, x4, x5, x6, x7] := by
  simp only [List.setIfInBounds_toArray, List.set_cons_zero, List.set_cons_succ]
theorem kept8 {w : World} {g : Nat} (x0 x1 x2 x3 x4 x5 x6 x7 : Value) : Kept [g] w ((((((((w.setCell ⟨g, 0, none⟩ x0).setCell ⟨g, 1, none⟩ x1).setCell ⟨g, 2, none⟩ x2).setCell ⟨g, 3, none⟩ x3).setCell ⟨g, 4, none⟩ x4).setCell ⟨g, 5, none⟩ x5).setCell ⟨g, 6, none⟩ x6).setCell ⟨g, 7, none⟩ x7) := by
  refine Kept.trans ?_ (kept_setAt x7)
  refine Kept.trans ?_ (kept_setAt x6)
  refine Kept.trans ?_ (kept_setAt x5)
  refine Kept.trans ?_ (kept_setAt x4)
  refine Kept.trans ?_ (kept_setAt x3)
  refine Kept.trans ?_ (kept_setAt x2)
  refine Kept.trans ?_ (kept_setAt x1)
  exact kept_setAt x0
theorem box8 {w : World} {g : Nat} {t : TypeId} {c0 c1 c2 c3 c4 c5 c6 c7 : Value} (x0 x1 x2 x3 x4 x5 x6 x7 : Value) (hb : Box w g #[c0, c1, c2, c3, c4, c5, c6, c7] t) : Box ((((((((w.setCell ⟨g, 0, none⟩ x0).setCell ⟨g, 1, none⟩ x1).setCell ⟨g, 2, none⟩ x2).setCell ⟨g, 3, none⟩ x3).setCell ⟨g, 4, none⟩ x4).setCell ⟨g, 5, none⟩ x5).setCell ⟨g, 6, none⟩ x6).setCell ⟨g, 7, none⟩ x7) g #[x0, x1, x2, x3, x4, x5, x6, x7] t := by
  have h := ((((((((hb.setAt 0 x0).setAt 1 x1).setAt 2 x2).setAt 3 x3).setAt 4 x4).setAt 5 x5).setAt 6 x6).setAt 7 x7)
  rw [sets8] at h
  exact h
/-- A store of eight cells. -/
theorem WE.store8 {P : Program} {ops : Array Oper} {Q : Exit → Act → World → Prop} {A : Nat → TypeId × Array Value} {B : Nat} {r : List (Nat × Nat)} {G : List Nat} {a : Act} {w : World} {i : Nat} {o : Oper}
    {g : Nat} {c0 c1 c2 c3 c4 c5 c6 c7 x0 x1 x2 x3 x4 x5 x6 x7 : Value} {t : TypeId} (ho : ops[i]? = some o) (hd : o.dst = none) (hw : Region.wanted o (yielded ops a.tmps) = true)
    (he : ∀ w, Box w g #[c0, c1, c2, c3, c4, c5, c6, c7] t → (execOp a.eval o).run P w = .ok .skip ((((((((w.setCell ⟨g, 0, none⟩ x0).setCell ⟨g, 1, none⟩ x1).setCell ⟨g, 2, none⟩ x2).setCell ⟨g, 3, none⟩ x3).setCell ⟨g, 4, none⟩ x4).setCell ⟨g, 5, none⟩ x5).setCell ⟨g, 6, none⟩ x6).setCell ⟨g, 7, none⟩ x7)) (hb : Box w g #[c0, c1, c2, c3, c4, c5, c6, c7] t) (hno : noLimb #[c0, c1, c2, c3, c4, c5, c6, c7] = true)
    (h : ∀ w', Kept [g] w w' → Keeps w w' → Box w' g #[x0, x1, x2, x3, x4, x5, x6, x7] t → WE P ops Q A B r G a w') : WE P ops Q A B ((i, 4) :: r) G a w :=
  WE.store ho hd hw (he w hb) (kept8 x0 x1 x2 x3 x4 x5 x6 x7).1.size (h _ (kept8 x0 x1 x2 x3 x4 x5 x6 x7) (keeps_store hb hno (kept8 x0 x1 x2 x3 x4 x5 x6 x7)) (box8 x0 x1 x2 x3 x4 x5 x6 x7 hb))

set_option maxRecDepth 100000 in
set_option maxHeartbeats 4000000 in
theorem digitsSigns_at (W : World) (ht : Tab W) (m : Nat) (b : Int) (hm : m < 4294967296) (k : Nat) (hk : k < 8) (hb0 : 0 ≤ b) (hb : b % 8 = (k : Int)) (s : List UInt8) (hs : M.print ((m : Int) + 1) = s) (hl : s.length ≤ 10) (f : List UInt8) (hf : (#[str (45 :: s), str (40 :: 45 :: (s ++ [41])), str (40 :: 45 :: 32 :: s), str [40, 45, 32, 48, 41], str (40 :: 32 :: 45 :: 32 :: (s ++ [41])), str (40 :: 45 :: 32 :: (s ++ [32, 41])), str (43 :: s), str (40 :: 45 :: 32 :: 40 :: 45 :: 32 :: (s ++ [41, 41]))] : Array Value)[k]? = some (str f)) (hfl : f.length ≤ 100) (hp : M.perr f = 10) (hq : M.perr (40 :: 45 :: 32 :: (s ++ [41])) = 0 ∧ M.pval (40 :: 45 :: 32 :: (s ++ [41])) = -(m : Int) - 1) :
    Calls Tryd.prog 7 #[.int .u32 (m : Int), .int .u8 b] W (fun e w' => e = .returned (.bool true) ∧ Ext W w') := by
  have HT := hid ht
  have HM := hid hm
  have HK := hid hk
  have HB := hid hb
  have HB0 := hid hb0
  have HS := hid hs
  have HL := hid hl
  have HF := hid hf
  have HFL := hid hfl
  have HP := hid hp
  have HQ := hid hq
  clear ht hm hk hb hb0 hs hl hf hfl hp hq
  go_enter Tryd.func7, Tryd.ntmps7
  go_upto_region 1 with (fail)
  have E := hid (Ext.refl W)
  refine wp_region_T [(0, 1), (1, 0)] (by kernel_rfl) fun wd hb => ?_
  replace E := hid (E.out.trans hb)
  clear hb
  refine WE.call (d := some 11) rfl rfl (by rfl) (f := 8) (args := #[]) (by go_simp) ?_
  refine (known3 _ (HT.out.up E.out)).mono ?_
  rintro e wn ⟨rfl, hb⟩
  refine ⟨_, rfl, hb, ?_⟩
  replace E := hid (E.out.trans hb)
  clear hb
  simp only [Act.put, List.setIfInBounds_toArray, List.set_cons_zero, List.set_cons_succ]
  refine WE.pure (d := some 12) rfl rfl (by rfl) (v := (.bool false)) (fun w' hk => ?_) ?_
  · go_simp
  simp only [Act.put, List.setIfInBounds_toArray, List.set_cons_zero, List.set_cons_succ]
  refine WE.done ?_
  go_upto_region 3 with (fail)
  refine wp_region_T [(0, 0), (1, 0), (2, 0), (3, 1), (4, 1), (5, 0)] (by kernel_rfl) fun wd hb => ?_
  replace E := hid (E.out.trans hb)
  clear hb
  refine WE.pure (d := some 13) rfl rfl (by rfl) (v := (.int .u32 (m : Int))) (fun w' hk => ?_) ?_
  · go_simp
  simp only [Act.put, List.setIfInBounds_toArray, List.set_cons_zero, List.set_cons_succ]
  refine WE.pure (d := some 14) rfl rfl (by rfl) (v := (.int .i64 (m : Int))) (fun w' hk => ?_) ?_
  · have q : IntKind.i64.wrap (m : Int) = (m : Int) := (by rw [IntKind.wrap_i64]; have := HM.out; omega); go_simp
  simp only [Act.put, List.setIfInBounds_toArray, List.set_cons_zero, List.set_cons_succ]
  refine WE.pure (d := some 15) rfl rfl (by rfl) (v := (.int .i64 ((m : Int) + 1))) (fun w' hk => ?_) ?_
  · have q : IntKind.i64.wrap ((m : Int) + 1) = (m : Int) + 1 := (by rw [IntKind.wrap_i64]; have := HM.out; omega); go_simp
  simp only [Act.put, List.setIfInBounds_toArray, List.set_cons_zero, List.set_cons_succ]
  refine WE.call (d := some 16) rfl rfl (by rfl) (f := 22) (args := #[(.int .i64 ((m : Int) + 1))]) (by go_simp) ?_
  refine (rOf_z (n := (m : Int) + 1) (by omega) (by have := HM.out; omega) _).mono ?_
  rintro e wn ⟨vx, rfl, hx, hb⟩
  obtain ⟨g1, A1, n1, c1, rfl, hs1, hr1⟩ := hx.form
  clear hx
  refine ⟨_, rfl, hb, ?_⟩
  replace E := hid (E.out.trans hb)
  have HS1 := hid hs1
  have R1 := hid hr1
  clear hb hs1 hr1
  simp only [Act.put, List.setIfInBounds_toArray, List.set_cons_zero, List.set_cons_succ]
  refine WE.call (d := some 17) rfl rfl (by rfl) (f := 11) (args := #[(.agg #[.bool g1, .slice A1 n1 c1])]) (by go_simp) ?_
  refine (print_to (IsZ.mk HS1.out R1.out).worth (by omega) (HT.out.up E.out) HS.out).mono ?_
  rintro e wn ⟨rfl, hb⟩
  refine ⟨_, rfl, hb, ?_⟩
  replace E := hid (E.out.trans hb)
  replace R1 := hid (R1.out.up hb)
  clear hb
  simp only [Act.put, List.setIfInBounds_toArray, List.set_cons_zero, List.set_cons_succ]
  refine WE.pure (d := some 5) rfl rfl (by rfl) (v := (str s)) (fun w' hk => ?_) ?_
  · go_simp
  simp only [Act.put, List.setIfInBounds_toArray, List.set_cons_zero, List.set_cons_succ]
  refine WE.done ?_
  go_upto_region 4 with (fail)
  refine wp_region_T [(0, 0), (1, 0), (2, 0), (3, 0), (4, 0), (5, 0), (6, 0), (7, 0), (8, 0), (9, 0), (10, 0), (11, 0), (12, 0), (13, 0), (14, 0), (15, 0), (16, 0), (17, 0), (18, 0), (19, 1), (20, 4)] (by kernel_rfl) fun wd hb => ?_
  replace E := hid (E.out.trans hb)
  replace R1 := hid (R1.out.up hb)
  clear hb
  refine WE.pure (d := some 18) rfl rfl (by rfl) (v := (str s)) (fun w' hk => ?_) ?_
  · go_simp
  simp only [Act.put, List.setIfInBounds_toArray, List.set_cons_zero, List.set_cons_succ]
  refine WE.pure (d := some 19) rfl rfl (by rfl) (v := str (45 :: s)) (fun w' hk => ?_) ?_
  · go_simp
    rw [if_neg (by have := HL.out; omega)]
    exact congrArg (fun x => Result.ok (Next.value (Value.string x)) w') (str_cat [45] s)
  simp only [Act.put, List.setIfInBounds_toArray, List.set_cons_zero, List.set_cons_succ]
  refine WE.pure (d := some 20) rfl rfl (by rfl) (v := (str s)) (fun w' hk => ?_) ?_
  · go_simp
  simp only [Act.put, List.setIfInBounds_toArray, List.set_cons_zero, List.set_cons_succ]
  refine WE.pure (d := some 21) rfl rfl (by rfl) (v := str (40 :: 45 :: s)) (fun w' hk => ?_) ?_
  · go_simp
    rw [if_neg (by have := HL.out; omega)]
    exact congrArg (fun x => Result.ok (Next.value (Value.string x)) w') (str_cat [40, 45] s)
  simp only [Act.put, List.setIfInBounds_toArray, List.set_cons_zero, List.set_cons_succ]
  refine WE.pure (d := some 22) rfl rfl (by rfl) (v := str (40 :: 45 :: (s ++ [41]))) (fun w' hk => ?_) ?_
  · go_simp
    rw [if_neg (by have := HL.out; omega)]
    exact congrArg (fun x => Result.ok (Next.value (Value.string x)) w') (str_cat (40 :: 45 :: s) [41])
  simp only [Act.put, List.setIfInBounds_toArray, List.set_cons_zero, List.set_cons_succ]
  refine WE.pure (d := some 23) rfl rfl (by rfl) (v := (str s)) (fun w' hk => ?_) ?_
  · go_simp
  simp only [Act.put, List.setIfInBounds_toArray, List.set_cons_zero, List.set_cons_succ]
  refine WE.pure (d := some 24) rfl rfl (by rfl) (v := str (40 :: 45 :: 32 :: s)) (fun w' hk => ?_) ?_
  · go_simp
    rw [if_neg (by have := HL.out; omega)]
    exact congrArg (fun x => Result.ok (Next.value (Value.string x)) w') (str_cat [40, 45, 32] s)
  simp only [Act.put, List.setIfInBounds_toArray, List.set_cons_zero, List.set_cons_succ]
  refine WE.pure (d := some 25) rfl rfl (by rfl) (v := (str s)) (fun w' hk => ?_) ?_
  · go_simp
  simp only [Act.put, List.setIfInBounds_toArray, List.set_cons_zero, List.set_cons_succ]
  refine WE.pure (d := some 26) rfl rfl (by rfl) (v := str (40 :: 32 :: 45 :: 32 :: s)) (fun w' hk => ?_) ?_
  · go_simp
    rw [if_neg (by have := HL.out; omega)]
    exact congrArg (fun x => Result.ok (Next.value (Value.string x)) w') (str_cat [40, 32, 45, 32] s)
  simp only [Act.put, List.setIfInBounds_toArray, List.set_cons_zero, List.set_cons_succ]
  refine WE.pure (d := some 27) rfl rfl (by rfl) (v := str (40 :: 32 :: 45 :: 32 :: (s ++ [41]))) (fun w' hk => ?_) ?_
  · go_simp
    rw [if_neg (by have := HL.out; omega)]
    exact congrArg (fun x => Result.ok (Next.value (Value.string x)) w') (str_cat (40 :: 32 :: 45 :: 32 :: s) [41])
  simp only [Act.put, List.setIfInBounds_toArray, List.set_cons_zero, List.set_cons_succ]
  refine WE.pure (d := some 28) rfl rfl (by rfl) (v := (str s)) (fun w' hk => ?_) ?_
  · go_simp
  simp only [Act.put, List.setIfInBounds_toArray, List.set_cons_zero, List.set_cons_succ]
  refine WE.pure (d := some 29) rfl rfl (by rfl) (v := str (40 :: 45 :: 32 :: s)) (fun w' hk => ?_) ?_
  · go_simp
    rw [if_neg (by have := HL.out; omega)]
    exact congrArg (fun x => Result.ok (Next.value (Value.string x)) w') (str_cat [40, 45, 32] s)
  simp only [Act.put, List.setIfInBounds_toArray, List.set_cons_zero, List.set_cons_succ]
  refine WE.pure (d := some 30) rfl rfl (by rfl) (v := str (40 :: 45 :: 32 :: (s ++ [32, 41]))) (fun w' hk => ?_) ?_
  · go_simp
    rw [if_neg (by have := HL.out; omega)]
    exact congrArg (fun x => Result.ok (Next.value (Value.string x)) w') (str_cat (40 :: 45 :: 32 :: s) [32, 41])
  simp only [Act.put, List.setIfInBounds_toArray, List.set_cons_zero, List.set_cons_succ]
  refine WE.pure (d := some 31) rfl rfl (by rfl) (v := (str s)) (fun w' hk => ?_) ?_
  · go_simp
  simp only [Act.put, List.setIfInBounds_toArray, List.set_cons_zero, List.set_cons_succ]
  refine WE.pure (d := some 32) rfl rfl (by rfl) (v := str (43 :: s)) (fun w' hk => ?_) ?_
  · go_simp
    rw [if_neg (by have := HL.out; omega)]
    exact congrArg (fun x => Result.ok (Next.value (Value.string x)) w') (str_cat [43] s)
  simp only [Act.put, List.setIfInBounds_toArray, List.set_cons_zero, List.set_cons_succ]
  refine WE.pure (d := some 33) rfl rfl (by rfl) (v := (str s)) (fun w' hk => ?_) ?_
  · go_simp
  simp only [Act.put, List.setIfInBounds_toArray, List.set_cons_zero, List.set_cons_succ]
  refine WE.pure (d := some 34) rfl rfl (by rfl) (v := str (40 :: 45 :: 32 :: 40 :: 45 :: 32 :: s)) (fun w' hk => ?_) ?_
  · go_simp
    rw [if_neg (by have := HL.out; omega)]
    exact congrArg (fun x => Result.ok (Next.value (Value.string x)) w') (str_cat [40, 45, 32, 40, 45, 32] s)
  simp only [Act.put, List.setIfInBounds_toArray, List.set_cons_zero, List.set_cons_succ]
  refine WE.pure (d := some 35) rfl rfl (by rfl) (v := str (40 :: 45 :: 32 :: 40 :: 45 :: 32 :: (s ++ [41, 41]))) (fun w' hk => ?_) ?_
  · go_simp
    rw [if_neg (by have := HL.out; omega)]
    exact congrArg (fun x => Result.ok (Next.value (Value.string x)) w') (str_cat (40 :: 45 :: 32 :: 40 :: 45 :: 32 :: s) [41, 41])
  simp only [Act.put, List.setIfInBounds_toArray, List.set_cons_zero, List.set_cons_succ]
  refine WE.pure (d := some 36) rfl rfl (by rfl) (v := (.agg #[str (45 :: s), str (40 :: 45 :: (s ++ [41])), str (40 :: 45 :: 32 :: s), str [40, 45, 32, 48, 41], str (40 :: 32 :: 45 :: 32 :: (s ++ [41])), str (40 :: 45 :: 32 :: (s ++ [32, 41])), str (43 :: s), str (40 :: 45 :: 32 :: 40 :: 45 :: 32 :: (s ++ [41, 41]))])) (fun w' hk => ?_) ?_
  · go_simp
  simp only [Act.put, List.setIfInBounds_toArray, List.set_cons_zero, List.set_cons_succ]
  refine WE.new (d := some 6) (cs := #[str [], str [], str [], str [], str [], str [], str [], str []]) (t := 47) (v := fun g => (.pointer (some ⟨g, 0, none⟩))) rfl rfl (by rfl) (fun w => by go_simp) fun gF wv hx0 hbox hge => ?_
  have HGF := hid (show W.heap.size ≤ gF by have := E.out.size; omega)
  replace E := hid (E.out.trans hx0)
  replace R1 := hid (R1.out.up hx0)
  have F : Hid (Box wv gF #[str [], str [], str [], str [], str [], str [], str [], str []] 47) := hid hbox
  clear hx0 hbox hge
  simp only [Act.put, List.setIfInBounds_toArray, List.set_cons_zero, List.set_cons_succ]
  refine WE.store8 (g := gF) (x0 := str (45 :: s)) (x1 := str (40 :: 45 :: (s ++ [41]))) (x2 := str (40 :: 45 :: 32 :: s)) (x3 := str [40, 45, 32, 48, 41]) (x4 := str (40 :: 32 :: 45 :: 32 :: (s ++ [41]))) (x5 := str (40 :: 45 :: 32 :: (s ++ [32, 41]))) (x6 := str (43 :: s)) (x7 := str (40 :: 45 :: 32 :: 40 :: 45 :: 32 :: (s ++ [41, 41]))) (t := 47) rfl rfl (by rfl) (fun w hb => ?_) F.out (by rfl) fun ws hk hs hbx => ?_
  · have c0 := hb.cell (o := 0) (v := str []) rfl; have f0 := hb.free 0; have c1 := hb.cell (o := 1) (v := str []) rfl; have f1 := hb.free 1; have c2 := hb.cell (o := 2) (v := str []) rfl; have f2 := hb.free 2; have c3 := hb.cell (o := 3) (v := str []) rfl; have f3 := hb.free 3; have c4 := hb.cell (o := 4) (v := str []) rfl; have f4 := hb.free 4; have c5 := hb.cell (o := 5) (v := str []) rfl; have f5 := hb.free 5; have c6 := hb.cell (o := 6) (v := str []) rfl; have f6 := hb.free 6; have c7 := hb.cell (o := 7) (v := str []) rfl; have f7 := hb.free 7; go_simp
  replace E := hid (E.out.keptG hk HGF.out)
  replace F := hid hbx
  replace R1 := hid (R1.out.kz hs)
  clear hk hs hbx
  refine WE.done ?_
  clear R1
  go_upto_region 5 with (fail)
  refine wp_region_T [(0, 0), (1, 0), (2, 0), (3, 0), (4, 1), (5, 0), (6, 0), (7, 0), (8, 1), (9, 4), (10, 0)] (by kernel_rfl) fun wd hb => ?_
  replace E := hid (E.out.trans hb)
  replace F := hid (F.out.up hb)
  clear hb
  refine WE.pure (d := some 38) rfl rfl (by rfl) (v := (.int .u8 b)) (fun w' hk => ?_) ?_
  · go_simp
  simp only [Act.put, List.setIfInBounds_toArray, List.set_cons_zero, List.set_cons_succ]
  refine WE.pure (d := some 39) rfl rfl (by rfl) (v := (.int .u8 (k : Int))) (fun w' hk => ?_) ?_
  · have q : b.tmod 8 = (k : Int) := (by rw [Int.tmod_eq_emod_of_nonneg HB0.out, HB.out]); go_simp
  simp only [Act.put, List.setIfInBounds_toArray, List.set_cons_zero, List.set_cons_succ]
  refine WE.pure (d := some 40) rfl rfl (by rfl) (v := (.pointer (some ⟨gF, k, none⟩))) (fun w' hk => ?_) ?_
  · have q : ¬ (8 : Int) ≤ (k : Int) := (by have := HK.out; omega); go_simp
  simp only [Act.put, List.setIfInBounds_toArray, List.set_cons_zero, List.set_cons_succ]
  refine WE.pure (d := some 41) rfl rfl (by rfl) (v := (str f)) (fun w' hk => ?_) ?_
  · have c := hk.cell (F.out.cell (o := k) (v := str f) HF.out); go_simp
  simp only [Act.put, List.setIfInBounds_toArray, List.set_cons_zero, List.set_cons_succ]
  refine WE.call (d := some 42) rfl rfl (by rfl) (f := 9) (args := #[(str f)]) (by go_simp) ?_
  refine (parse_to (l := f) (by have := HFL.out; omega) _ rfl HP.out).mono ?_
  rintro e wn ⟨vx, rfl, hx, hb⟩
  obtain ⟨g2, A2, n2, c2, rfl, hs2, hr2⟩ := hx.form
  clear hx
  refine ⟨_, rfl, hb, ?_⟩
  replace E := hid (E.out.trans hb)
  replace F := hid (F.out.up hb)
  have HS2 := hid hs2
  have R2 := hid hr2
  clear hb hs2 hr2
  simp only [Act.put, List.setIfInBounds_toArray, List.set_cons_zero, List.set_cons_succ]
  refine WE.pure (d := some 37) rfl rfl (by rfl) (v := (.tuple #[(.agg #[.bool g2, .slice A2 n2 c2]), (.int .i64 10)])) (fun w' hk => ?_) ?_
  · go_simp
  simp only [Act.put, List.setIfInBounds_toArray, List.set_cons_zero, List.set_cons_succ]
  refine WE.pure (d := some 43) rfl rfl (by rfl) (v := (.agg #[.bool g2, .slice A2 n2 c2])) (fun w' hk => ?_) ?_
  · go_simp
  simp only [Act.put, List.setIfInBounds_toArray, List.set_cons_zero, List.set_cons_succ]
  refine WE.pure (d := some 44) rfl rfl (by rfl) (v := (.int .i64 10)) (fun w' hk => ?_) ?_
  · go_simp
  simp only [Act.put, List.setIfInBounds_toArray, List.set_cons_zero, List.set_cons_succ]
  refine WE.new (d := some 7) (cs := #[.bool false, .slice none 0 0]) (t := 24) (v := fun g => (.pointer (some ⟨g, 0, none⟩))) rfl rfl (by rfl) (fun w => by go_simp) fun gN1 wv hx0 hbox hge => ?_
  have HNN1F := hid (show gN1 ≠ gF by have := F.out.lt; omega)
  have HGN1 := hid (show W.heap.size ≤ gN1 by have := E.out.size; omega)
  replace E := hid (E.out.trans hx0)
  replace F := hid (F.out.up hx0)
  replace R2 := hid (R2.out.up hx0)
  have N1 : Hid (Box wv gN1 #[.bool false, .slice none 0 0] 24) := hid hbox
  clear hx0 hbox hge
  simp only [Act.put, List.setIfInBounds_toArray, List.set_cons_zero, List.set_cons_succ]
  refine WE.store2 (g := gN1) (x := .bool g2) (y := .slice A2 n2 c2) (t := 24) rfl rfl (by rfl) (fun w hb => ?_) N1.out (by rfl) fun ws hk hs => ?_
  · have c0 := hb.cell (o := 0) (v := .bool false) rfl; have f0 := hb.free 0; have c1 := hb.cell (o := 1) (v := .slice none 0 0) rfl; have f1 := hb.free 1; go_simp
  intro hbx
  replace E := hid (E.out.keptG hk HGN1.out)
  replace F := hid (F.out.kept hk (by simpa using HNN1F.out.symm))
  replace N1 := hid hbx
  replace R2 := hid (R2.out.kz hs)
  clear hk hs hbx
  refine WE.pure (d := some 8) rfl rfl (by rfl) (v := (.int .i64 10)) (fun w' hk => ?_) ?_
  · go_simp
  simp only [Act.put, List.setIfInBounds_toArray, List.set_cons_zero, List.set_cons_succ]
  refine WE.done ?_
  clear R2
  go_upto_region 6 with (fail)
  refine wp_region_T [(0, 0), (1, 0), (2, 0), (3, 1), (4, 0), (5, 0), (6, 0), (7, 1), (8, 4), (9, 0)] (by kernel_rfl) fun wd hb => ?_
  replace E := hid (E.out.trans hb)
  replace F := hid (F.out.up hb)
  replace N1 := hid (N1.out.up hb)
  clear hb
  refine WE.pure (d := some 46) rfl rfl (by rfl) (v := (str s)) (fun w' hk => ?_) ?_
  · go_simp
  simp only [Act.put, List.setIfInBounds_toArray, List.set_cons_zero, List.set_cons_succ]
  refine WE.pure (d := some 47) rfl rfl (by rfl) (v := str (40 :: 45 :: 32 :: s)) (fun w' hk => ?_) ?_
  · go_simp
    rw [if_neg (by have := HL.out; omega)]
    exact congrArg (fun x => Result.ok (Next.value (Value.string x)) w') (str_cat [40, 45, 32] s)
  simp only [Act.put, List.setIfInBounds_toArray, List.set_cons_zero, List.set_cons_succ]
  refine WE.pure (d := some 48) rfl rfl (by rfl) (v := str (40 :: 45 :: 32 :: (s ++ [41]))) (fun w' hk => ?_) ?_
  · go_simp
    rw [if_neg (by have := HL.out; omega)]
    exact congrArg (fun x => Result.ok (Next.value (Value.string x)) w') (str_cat (40 :: 45 :: 32 :: s) [41])
  simp only [Act.put, List.setIfInBounds_toArray, List.set_cons_zero, List.set_cons_succ]
  refine WE.call (d := some 49) rfl rfl (by rfl) (f := 9) (args := #[(str (40 :: 45 :: 32 :: (s ++ [41])))]) (by go_simp) ?_
  refine (parse_to (l := 40 :: 45 :: 32 :: (s ++ [41])) (by have := HL.out; simp; omega) _ HQ.out.2 HQ.out.1).mono ?_
  rintro e wn ⟨vx, rfl, hx, hb⟩
  obtain ⟨g3, A3, n3, c3, rfl, hs3, hr3⟩ := hx.form
  clear hx
  refine ⟨_, rfl, hb, ?_⟩
  replace E := hid (E.out.trans hb)
  replace F := hid (F.out.up hb)
  replace N1 := hid (N1.out.up hb)
  have HS3 := hid hs3
  have R3 := hid hr3
  clear hb hs3 hr3
  simp only [Act.put, List.setIfInBounds_toArray, List.set_cons_zero, List.set_cons_succ]
  refine WE.pure (d := some 45) rfl rfl (by rfl) (v := (.tuple #[(.agg #[.bool g3, .slice A3 n3 c3]), (.int .i64 0)])) (fun w' hk => ?_) ?_
  · go_simp
  simp only [Act.put, List.setIfInBounds_toArray, List.set_cons_zero, List.set_cons_succ]
  refine WE.pure (d := some 50) rfl rfl (by rfl) (v := (.agg #[.bool g3, .slice A3 n3 c3])) (fun w' hk => ?_) ?_
  · go_simp
  simp only [Act.put, List.setIfInBounds_toArray, List.set_cons_zero, List.set_cons_succ]
  refine WE.pure (d := some 51) rfl rfl (by rfl) (v := (.int .i64 0)) (fun w' hk => ?_) ?_
  · go_simp
  simp only [Act.put, List.setIfInBounds_toArray, List.set_cons_zero, List.set_cons_succ]
  refine WE.new (d := some 9) (cs := #[.bool false, .slice none 0 0]) (t := 24) (v := fun g => (.pointer (some ⟨g, 0, none⟩))) rfl rfl (by rfl) (fun w => by go_simp) fun gN2 wv hx0 hbox hge => ?_
  have HNN2F := hid (show gN2 ≠ gF by have := F.out.lt; omega)
  have HNN2N1 := hid (show gN2 ≠ gN1 by have := N1.out.lt; omega)
  have HGN2 := hid (show W.heap.size ≤ gN2 by have := E.out.size; omega)
  replace E := hid (E.out.trans hx0)
  replace F := hid (F.out.up hx0)
  replace N1 := hid (N1.out.up hx0)
  replace R3 := hid (R3.out.up hx0)
  have N2 : Hid (Box wv gN2 #[.bool false, .slice none 0 0] 24) := hid hbox
  clear hx0 hbox hge
  simp only [Act.put, List.setIfInBounds_toArray, List.set_cons_zero, List.set_cons_succ]
  refine WE.store2 (g := gN2) (x := .bool g3) (y := .slice A3 n3 c3) (t := 24) rfl rfl (by rfl) (fun w hb => ?_) N2.out (by rfl) fun ws hk hs => ?_
  · have c0 := hb.cell (o := 0) (v := .bool false) rfl; have f0 := hb.free 0; have c1 := hb.cell (o := 1) (v := .slice none 0 0) rfl; have f1 := hb.free 1; go_simp
  intro hbx
  replace E := hid (E.out.keptG hk HGN2.out)
  replace F := hid (F.out.kept hk (by simpa using HNN2F.out.symm))
  replace N1 := hid (N1.out.kept hk (by simpa using HNN2N1.out.symm))
  replace N2 := hid hbx
  replace R3 := hid (R3.out.kz hs)
  clear hk hs hbx
  refine WE.pure (d := some 10) rfl rfl (by rfl) (v := (.int .i64 0)) (fun w' hk => ?_) ?_
  · go_simp
  simp only [Act.put, List.setIfInBounds_toArray, List.set_cons_zero, List.set_cons_succ]
  refine WE.done ?_
  go_upto_region 7 with (fail)
  refine wp_region_E [(0, 0), (1, 0), (2, 0), (3, 0), (4, 0), (5, 0), (6, 0), (7, 0), (8, 0), (9, 0), (10, 0), (11, 0), (12, 1), (13, 1), (14, 0), (15, 0)] (fun _ => (0, #[])) rfl (by kernel_rfl) (by intro j hj; cases hj) (fun _ _ d _ _ => by cases d <;> exact Iff.rfl) fun wd hb => ?_
  replace E := hid (E.out.trans hb)
  replace F := hid (F.out.up hb)
  replace N1 := hid (N1.out.up hb)
  replace N2 := hid (N2.out.up hb)
  replace R3 := hid (R3.out.up hb)
  clear hb
  refine WE.pure (d := some 52) rfl rfl (by rfl) (v := (.int .i64 10)) (fun w' hk => ?_) ?_
  · go_simp
  simp only [Act.put, List.setIfInBounds_toArray, List.set_cons_zero, List.set_cons_succ]
  refine WE.pure (d := some 53) rfl rfl (by rfl) (v := (.bool true)) (fun w' hk => ?_) ?_
  · go_simp
  simp only [Act.put, List.setIfInBounds_toArray, List.set_cons_zero, List.set_cons_succ]
  refine WE.pure (d := some 54) rfl rfl (by rfl) (v := (.bool true)) (fun w' hk => ?_) ?_
  · go_simp
  simp only [Act.put, List.setIfInBounds_toArray, List.set_cons_zero, List.set_cons_succ]
  refine WE.pure (d := some 55) rfl rfl (by rfl) (v := (.int .i64 0)) (fun w' hk => ?_) ?_
  · go_simp
  simp only [Act.put, List.setIfInBounds_toArray, List.set_cons_zero, List.set_cons_succ]
  refine WE.pure (d := some 56) rfl rfl (by rfl) (v := (.bool true)) (fun w' hk => ?_) ?_
  · go_simp
  simp only [Act.put, List.setIfInBounds_toArray, List.set_cons_zero, List.set_cons_succ]
  refine WE.pure (d := some 57) rfl rfl (by rfl) (v := (.bool true)) (fun w' hk => ?_) ?_
  · go_simp
  simp only [Act.put, List.setIfInBounds_toArray, List.set_cons_zero, List.set_cons_succ]
  refine WE.pure (d := some 58) rfl rfl (by rfl) (v := (.bool true)) (fun w' hk => ?_) ?_
  · go_simp
  simp only [Act.put, List.setIfInBounds_toArray, List.set_cons_zero, List.set_cons_succ]
  refine WE.pure (d := some 59) rfl rfl (by rfl) (v := (.agg #[.bool g3, .slice A3 n3 c3])) (fun w' hk => ?_) ?_
  · have c0 := hk.cell (N2.out.cell (o := 0) (v := .bool g3) rfl); have c1 := hk.cell (N2.out.cell (o := 1) (v := .slice A3 n3 c3) rfl); go_simp
  simp only [Act.put, List.setIfInBounds_toArray, List.set_cons_zero, List.set_cons_succ]
  refine WE.pure (d := some 60) rfl rfl (by rfl) (v := (.int .u32 (m : Int))) (fun w' hk => ?_) ?_
  · go_simp
  simp only [Act.put, List.setIfInBounds_toArray, List.set_cons_zero, List.set_cons_succ]
  refine WE.pure (d := some 61) rfl rfl (by rfl) (v := (.int .i64 (m : Int))) (fun w' hk => ?_) ?_
  · have q : IntKind.i64.wrap (m : Int) = (m : Int) := (by rw [IntKind.wrap_i64]; have := HM.out; omega); go_simp
  simp only [Act.put, List.setIfInBounds_toArray, List.set_cons_zero, List.set_cons_succ]
  refine WE.pure (d := some 62) rfl rfl (by rfl) (v := (.int .i64 (-(m : Int)))) (fun w' hk => ?_) ?_
  · have q : IntKind.i64.wrap (-(m : Int)) = -(m : Int) := (by rw [IntKind.wrap_i64]; have := HM.out; omega); go_simp
  simp only [Act.put, List.setIfInBounds_toArray, List.set_cons_zero, List.set_cons_succ]
  refine WE.pure (d := some 63) rfl rfl (by rfl) (v := (.int .i64 (-(m : Int) - 1))) (fun w' hk => ?_) ?_
  · have q : IntKind.i64.wrap (-(m : Int) - 1) = -(m : Int) - 1 := (by rw [IntKind.wrap_i64]; have := HM.out; omega); go_simp
  simp only [Act.put, List.setIfInBounds_toArray, List.set_cons_zero, List.set_cons_succ]
  refine WE.call (d := some 64) rfl rfl (by rfl) (f := 22) (args := #[(.int .i64 (-(m : Int) - 1))]) (by go_simp) ?_
  refine (rOf_z (n := -(m : Int) - 1) (by have := HM.out; omega) (by omega) _).mono ?_
  rintro e wn ⟨vx, rfl, hx, hb⟩
  obtain ⟨g4, A4, n4, c4, rfl, hs4, hr4⟩ := hx.form
  clear hx
  refine ⟨_, rfl, hb, ?_⟩
  replace E := hid (E.out.trans hb)
  replace F := hid (F.out.up hb)
  replace N1 := hid (N1.out.up hb)
  replace N2 := hid (N2.out.up hb)
  replace R3 := hid (R3.out.up hb)
  have HS4 := hid hs4
  have R4 := hid hr4
  clear hb hs4 hr4
  simp only [Act.put, List.setIfInBounds_toArray, List.set_cons_zero, List.set_cons_succ]
  refine WE.call (d := some 65) rfl rfl (by rfl) (f := 17) (args := #[(.agg #[.bool g3, .slice A3 n3 c3]), (.agg #[.bool g4, .slice A4 n4 c4])]) (by go_simp) ?_
  refine (equal_z (IsZ.mk HS3.out R3.out) (IsZ.mk HS4.out R4.out)).mono ?_
  rintro e wn ⟨rfl, hb⟩
  refine ⟨_, rfl, hb, ?_⟩
  replace E := hid (E.out.trans hb)
  replace F := hid (F.out.up hb)
  replace N1 := hid (N1.out.up hb)
  replace N2 := hid (N2.out.up hb)
  replace R3 := hid (R3.out.up hb)
  replace R4 := hid (R4.out.up hb)
  clear hb
  simp only [Act.put, List.setIfInBounds_toArray, List.set_cons_zero, List.set_cons_succ]
  refine WE.pure (d := some 66) rfl rfl (by rfl) (v := (.bool true)) (fun w' hk => ?_) ?_
  · go_simp
  simp only [Act.put, List.setIfInBounds_toArray, List.set_cons_zero, List.set_cons_succ]
  refine WE.pure (d := some 4) rfl rfl (by rfl) (v := (.bool true)) (fun w' hk => ?_) ?_
  · go_simp
  simp only [Act.put, List.setIfInBounds_toArray, List.set_cons_zero, List.set_cons_succ]
  refine WE.done ?_
  go_wp2
  go_ret
  exact ⟨rfl, E.out⟩

end Go.Proofs.YthlafkbldlmmaaaDoor
