/-
  DigitsBack, a walk.
-/
import Derived.Test.YthlafkbldlmmaaaDoorTLaid
import Derived.Test.YthlafkbldlmmaaaDoorTBackS
namespace Go.Proofs.YthlafkbldlmmaaaDoor
open Go.ChangeShapes Go.WideShapes Go.ChangeAt Go.RowKit
set_option linter.unusedSimpArgs false
set_option linter.unusedVariables false

set_option maxRecDepth 100000 in
set_option maxHeartbeats 8000000 in
theorem digitsBack_zero (W : World) (ht : Tab W) (g : Bool) (A : Option Addr) (n c : Nat) (l : List Nat) (h : Num W W.heap.size (.slice A n c) l) (d : Int) (hd0 : 0 ≤ d) (f1 : Hid (decide (20 < (n : Int)) = false)) (f2 : Hid (M.isZ g l = true)) (r y : Nat) (hr : d % 10 = (r : Int)) (hr10 : r < 10) (hy : y = 48 + r) (Z : Int) (hz : M.zv g l = Z) (hll : l.length ≤ 20) (s tt : List UInt8) (hs : M.print Z = s) (hsl : s.length ≤ 1000) (hps : M.perr s = 0 ∧ M.pval s = Z) (htt : Lib.decDigits Z.natAbs = tt) (htl : tt.length ≤ 1000) (hsp : M.perr (s ++ [32]) = 10) (hn0 : n = 0) (hpt : M.perr (tt ++ [UInt8.ofNat y]) = 10) :
    Calls Tryd.prog 4 #[.agg #[.bool g, .slice A n c], .int .u8 d] W (fun e w' => e = .returned (.bool true) ∧ Ext W w') := by
  have RA := hid (show IsN W (.slice A n c) Z.natAbs 20 from by subst hz; rw [M.zv_abs f2.out]; exact ⟨by have e := M.limbs_zv f2.out; rw [M.zv_abs f2.out] at e; rw [e]; exact h, by have e := M.limbs_zv f2.out; rw [M.zv_abs f2.out] at e; rw [e]; exact hll⟩)
  have HSA := hid (show g = decide (Z < 0) from by subst hz; exact (M.zv_lt f2.out).symm)
  have HT := hid ht
  have NA := hid h
  have HD0 := hid hd0
  clear ht h hd0
  have HR := hid hr
  have HR10 := hid hr10
  have HY := hid hy
  have HZ := hid hz
  have HLL := hid hll
  have HS := hid hs
  have HSL := hid hsl
  have HPS := hid hps
  have HTT := hid htt
  have HTL := hid htl
  have HSP := hid hsp
  have HN0 := hid hn0
  have HPT := hid hpt
  clear hr hr10 hy hz hll hs hsl hps htt htl hsp hn0 hpt
  go_enter Tryd.func4, Tryd.ntmps4
  go_upto_region 1 with (fail)
  have E := hid ((Ext.refl W).alloc' (.cells #[.bool g, .slice A n c] 24))
  have B : Hid (Box (W.alloc (.cells #[.bool g, .slice A n c] 24)) (W.heap.size) #[.bool g, .slice A n c] 24) := hid (Box.at_ (w := W) #[.bool g, .slice A n c] 24 (by simp))
  replace NA := hid (NA.out.up E.out)
  replace RA := hid (RA.out.up E.out)
  refine wp_region_T [(0, 1), (1, 0)] (by kernel_rfl) fun wd hb => ?_
  replace E := hid (E.out.trans hb)
  replace B := hid (B.out.up hb)
  replace NA := hid (NA.out.up hb)
  replace RA := hid (RA.out.up hb)
  clear hb
  refine WE.call (d := some 14) rfl rfl (by rfl) (f := 8) (args := #[]) (by go_simp) ?_
  refine (known3 _ (HT.out.up E.out)).mono ?_
  rintro e wn ⟨rfl, hb⟩
  refine ⟨_, rfl, hb, ?_⟩
  replace E := hid (E.out.trans hb)
  replace B := hid (B.out.up hb)
  replace NA := hid (NA.out.up hb)
  replace RA := hid (RA.out.up hb)
  clear hb
  simp only [Act.put, List.setIfInBounds_toArray, List.set_cons_zero, List.set_cons_succ]
  refine WE.pure (d := some 15) rfl rfl (by rfl) (v := (.bool false)) (fun w' hk => ?_) ?_
  · go_simp
  simp only [Act.put, List.setIfInBounds_toArray, List.set_cons_zero, List.set_cons_succ]
  refine WE.done ?_
  go_upto_region 3 with (fail)
  refine wp_region_T [(0, 0), (1, 0), (2, 0), (3, 0), (4, 0), (5, 0), (6, 1), (7, 0), (8, 0)] (by kernel_rfl) fun wd hb => ?_
  replace E := hid (E.out.trans hb)
  replace B := hid (B.out.up hb)
  replace NA := hid (NA.out.up hb)
  replace RA := hid (RA.out.up hb)
  clear hb
  refine WE.pure (d := some 16) rfl rfl (by rfl) (v := (.pointer (some ⟨(W.heap.size), 1, none⟩))) (fun w' hk => ?_) ?_
  · go_simp
  simp only [Act.put, List.setIfInBounds_toArray, List.set_cons_zero, List.set_cons_succ]
  refine WE.pure (d := some 17) rfl rfl (by rfl) (v := (.slice A n c)) (fun w' hk => ?_) ?_
  · have c1 := hk.cell (B.out.cell (o := 1) (v := .slice A n c) rfl); go_simp
  simp only [Act.put, List.setIfInBounds_toArray, List.set_cons_zero, List.set_cons_succ]
  refine WE.pure (d := some 18) rfl rfl (by rfl) (v := (.int .i64 (n : Int))) (fun w' hk => ?_) ?_
  · go_simp
  simp only [Act.put, List.setIfInBounds_toArray, List.set_cons_zero, List.set_cons_succ]
  refine WE.pure (d := some 19) rfl rfl (by rfl) (v := (.bool false)) (fun w' hk => ?_) ?_
  · have q := f1.out; go_simp
  simp only [Act.put, List.setIfInBounds_toArray, List.set_cons_zero, List.set_cons_succ]
  refine WE.pure (d := some 20) rfl rfl (by rfl) (v := (.bool false)) (fun w' hk => ?_) ?_
  · go_simp
  simp only [Act.put, List.setIfInBounds_toArray, List.set_cons_zero, List.set_cons_succ]
  refine WE.pure (d := some 21) rfl rfl (by rfl) (v := (.agg #[.bool g, .slice A n c])) (fun w' hk => ?_) ?_
  · have c0 := hk.cell (B.out.cell (o := 0) (v := .bool g) rfl); have c1 := hk.cell (B.out.cell (o := 1) (v := .slice A n c) rfl); go_simp
  simp only [Act.put, List.setIfInBounds_toArray, List.set_cons_zero, List.set_cons_succ]
  refine WE.call (d := some 22) rfl rfl (by rfl) (f := 18) (args := #[(.agg #[.bool g, .slice A n c])]) (by go_simp) ?_
  refine (rzIs_any NA.out f2.out).mono ?_
  rintro e wn ⟨rfl, hb⟩
  refine ⟨_, rfl, hb, ?_⟩
  replace E := hid (E.out.trans hb)
  replace B := hid (B.out.up hb)
  replace NA := hid (NA.out.up hb)
  replace RA := hid (RA.out.up hb)
  clear hb
  simp only [Act.put, List.setIfInBounds_toArray, List.set_cons_zero, List.set_cons_succ]
  refine WE.pure (d := some 23) rfl rfl (by rfl) (v := (.bool false)) (fun w' hk => ?_) ?_
  · go_simp
  simp only [Act.put, List.setIfInBounds_toArray, List.set_cons_zero, List.set_cons_succ]
  refine WE.pure (d := some 24) rfl rfl (by rfl) (v := (.bool false)) (fun w' hk => ?_) ?_
  · go_simp
  simp only [Act.put, List.setIfInBounds_toArray, List.set_cons_zero, List.set_cons_succ]
  refine WE.done ?_
  go_upto_region 5 with (fail)
  refine wp_region_T [(0, 0), (1, 1), (2, 0)] (by kernel_rfl) fun wd hb => ?_
  replace E := hid (E.out.trans hb)
  replace B := hid (B.out.up hb)
  replace NA := hid (NA.out.up hb)
  replace RA := hid (RA.out.up hb)
  clear hb
  refine WE.pure (d := some 25) rfl rfl (by rfl) (v := (.agg #[.bool g, .slice A n c])) (fun w' hk => ?_) ?_
  · have c0 := hk.cell (B.out.cell (o := 0) (v := .bool g) rfl); have c1 := hk.cell (B.out.cell (o := 1) (v := .slice A n c) rfl); go_simp
  simp only [Act.put, List.setIfInBounds_toArray, List.set_cons_zero, List.set_cons_succ]
  refine WE.call (d := some 26) rfl rfl (by rfl) (f := 11) (args := #[(.agg #[.bool g, .slice A n c])]) (by go_simp) ?_
  refine (print_to (IsZ.mk HSA.out RA.out).worth (by omega) (HT.out.up E.out) HS.out).mono ?_
  rintro e wn ⟨rfl, hb⟩
  refine ⟨_, rfl, hb, ?_⟩
  replace E := hid (E.out.trans hb)
  replace B := hid (B.out.up hb)
  replace NA := hid (NA.out.up hb)
  replace RA := hid (RA.out.up hb)
  clear hb
  simp only [Act.put, List.setIfInBounds_toArray, List.set_cons_zero, List.set_cons_succ]
  refine WE.pure (d := some 5) rfl rfl (by rfl) (v := (str s)) (fun w' hk => ?_) ?_
  · go_simp
  simp only [Act.put, List.setIfInBounds_toArray, List.set_cons_zero, List.set_cons_succ]
  refine WE.done ?_
  go_upto_region 6 with (fail)
  refine wp_region_T [(0, 0), (1, 1), (2, 0), (3, 0), (4, 0), (5, 1), (6, 4), (7, 0)] (by kernel_rfl) fun wd hb => ?_
  replace E := hid (E.out.trans hb)
  replace B := hid (B.out.up hb)
  replace NA := hid (NA.out.up hb)
  replace RA := hid (RA.out.up hb)
  clear hb
  refine WE.pure (d := some 28) rfl rfl (by rfl) (v := (str s)) (fun w' hk => ?_) ?_
  · go_simp
  simp only [Act.put, List.setIfInBounds_toArray, List.set_cons_zero, List.set_cons_succ]
  refine WE.call (d := some 29) rfl rfl (by rfl) (f := 9) (args := #[(str s)]) (by go_simp) ?_
  refine (parse_to (l := s) (by have := HSL.out; omega) _ HPS.out.2 HPS.out.1).mono ?_
  rintro e wn ⟨vx, rfl, hx, hb⟩
  obtain ⟨g1, A1, n1, c1, rfl, hs1, hr1⟩ := hx.form
  clear hx
  refine ⟨_, rfl, hb, ?_⟩
  replace E := hid (E.out.trans hb)
  replace B := hid (B.out.up hb)
  replace NA := hid (NA.out.up hb)
  replace RA := hid (RA.out.up hb)
  have HS1 := hid hs1
  have R1 := hid hr1
  clear hb hs1 hr1
  simp only [Act.put, List.setIfInBounds_toArray, List.set_cons_zero, List.set_cons_succ]
  refine WE.pure (d := some 27) rfl rfl (by rfl) (v := (.tuple #[(.agg #[.bool g1, .slice A1 n1 c1]), (.int .i64 0)])) (fun w' hk => ?_) ?_
  · go_simp
  simp only [Act.put, List.setIfInBounds_toArray, List.set_cons_zero, List.set_cons_succ]
  refine WE.pure (d := some 30) rfl rfl (by rfl) (v := (.agg #[.bool g1, .slice A1 n1 c1])) (fun w' hk => ?_) ?_
  · go_simp
  simp only [Act.put, List.setIfInBounds_toArray, List.set_cons_zero, List.set_cons_succ]
  refine WE.pure (d := some 31) rfl rfl (by rfl) (v := (.int .i64 0)) (fun w' hk => ?_) ?_
  · go_simp
  simp only [Act.put, List.setIfInBounds_toArray, List.set_cons_zero, List.set_cons_succ]
  refine WE.new (d := some 6) (cs := #[.bool false, .slice none 0 0]) (t := 24) (v := fun g => (.pointer (some ⟨g, 0, none⟩))) rfl rfl (by rfl) (fun w => by go_simp) fun gN1 wv hx0 hbox hge => ?_
  have HNN1B := hid (show gN1 ≠ (W.heap.size) by have := B.out.lt; omega)
  have HGN1 := hid (show W.heap.size ≤ gN1 by have := E.out.size; omega)
  replace E := hid (E.out.trans hx0)
  replace B := hid (B.out.up hx0)
  replace NA := hid (NA.out.up hx0)
  replace RA := hid (RA.out.up hx0)
  replace R1 := hid (R1.out.up hx0)
  have N1 : Hid (Box wv gN1 #[.bool false, .slice none 0 0] 24) := hid hbox
  clear hx0 hbox hge
  simp only [Act.put, List.setIfInBounds_toArray, List.set_cons_zero, List.set_cons_succ]
  refine WE.store2 (g := gN1) (x := .bool g1) (y := .slice A1 n1 c1) (t := 24) rfl rfl (by rfl) (fun w hb => ?_) N1.out (by rfl) fun ws hk hs => ?_
  · have c0 := hb.cell (o := 0) (v := .bool false) rfl; have f0 := hb.free 0; have c1 := hb.cell (o := 1) (v := .slice none 0 0) rfl; have f1 := hb.free 1; go_simp
  intro hbx
  replace E := hid (E.out.keptG hk HGN1.out)
  replace B := hid (B.out.kept hk (by simpa using HNN1B.out.symm))
  replace N1 := hid hbx
  replace NA := hid (NA.out.kz hs)
  replace RA := hid (RA.out.kz hs)
  replace R1 := hid (R1.out.kz hs)
  clear hk hs hbx
  refine WE.pure (d := some 7) rfl rfl (by rfl) (v := (.int .i64 0)) (fun w' hk => ?_) ?_
  · go_simp
  simp only [Act.put, List.setIfInBounds_toArray, List.set_cons_zero, List.set_cons_succ]
  refine WE.done ?_
  go_upto_region 7 with (fail)
  refine region_via (fun a a' w' => ∃ gb : Nat, a' = (((((((((a.put (some 32) (.pointer (some ⟨W.heap.size, 1, none⟩))).put (some 33) (.slice A n c)).put (some 34) (str tt)).put (some 35) (.int .u8 d)).put (some 36) (.int .u8 (r : Int))).put (some 37) (.int .u8 (y : Int))).put (some 38) (.slice (some ⟨gb, 0, none⟩) 1 1)).put (some 39) (str [UInt8.ofNat y])).put (some 40) (str (tt ++ [UInt8.ofNat y]))).put (some 8) (str (tt ++ [UInt8.ofNat y])) ∧ Ext ws w') ?_ ?_
  · have hb1 : ws.drew.cell? ⟨W.heap.size, 1, none⟩ = some (.slice A n c) := B.out.drew.cell (o := 1) (v := .slice A n c) rfl
    have hnat : ∀ wx, Ext ws wx → Calls Tryd.prog 13 #[.slice A n c] wx (fun e w' => e = .returned (str tt) ∧ Ext wx w') := fun wx hx => HTT.out ▸ digitsNat_N (RA.out.up hx) (by decide) (HT.out.up (E.out.trans hx))
    have q36 : d.tmod 10 = (r : Int) := by rw [Int.tmod_eq_emod_of_nonneg HD0.out, HR.out]
    have q37 : IntKind.u8.wrap (48 + (r : Int)) = (y : Int) := by rw [IntKind.wrap_u8]; have := HY.out; have := HR10.out; omega
    have hb2 : (ws.alloc (.cells #[.int .u8 (y : Int)] 5)).drew.cell? ⟨W.heap.size, 1, none⟩ = some (.slice A n c) := (B.out.alloc _).drew.cell (o := 1) (v := .slice A n c) rfl
    have hyy : y < 256 := by have := HY.out; have := HR10.out; omega
    have hcv : ∀ w0 : World, (convert 37 9 (.slice (some ⟨w0.heap.size, 0, none⟩) 1 1)).run Tryd.prog (w0.alloc (.cells #[.int .u8 (y : Int)] 5)) = .ok (str [UInt8.ofNat y]) (w0.alloc (.cells #[.int .u8 (y : Int)] 5)) := fun w0 => byte_text y hyy _ _ _ (Box.new w0 _ _)
    have hcv2 : (convert 37 9 (.slice (some ⟨ws.heap.size, 0, none⟩) 1 1)).run Tryd.prog (ws.alloc (.cells #[.int .u8 (y : Int)] 5)).drew = .ok (str [UInt8.ofNat y]) (ws.alloc (.cells #[.int .u8 (y : Int)] 5)).drew := byte_text y hyy _ _ _ (Box.drew (Box.new ws _ _))
    have hle : ¬ 9223372036854775807 < tt.length + 1 := by have := HTL.out; omega
    have hcat := str_cat tt [UInt8.ofNat y]
    have hnat1 : Calls Tryd.prog 13 #[.slice A n c] ws.drew (fun e w' => e = .returned (str tt) ∧ Ext ws w') := (hnat _ ((Ext.refl _).drew')).mono fun _ _ ⟨he, hb⟩ => ⟨he, ((Ext.refl _).drew').trans hb⟩
    have hnat2 : Calls Tryd.prog 13 #[.slice A n c] (ws.alloc (.cells #[.int .u8 (y : Int)] 5)).drew (fun e w' => e = .returned (str tt) ∧ Ext ws w' ∧ (convert 37 9 (.slice (some ⟨ws.heap.size, 0, none⟩) 1 1)).run Tryd.prog w' = .ok (str [UInt8.ofNat y]) w') := (hnat _ (((Ext.refl _).alloc' _).drew')).mono fun _ _ ⟨he, hb⟩ => ⟨he, (((Ext.refl _).alloc' _).drew').trans hb, byte_text y hyy _ _ _ ((Box.drew (Box.new ws _ _)).up hb)⟩
    clear hnat
    go_region_with (go_at_call 13; first | (refine hnat1.mono ?_; rintro e wn ⟨rfl, hb⟩) | (refine hnat2.mono ?_; rintro e wn ⟨rfl, hb, qb⟩))
    all_goals first | refine hid ⟨wn.heap.size, ?_, hb.alloc' _⟩ | refine hid ⟨ws.heap.size, ?_, hb⟩
    all_goals simp only [List.getElem_toArray, List.getElem_cons_succ, List.getElem_cons_zero, Act.put, List.setIfInBounds_toArray, List.set_cons_zero, List.set_cons_succ]
  rintro _ wv ⟨gb, rfl, hb⟩
  simp only [Act.put, List.setIfInBounds_toArray, List.set_cons_zero, List.set_cons_succ]
  replace E := hid (E.out.trans hb)
  replace B := hid (B.out.up hb)
  replace N1 := hid (N1.out.up hb)
  replace NA := hid (NA.out.up hb)
  replace RA := hid (RA.out.up hb)
  replace R1 := hid (R1.out.up hb)
  clear hb
  go_upto_region 8 with (fail)
  refine wp_region_T [(0, 0), (1, 1), (2, 0), (3, 0), (4, 0), (5, 1), (6, 4), (7, 0)] (by kernel_rfl) fun wd hb => ?_
  replace E := hid (E.out.trans hb)
  replace B := hid (B.out.up hb)
  replace N1 := hid (N1.out.up hb)
  replace NA := hid (NA.out.up hb)
  replace RA := hid (RA.out.up hb)
  replace R1 := hid (R1.out.up hb)
  clear hb
  refine WE.pure (d := some 42) rfl rfl (by rfl) (v := (str (tt ++ [UInt8.ofNat y]))) (fun w' hk => ?_) ?_
  · go_simp
  simp only [Act.put, List.setIfInBounds_toArray, List.set_cons_zero, List.set_cons_succ]
  refine WE.call (d := some 43) rfl rfl (by rfl) (f := 9) (args := #[(str (tt ++ [UInt8.ofNat y]))]) (by go_simp) ?_
  refine (parse_to (l := tt ++ [UInt8.ofNat y]) (by have := HTL.out; simp; omega) _ rfl HPT.out).mono ?_
  rintro e wn ⟨vx, rfl, hx, hb⟩
  obtain ⟨g2, A2, n2, c2, rfl, hs2, hr2⟩ := hx.form
  clear hx
  refine ⟨_, rfl, hb, ?_⟩
  replace E := hid (E.out.trans hb)
  replace B := hid (B.out.up hb)
  replace N1 := hid (N1.out.up hb)
  replace NA := hid (NA.out.up hb)
  replace RA := hid (RA.out.up hb)
  replace R1 := hid (R1.out.up hb)
  have HS2 := hid hs2
  have R2 := hid hr2
  clear hb hs2 hr2
  simp only [Act.put, List.setIfInBounds_toArray, List.set_cons_zero, List.set_cons_succ]
  refine WE.pure (d := some 41) rfl rfl (by rfl) (v := (.tuple #[(.agg #[.bool g2, .slice A2 n2 c2]), (.int .i64 10)])) (fun w' hk => ?_) ?_
  · go_simp
  simp only [Act.put, List.setIfInBounds_toArray, List.set_cons_zero, List.set_cons_succ]
  refine WE.pure (d := some 44) rfl rfl (by rfl) (v := (.agg #[.bool g2, .slice A2 n2 c2])) (fun w' hk => ?_) ?_
  · go_simp
  simp only [Act.put, List.setIfInBounds_toArray, List.set_cons_zero, List.set_cons_succ]
  refine WE.pure (d := some 45) rfl rfl (by rfl) (v := (.int .i64 10)) (fun w' hk => ?_) ?_
  · go_simp
  simp only [Act.put, List.setIfInBounds_toArray, List.set_cons_zero, List.set_cons_succ]
  refine WE.new (d := some 9) (cs := #[.bool false, .slice none 0 0]) (t := 24) (v := fun g => (.pointer (some ⟨g, 0, none⟩))) rfl rfl (by rfl) (fun w => by go_simp) fun gN2 wv hx0 hbox hge => ?_
  have HNN2B := hid (show gN2 ≠ (W.heap.size) by have := B.out.lt; omega)
  have HNN2N1 := hid (show gN2 ≠ gN1 by have := N1.out.lt; omega)
  have HGN2 := hid (show W.heap.size ≤ gN2 by have := E.out.size; omega)
  replace E := hid (E.out.trans hx0)
  replace B := hid (B.out.up hx0)
  replace N1 := hid (N1.out.up hx0)
  replace NA := hid (NA.out.up hx0)
  replace RA := hid (RA.out.up hx0)
  replace R1 := hid (R1.out.up hx0)
  replace R2 := hid (R2.out.up hx0)
  have N2 : Hid (Box wv gN2 #[.bool false, .slice none 0 0] 24) := hid hbox
  clear hx0 hbox hge
  simp only [Act.put, List.setIfInBounds_toArray, List.set_cons_zero, List.set_cons_succ]
  refine WE.store2 (g := gN2) (x := .bool g2) (y := .slice A2 n2 c2) (t := 24) rfl rfl (by rfl) (fun w hb => ?_) N2.out (by rfl) fun ws hk hs => ?_
  · have c0 := hb.cell (o := 0) (v := .bool false) rfl; have f0 := hb.free 0; have c1 := hb.cell (o := 1) (v := .slice none 0 0) rfl; have f1 := hb.free 1; go_simp
  intro hbx
  replace E := hid (E.out.keptG hk HGN2.out)
  replace B := hid (B.out.kept hk (by simpa using HNN2B.out.symm))
  replace N1 := hid (N1.out.kept hk (by simpa using HNN2N1.out.symm))
  replace N2 := hid hbx
  replace NA := hid (NA.out.kz hs)
  replace RA := hid (RA.out.kz hs)
  replace R1 := hid (R1.out.kz hs)
  replace R2 := hid (R2.out.kz hs)
  clear hk hs hbx
  refine WE.pure (d := some 10) rfl rfl (by rfl) (v := (.int .i64 10)) (fun w' hk => ?_) ?_
  · go_simp
  simp only [Act.put, List.setIfInBounds_toArray, List.set_cons_zero, List.set_cons_succ]
  refine WE.done ?_
  go_upto_region 9 with (fail)
  refine wp_region_T [(0, 0), (1, 1), (2, 1), (3, 1), (4, 0), (5, 0), (6, 0), (7, 1), (8, 1), (9, 1), (10, 4)] (by kernel_rfl) fun wd hb => ?_
  replace E := hid (E.out.trans hb)
  replace B := hid (B.out.up hb)
  replace N1 := hid (N1.out.up hb)
  replace N2 := hid (N2.out.up hb)
  replace NA := hid (NA.out.up hb)
  replace RA := hid (RA.out.up hb)
  replace R1 := hid (R1.out.up hb)
  replace R2 := hid (R2.out.up hb)
  clear hb
  refine WE.pure (d := some 46) rfl rfl (by rfl) (v := (.agg #[.bool g, .slice A n c])) (fun w' hk => ?_) ?_
  · have c0 := hk.cell (B.out.cell (o := 0) (v := .bool g) rfl); have c1 := hk.cell (B.out.cell (o := 1) (v := .slice A n c) rfl); go_simp
  simp only [Act.put, List.setIfInBounds_toArray, List.set_cons_zero, List.set_cons_succ]
  refine WE.call (d := some 47) rfl rfl (by rfl) (f := 21) (args := #[(.agg #[.bool g, .slice A n c])]) (by go_simp) ?_
  refine (rAbs_w (IsZ.mk HSA.out RA.out).worth).mono ?_
  rintro e wn ⟨vx, rfl, hx, hb⟩
  obtain ⟨g3, A3, n3, c3, rfl, hs3, hr3⟩ := hx.form
  clear hx
  refine ⟨_, rfl, hb, ?_⟩
  replace E := hid (E.out.trans hb)
  replace B := hid (B.out.up hb)
  replace N1 := hid (N1.out.up hb)
  replace N2 := hid (N2.out.up hb)
  replace NA := hid (NA.out.up hb)
  replace RA := hid (RA.out.up hb)
  replace R1 := hid (R1.out.up hb)
  replace R2 := hid (R2.out.up hb)
  have HS3 := hid hs3
  have R3 := hid hr3
  clear hb hs3 hr3
  simp only [Act.put, List.setIfInBounds_toArray, List.set_cons_zero, List.set_cons_succ]
  refine WE.call (d := some 48) rfl rfl (by rfl) (f := 22) (args := #[(.int .i64 (10))]) (by go_simp) ?_
  refine (rOf_z (n := 10) (by decide) (by decide) _).mono ?_
  rintro e wn ⟨vx, rfl, hx, hb⟩
  obtain ⟨g4, A4, n4, c4, rfl, hs4, hr4⟩ := hx.form
  clear hx
  refine ⟨_, rfl, hb, ?_⟩
  replace E := hid (E.out.trans hb)
  replace B := hid (B.out.up hb)
  replace N1 := hid (N1.out.up hb)
  replace N2 := hid (N2.out.up hb)
  replace NA := hid (NA.out.up hb)
  replace RA := hid (RA.out.up hb)
  replace R1 := hid (R1.out.up hb)
  replace R2 := hid (R2.out.up hb)
  replace R3 := hid (R3.out.up hb)
  have HS4 := hid hs4
  have R4 := hid hr4
  clear hb hs4 hr4
  simp only [Act.put, List.setIfInBounds_toArray, List.set_cons_zero, List.set_cons_succ]
  refine WE.call (d := some 49) rfl rfl (by rfl) (f := 20) (args := #[(.agg #[.bool g3, .slice A3 n3 c3]), (.agg #[.bool g4, .slice A4 n4 c4])]) (by go_simp) ?_
  refine (rMul_w (IsZ.mk HS3.out R3.out).worth (IsZ.mk HS4.out R4.out).worth (by decide) (by decide)).mono ?_
  rintro e wn ⟨vx, rfl, hx, hb⟩
  obtain ⟨g5, A5, n5, c5, rfl, hs5, hr5⟩ := hx.form
  clear hx
  refine ⟨_, rfl, hb, ?_⟩
  replace E := hid (E.out.trans hb)
  replace B := hid (B.out.up hb)
  replace N1 := hid (N1.out.up hb)
  replace N2 := hid (N2.out.up hb)
  replace NA := hid (NA.out.up hb)
  replace RA := hid (RA.out.up hb)
  replace R1 := hid (R1.out.up hb)
  replace R2 := hid (R2.out.up hb)
  replace R3 := hid (R3.out.up hb)
  replace R4 := hid (R4.out.up hb)
  have HS5 := hid hs5
  have R5 := hid hr5
  clear hb hs5 hr5
  simp only [Act.put, List.setIfInBounds_toArray, List.set_cons_zero, List.set_cons_succ]
  refine WE.pure (d := some 50) rfl rfl (by rfl) (v := (.int .u8 d)) (fun w' hk => ?_) ?_
  · go_simp
  simp only [Act.put, List.setIfInBounds_toArray, List.set_cons_zero, List.set_cons_succ]
  refine WE.pure (d := some 51) rfl rfl (by rfl) (v := (.int .u8 (r : Int))) (fun w' hk => ?_) ?_
  · have q : d.tmod 10 = (r : Int) := (by rw [Int.tmod_eq_emod_of_nonneg HD0.out, HR.out]); go_simp
  simp only [Act.put, List.setIfInBounds_toArray, List.set_cons_zero, List.set_cons_succ]
  refine WE.pure (d := some 52) rfl rfl (by rfl) (v := (.int .i64 (r : Int))) (fun w' hk => ?_) ?_
  · have q : IntKind.i64.wrap (r : Int) = (r : Int) := (by rw [IntKind.wrap_i64]; have := HR10.out; omega); go_simp
  simp only [Act.put, List.setIfInBounds_toArray, List.set_cons_zero, List.set_cons_succ]
  refine WE.call (d := some 53) rfl rfl (by rfl) (f := 22) (args := #[(.int .i64 (r : Int))]) (by go_simp) ?_
  refine (rOf_z (n := (r : Int)) (by omega) (by have := HR10.out; omega) _).mono ?_
  rintro e wn ⟨vx, rfl, hx, hb⟩
  obtain ⟨g6, A6, n6, c6, rfl, hs6, hr6⟩ := hx.form
  clear hx
  refine ⟨_, rfl, hb, ?_⟩
  replace E := hid (E.out.trans hb)
  replace B := hid (B.out.up hb)
  replace N1 := hid (N1.out.up hb)
  replace N2 := hid (N2.out.up hb)
  replace NA := hid (NA.out.up hb)
  replace RA := hid (RA.out.up hb)
  replace R1 := hid (R1.out.up hb)
  replace R2 := hid (R2.out.up hb)
  replace R3 := hid (R3.out.up hb)
  replace R4 := hid (R4.out.up hb)
  replace R5 := hid (R5.out.up hb)
  have HS6 := hid hs6
  have R6 := hid hr6
  clear hb hs6 hr6
  simp only [Act.put, List.setIfInBounds_toArray, List.set_cons_zero, List.set_cons_succ]
  refine WE.call (d := some 54) rfl rfl (by rfl) (f := 19) (args := #[(.agg #[.bool g5, .slice A5 n5 c5]), (.agg #[.bool g6, .slice A6 n6 c6])]) (by go_simp) ?_
  refine (rAdd_w (IsZ.mk HS5.out R5.out).worth (IsZ.mk HS6.out R6.out).worth (by decide) (by decide)).mono ?_
  rintro e wn ⟨vx, rfl, hx, hb⟩
  obtain ⟨g7, A7, n7, c7, rfl, hs7, hr7⟩ := hx.form
  clear hx
  refine ⟨_, rfl, hb, ?_⟩
  replace E := hid (E.out.trans hb)
  replace B := hid (B.out.up hb)
  replace N1 := hid (N1.out.up hb)
  replace N2 := hid (N2.out.up hb)
  replace NA := hid (NA.out.up hb)
  replace RA := hid (RA.out.up hb)
  replace R1 := hid (R1.out.up hb)
  replace R2 := hid (R2.out.up hb)
  replace R3 := hid (R3.out.up hb)
  replace R4 := hid (R4.out.up hb)
  replace R5 := hid (R5.out.up hb)
  replace R6 := hid (R6.out.up hb)
  have HS7 := hid hs7
  have R7 := hid hr7
  clear hb hs7 hr7
  simp only [Act.put, List.setIfInBounds_toArray, List.set_cons_zero, List.set_cons_succ]
  refine WE.new (d := some 11) (cs := #[.bool false, .slice none 0 0]) (t := 24) (v := fun g => (.pointer (some ⟨g, 0, none⟩))) rfl rfl (by rfl) (fun w => by go_simp) fun gN3 wv hx0 hbox hge => ?_
  have HNN3B := hid (show gN3 ≠ (W.heap.size) by have := B.out.lt; omega)
  have HNN3N1 := hid (show gN3 ≠ gN1 by have := N1.out.lt; omega)
  have HNN3N2 := hid (show gN3 ≠ gN2 by have := N2.out.lt; omega)
  have HGN3 := hid (show W.heap.size ≤ gN3 by have := E.out.size; omega)
  replace E := hid (E.out.trans hx0)
  replace B := hid (B.out.up hx0)
  replace N1 := hid (N1.out.up hx0)
  replace N2 := hid (N2.out.up hx0)
  replace NA := hid (NA.out.up hx0)
  replace RA := hid (RA.out.up hx0)
  replace R1 := hid (R1.out.up hx0)
  replace R2 := hid (R2.out.up hx0)
  replace R3 := hid (R3.out.up hx0)
  replace R4 := hid (R4.out.up hx0)
  replace R5 := hid (R5.out.up hx0)
  replace R6 := hid (R6.out.up hx0)
  replace R7 := hid (R7.out.up hx0)
  have N3 : Hid (Box wv gN3 #[.bool false, .slice none 0 0] 24) := hid hbox
  clear hx0 hbox hge
  simp only [Act.put, List.setIfInBounds_toArray, List.set_cons_zero, List.set_cons_succ]
  refine WE.store2 (g := gN3) (x := .bool g7) (y := .slice A7 n7 c7) (t := 24) rfl rfl (by rfl) (fun w hb => ?_) N3.out (by rfl) fun ws hk hs => ?_
  · have c0 := hb.cell (o := 0) (v := .bool false) rfl; have f0 := hb.free 0; have c1 := hb.cell (o := 1) (v := .slice none 0 0) rfl; have f1 := hb.free 1; go_simp
  intro hbx
  replace E := hid (E.out.keptG hk HGN3.out)
  replace B := hid (B.out.kept hk (by simpa using HNN3B.out.symm))
  replace N1 := hid (N1.out.kept hk (by simpa using HNN3N1.out.symm))
  replace N2 := hid (N2.out.kept hk (by simpa using HNN3N2.out.symm))
  replace N3 := hid hbx
  replace NA := hid (NA.out.kz hs)
  replace RA := hid (RA.out.kz hs)
  replace R1 := hid (R1.out.kz hs)
  replace R2 := hid (R2.out.kz hs)
  replace R3 := hid (R3.out.kz hs)
  replace R4 := hid (R4.out.kz hs)
  replace R5 := hid (R5.out.kz hs)
  replace R6 := hid (R6.out.kz hs)
  replace R7 := hid (R7.out.kz hs)
  clear hk hs hbx
  refine WE.done ?_
  clear R3
  clear R4
  clear R5
  clear R6
  go_upto_region 10 with (fail)
  refine wp_region_T [(0, 0), (1, 0), (2, 1), (3, 0), (4, 0), (5, 0), (6, 1), (7, 4), (8, 0)] (by kernel_rfl) fun wd hb => ?_
  replace E := hid (E.out.trans hb)
  replace B := hid (B.out.up hb)
  replace N1 := hid (N1.out.up hb)
  replace N2 := hid (N2.out.up hb)
  replace N3 := hid (N3.out.up hb)
  replace NA := hid (NA.out.up hb)
  replace RA := hid (RA.out.up hb)
  replace R1 := hid (R1.out.up hb)
  replace R2 := hid (R2.out.up hb)
  replace R7 := hid (R7.out.up hb)
  clear hb
  refine WE.pure (d := some 56) rfl rfl (by rfl) (v := (str s)) (fun w' hk => ?_) ?_
  · go_simp
  simp only [Act.put, List.setIfInBounds_toArray, List.set_cons_zero, List.set_cons_succ]
  refine WE.pure (d := some 57) rfl rfl (by rfl) (v := str (s ++ [32])) (fun w' hk => ?_) ?_
  · go_simp
    rw [if_neg (by have := HSL.out; omega)]
    exact congrArg (fun x => Result.ok (Next.value (Value.string x)) w') (str_cat s [32])
  simp only [Act.put, List.setIfInBounds_toArray, List.set_cons_zero, List.set_cons_succ]
  refine WE.call (d := some 58) rfl rfl (by rfl) (f := 9) (args := #[(str (s ++ [32]))]) (by go_simp) ?_
  refine (parse_to (l := s ++ [32]) (by have := HSL.out; simp; omega) _ rfl HSP.out).mono ?_
  rintro e wn ⟨vx, rfl, hx, hb⟩
  obtain ⟨g8, A8, n8, c8, rfl, hs8, hr8⟩ := hx.form
  clear hx
  refine ⟨_, rfl, hb, ?_⟩
  replace E := hid (E.out.trans hb)
  replace B := hid (B.out.up hb)
  replace N1 := hid (N1.out.up hb)
  replace N2 := hid (N2.out.up hb)
  replace N3 := hid (N3.out.up hb)
  replace NA := hid (NA.out.up hb)
  replace RA := hid (RA.out.up hb)
  replace R1 := hid (R1.out.up hb)
  replace R2 := hid (R2.out.up hb)
  replace R7 := hid (R7.out.up hb)
  have HS8 := hid hs8
  have R8 := hid hr8
  clear hb hs8 hr8
  simp only [Act.put, List.setIfInBounds_toArray, List.set_cons_zero, List.set_cons_succ]
  refine WE.pure (d := some 55) rfl rfl (by rfl) (v := (.tuple #[(.agg #[.bool g8, .slice A8 n8 c8]), (.int .i64 10)])) (fun w' hk => ?_) ?_
  · go_simp
  simp only [Act.put, List.setIfInBounds_toArray, List.set_cons_zero, List.set_cons_succ]
  refine WE.pure (d := some 59) rfl rfl (by rfl) (v := (.agg #[.bool g8, .slice A8 n8 c8])) (fun w' hk => ?_) ?_
  · go_simp
  simp only [Act.put, List.setIfInBounds_toArray, List.set_cons_zero, List.set_cons_succ]
  refine WE.pure (d := some 60) rfl rfl (by rfl) (v := (.int .i64 10)) (fun w' hk => ?_) ?_
  · go_simp
  simp only [Act.put, List.setIfInBounds_toArray, List.set_cons_zero, List.set_cons_succ]
  refine WE.new (d := some 12) (cs := #[.bool false, .slice none 0 0]) (t := 24) (v := fun g => (.pointer (some ⟨g, 0, none⟩))) rfl rfl (by rfl) (fun w => by go_simp) fun gN4 wv hx0 hbox hge => ?_
  have HNN4B := hid (show gN4 ≠ (W.heap.size) by have := B.out.lt; omega)
  have HNN4N1 := hid (show gN4 ≠ gN1 by have := N1.out.lt; omega)
  have HNN4N2 := hid (show gN4 ≠ gN2 by have := N2.out.lt; omega)
  have HNN4N3 := hid (show gN4 ≠ gN3 by have := N3.out.lt; omega)
  have HGN4 := hid (show W.heap.size ≤ gN4 by have := E.out.size; omega)
  replace E := hid (E.out.trans hx0)
  replace B := hid (B.out.up hx0)
  replace N1 := hid (N1.out.up hx0)
  replace N2 := hid (N2.out.up hx0)
  replace N3 := hid (N3.out.up hx0)
  replace NA := hid (NA.out.up hx0)
  replace RA := hid (RA.out.up hx0)
  replace R1 := hid (R1.out.up hx0)
  replace R2 := hid (R2.out.up hx0)
  replace R7 := hid (R7.out.up hx0)
  replace R8 := hid (R8.out.up hx0)
  have N4 : Hid (Box wv gN4 #[.bool false, .slice none 0 0] 24) := hid hbox
  clear hx0 hbox hge
  simp only [Act.put, List.setIfInBounds_toArray, List.set_cons_zero, List.set_cons_succ]
  refine WE.store2 (g := gN4) (x := .bool g8) (y := .slice A8 n8 c8) (t := 24) rfl rfl (by rfl) (fun w hb => ?_) N4.out (by rfl) fun ws hk hs => ?_
  · have c0 := hb.cell (o := 0) (v := .bool false) rfl; have f0 := hb.free 0; have c1 := hb.cell (o := 1) (v := .slice none 0 0) rfl; have f1 := hb.free 1; go_simp
  intro hbx
  replace E := hid (E.out.keptG hk HGN4.out)
  replace B := hid (B.out.kept hk (by simpa using HNN4B.out.symm))
  replace N1 := hid (N1.out.kept hk (by simpa using HNN4N1.out.symm))
  replace N2 := hid (N2.out.kept hk (by simpa using HNN4N2.out.symm))
  replace N3 := hid (N3.out.kept hk (by simpa using HNN4N3.out.symm))
  replace N4 := hid hbx
  replace NA := hid (NA.out.kz hs)
  replace RA := hid (RA.out.kz hs)
  replace R1 := hid (R1.out.kz hs)
  replace R2 := hid (R2.out.kz hs)
  replace R7 := hid (R7.out.kz hs)
  replace R8 := hid (R8.out.kz hs)
  clear hk hs hbx
  refine WE.pure (d := some 13) rfl rfl (by rfl) (v := (.int .i64 10)) (fun w' hk => ?_) ?_
  · go_simp
  simp only [Act.put, List.setIfInBounds_toArray, List.set_cons_zero, List.set_cons_succ]
  refine WE.done ?_
  go_upto_region 11 with (fail)
  refine wp_region_T [(0, 0), (1, 0), (2, 0), (3, 0), (4, 0), (5, 1), (6, 0), (7, 0), (8, 0), (9, 0), (10, 0), (11, 0), (12, 0), (13, 0), (14, 0), (15, 0), (16, 0), (17, 0), (18, 0), (19, 0), (20, 0), (21, 0), (22, 0), (23, 0), (24, 0), (25, 0), (26, 0), (27, 0), (28, 0), (29, 0), (30, 0), (31, 0), (32, 1), (33, 0), (34, 0), (35, 0), (36, 0)] (by kernel_rfl) fun wd hb => ?_
  replace E := hid (E.out.trans hb)
  replace B := hid (B.out.up hb)
  replace N1 := hid (N1.out.up hb)
  replace N2 := hid (N2.out.up hb)
  replace N3 := hid (N3.out.up hb)
  replace N4 := hid (N4.out.up hb)
  replace NA := hid (NA.out.up hb)
  replace RA := hid (RA.out.up hb)
  replace R1 := hid (R1.out.up hb)
  replace R2 := hid (R2.out.up hb)
  replace R7 := hid (R7.out.up hb)
  replace R8 := hid (R8.out.up hb)
  clear hb
  refine WE.pure (d := some 61) rfl rfl (by rfl) (v := (.int .i64 0)) (fun w' hk => ?_) ?_
  · go_simp
  simp only [Act.put, List.setIfInBounds_toArray, List.set_cons_zero, List.set_cons_succ]
  refine WE.pure (d := some 62) rfl rfl (by rfl) (v := (.bool true)) (fun w' hk => ?_) ?_
  · go_simp
  simp only [Act.put, List.setIfInBounds_toArray, List.set_cons_zero, List.set_cons_succ]
  refine WE.pure (d := some 63) rfl rfl (by rfl) (v := (.bool true)) (fun w' hk => ?_) ?_
  · go_simp
  simp only [Act.put, List.setIfInBounds_toArray, List.set_cons_zero, List.set_cons_succ]
  refine WE.pure (d := some 64) rfl rfl (by rfl) (v := (.agg #[.bool g1, .slice A1 n1 c1])) (fun w' hk => ?_) ?_
  · have c0 := hk.cell (N1.out.cell (o := 0) (v := .bool g1) rfl); have c1 := hk.cell (N1.out.cell (o := 1) (v := .slice A1 n1 c1) rfl); go_simp
  simp only [Act.put, List.setIfInBounds_toArray, List.set_cons_zero, List.set_cons_succ]
  refine WE.pure (d := some 65) rfl rfl (by rfl) (v := (.agg #[.bool g, .slice A n c])) (fun w' hk => ?_) ?_
  · have c0 := hk.cell (B.out.cell (o := 0) (v := .bool g) rfl); have c1 := hk.cell (B.out.cell (o := 1) (v := .slice A n c) rfl); go_simp
  simp only [Act.put, List.setIfInBounds_toArray, List.set_cons_zero, List.set_cons_succ]
  refine WE.call (d := some 66) rfl rfl (by rfl) (f := 17) (args := #[(.agg #[.bool g1, .slice A1 n1 c1]), (.agg #[.bool g, .slice A n c])]) (by go_simp) ?_
  refine (equal_z (IsZ.mk HS1.out R1.out) (IsZ.mk HSA.out RA.out)).mono ?_
  rintro e wn ⟨rfl, hb⟩
  refine ⟨_, rfl, hb, ?_⟩
  replace E := hid (E.out.trans hb)
  replace B := hid (B.out.up hb)
  replace N1 := hid (N1.out.up hb)
  replace N2 := hid (N2.out.up hb)
  replace N3 := hid (N3.out.up hb)
  replace N4 := hid (N4.out.up hb)
  replace NA := hid (NA.out.up hb)
  replace RA := hid (RA.out.up hb)
  replace R1 := hid (R1.out.up hb)
  replace R2 := hid (R2.out.up hb)
  replace R7 := hid (R7.out.up hb)
  replace R8 := hid (R8.out.up hb)
  clear hb
  simp only [Act.put, List.setIfInBounds_toArray, List.set_cons_zero, List.set_cons_succ]
  refine WE.pure (d := some 67) rfl rfl (by rfl) (v := (.bool true)) (fun w' hk => ?_) ?_
  · go_simp
  simp only [Act.put, List.setIfInBounds_toArray, List.set_cons_zero, List.set_cons_succ]
  refine WE.pure (d := some 68) rfl rfl (by rfl) (v := (.bool true)) (fun w' hk => ?_) ?_
  · go_simp
  simp only [Act.put, List.setIfInBounds_toArray, List.set_cons_zero, List.set_cons_succ]
  refine WE.pure (d := some 69) rfl rfl (by rfl) (v := (.int .i64 10)) (fun w' hk => ?_) ?_
  · go_simp
  simp only [Act.put, List.setIfInBounds_toArray, List.set_cons_zero, List.set_cons_succ]
  refine WE.pure (d := some 70) rfl rfl (by rfl) (v := (.bool true)) (fun w' hk => ?_) ?_
  · go_simp
  simp only [Act.put, List.setIfInBounds_toArray, List.set_cons_zero, List.set_cons_succ]
  refine WE.pure (d := some 71) rfl rfl (by rfl) (v := (.bool true)) (fun w' hk => ?_) ?_
  · go_simp
  simp only [Act.put, List.setIfInBounds_toArray, List.set_cons_zero, List.set_cons_succ]
  refine WE.pure (d := some 72) rfl rfl (by rfl) (v := (.bool true)) (fun w' hk => ?_) ?_
  · go_simp
  simp only [Act.put, List.setIfInBounds_toArray, List.set_cons_zero, List.set_cons_succ]
  refine WE.pure (d := some 73) rfl rfl (by rfl) (v := (.pointer (some ⟨(W.heap.size), 1, none⟩))) (fun w' hk => ?_) ?_
  · go_simp
  simp only [Act.put, List.setIfInBounds_toArray, List.set_cons_zero, List.set_cons_succ]
  refine WE.pure (d := some 74) rfl rfl (by rfl) (v := (.slice A n c)) (fun w' hk => ?_) ?_
  · have c1 := hk.cell (B.out.cell (o := 1) (v := .slice A n c) rfl); go_simp
  simp only [Act.put, List.setIfInBounds_toArray, List.set_cons_zero, List.set_cons_succ]
  refine WE.pure (d := some 75) rfl rfl (by rfl) (v := (.int .i64 (n : Int))) (fun w' hk => ?_) ?_
  · go_simp
  simp only [Act.put, List.setIfInBounds_toArray, List.set_cons_zero, List.set_cons_succ]
  refine WE.pure (d := some 76) rfl rfl (by rfl) (v := (.bool true)) (fun w' hk => ?_) ?_
  · have q : n = 0 := HN0.out; go_simp
  simp only [Act.put, List.setIfInBounds_toArray, List.set_cons_zero, List.set_cons_succ]
  refine WE.pure (d := some 77) rfl rfl (by rfl) (v := (.bool true)) (fun w' hk => ?_) ?_
  · go_simp
  simp only [Act.put, List.setIfInBounds_toArray, List.set_cons_zero, List.set_cons_succ]
  refine WE.pure (d := some 78) rfl rfl (by rfl) (v := (.int .i64 10)) (fun w' hk => ?_) ?_
  · go_simp
  simp only [Act.put, List.setIfInBounds_toArray, List.set_cons_zero, List.set_cons_succ]
  refine WE.pure (d := some 79) rfl rfl (by rfl) (v := (.bool true)) (fun w' hk => ?_) ?_
  · go_simp
  simp only [Act.put, List.setIfInBounds_toArray, List.set_cons_zero, List.set_cons_succ]
  refine WE.pure (d := some 80) rfl rfl (by rfl) (v := (.bool true)) (fun w' hk => ?_) ?_
  · go_simp
  simp only [Act.put, List.setIfInBounds_toArray, List.set_cons_zero, List.set_cons_succ]
  refine WE.pure (d := some 81) rfl rfl (by rfl) (v := (.bool true)) (fun w' hk => ?_) ?_
  · go_simp
  simp only [Act.put, List.setIfInBounds_toArray, List.set_cons_zero, List.set_cons_succ]
  refine WE.skip (d := some 82) rfl rfl (by rfl) ?_
  simp only [Act.put, List.setIfInBounds_toArray, List.set_cons_zero, List.set_cons_succ]
  refine WE.skip (d := some 83) rfl rfl (by rfl) ?_
  simp only [Act.put, List.setIfInBounds_toArray, List.set_cons_zero, List.set_cons_succ]
  refine WE.skip (d := some 84) rfl rfl (by rfl) ?_
  simp only [Act.put, List.setIfInBounds_toArray, List.set_cons_zero, List.set_cons_succ]
  refine WE.skip (d := some 85) rfl rfl (by rfl) ?_
  simp only [Act.put, List.setIfInBounds_toArray, List.set_cons_zero, List.set_cons_succ]
  refine WE.skip (d := some 86) rfl rfl (by rfl) ?_
  simp only [Act.put, List.setIfInBounds_toArray, List.set_cons_zero, List.set_cons_succ]
  refine WE.skip (d := some 87) rfl rfl (by rfl) ?_
  simp only [Act.put, List.setIfInBounds_toArray, List.set_cons_zero, List.set_cons_succ]
  refine WE.skip (d := some 88) rfl rfl (by rfl) ?_
  simp only [Act.put, List.setIfInBounds_toArray, List.set_cons_zero, List.set_cons_succ]
  refine WE.skip (d := some 89) rfl rfl (by rfl) ?_
  simp only [Act.put, List.setIfInBounds_toArray, List.set_cons_zero, List.set_cons_succ]
  refine WE.skip (d := some 90) rfl rfl (by rfl) ?_
  simp only [Act.put, List.setIfInBounds_toArray, List.set_cons_zero, List.set_cons_succ]
  refine WE.skip (d := some 91) rfl rfl (by rfl) ?_
  simp only [Act.put, List.setIfInBounds_toArray, List.set_cons_zero, List.set_cons_succ]
  refine WE.skip (d := some 92) rfl rfl (by rfl) ?_
  simp only [Act.put, List.setIfInBounds_toArray, List.set_cons_zero, List.set_cons_succ]
  refine WE.pass (d := some 93) rfl rfl (by rfl) ?_
  simp only [Act.put, List.setIfInBounds_toArray, List.set_cons_zero, List.set_cons_succ]
  refine WE.skip (d := some 94) rfl rfl (by rfl) ?_
  simp only [Act.put, List.setIfInBounds_toArray, List.set_cons_zero, List.set_cons_succ]
  refine WE.pure (d := some 95) rfl rfl (by rfl) (v := (.bool true)) (fun w' hk => ?_) ?_
  · go_simp
  simp only [Act.put, List.setIfInBounds_toArray, List.set_cons_zero, List.set_cons_succ]
  refine WE.pure (d := some 96) rfl rfl (by rfl) (v := (.bool true)) (fun w' hk => ?_) ?_
  · go_simp
  simp only [Act.put, List.setIfInBounds_toArray, List.set_cons_zero, List.set_cons_succ]
  refine WE.pure (d := some 4) rfl rfl (by rfl) (v := (.bool true)) (fun w' hk => ?_) ?_
  · go_simp
  simp only [Act.put, List.setIfInBounds_toArray, List.set_cons_zero, List.set_cons_succ]
  refine WE.done ?_
  go_wp2
  go_ret
  exact ⟨rfl, E.out⟩

end Go.Proofs.YthlafkbldlmmaaaDoor
