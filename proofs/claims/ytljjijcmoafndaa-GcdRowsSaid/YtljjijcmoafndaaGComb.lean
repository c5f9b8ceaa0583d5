/-
  Contract of package gcd's combined: what divides two naturals, and how it is put together of them.
-/
import Derived.Test.YtljjijcmoafndaaGFace
import Derived.Test.YtljjijcmoafndaaGMath
import Derived.Test.YtljjijcmoafndaaZBase
import Derived.Deep.LoopGhost
namespace Go.Proofs.Ytljjijcmoafndaa
open Go.RowKit
set_option linter.unusedSimpArgs false
set_option linter.unusedVariables false

theorem pow_one_le {j : Nat} (h : 1 ≤ j) : 1 < 1000000000 ^ j := Nat.one_lt_pow (by omega) (by omega)
theorem max_lt {a b n : Nat} (ha : a < n) (hb : b < n) : max a b < n := by omega

theorem IsZ.nought_ {w : World} : IsZ w (.agg #[.bool false, .slice none 0 0]) 0 0 := by
  refine ⟨none, 0, 0, rfl, ?_, ?_⟩
  · rw [show (0 : Int).natAbs = 0 from rfl, M.limbs_zero]; exact Num.nil _ _
  · rw [show (0 : Int).natAbs = 0 from rfl, M.limbs_zero]; simp
def GivesC (w : World) (a b j : Nat) (e : Ending) (w' : World) : Prop := ∃ (x y : Value) (t : Int), e = .returned (.tuple #[x, y]) ∧ IsZ w' x ((Nat.gcd a b : Nat) : Int) j ∧ IsZ w' y t j ∧ M.ExEnd a b t ∧ Ext w w'

set_option maxRecDepth 100000 in
set_option maxHeartbeats 4000000 in
theorem combined_w {w : World} {u v : Value} {a b j : Nat} (hu : IsZ w u (a : Int) j) (hv : IsZ w v (b : Int) j) (hj1 : 1 ≤ j) (hj : j < 60) :
    Calls Try.prog 33 #[u, v] w (GivesC w a b j) := by
  obtain ⟨gu, Au, nu, cu, rfl⟩ := hu.shape
  obtain ⟨gv, Av, nv, cv, rfl⟩ := hv.shape
  have HP := hid (pow_one_le hj1)
  have HA := hid (show a < 1000000000 ^ j by have := hu.len; simpa using this)
  have HB := hid (show b < 1000000000 ^ j by have := hv.len; simpa using this)
  have QU := hid hu
  have QV := hid hv
  have HJ := hid hj
  have HJ1 := hid hj1
  clear hu hv hj hj1
  go_enter Try.func33, Try.ntmps33
  go_upto_region 1 with (fail)
  have E := hid (((((Ext.refl w).alloc' (.cells #[.bool gu, .slice Au nu cu] 24)).alloc' (.cells #[.bool gv, .slice Av nv cv] 24)).alloc' (.cells #[.bool false, .slice none 0 0] 24)).alloc' (.cells #[.bool false, .slice none 0 0] 24))
  have B2 : Hid (Box ((((w.alloc (.cells #[.bool gu, .slice Au nu cu] 24)).alloc (.cells #[.bool gv, .slice Av nv cv] 24)).alloc (.cells #[.bool false, .slice none 0 0] 24)).alloc (.cells #[.bool false, .slice none 0 0] 24)) (w.heap.size) #[.bool gu, .slice Au nu cu] 24) := hid ((((Box.at_ (w := w) #[.bool gu, .slice Au nu cu] 24 (by simp)).alloc (.cells #[.bool gv, .slice Av nv cv] 24)).alloc (.cells #[.bool false, .slice none 0 0] 24)).alloc (.cells #[.bool false, .slice none 0 0] 24))
  have B3 : Hid (Box ((((w.alloc (.cells #[.bool gu, .slice Au nu cu] 24)).alloc (.cells #[.bool gv, .slice Av nv cv] 24)).alloc (.cells #[.bool false, .slice none 0 0] 24)).alloc (.cells #[.bool false, .slice none 0 0] 24)) (w.heap.size + 1) #[.bool gv, .slice Av nv cv] 24) := hid (((Box.at_ (w := (w.alloc (.cells #[.bool gu, .slice Au nu cu] 24))) #[.bool gv, .slice Av nv cv] 24 (by simp)).alloc (.cells #[.bool false, .slice none 0 0] 24)).alloc (.cells #[.bool false, .slice none 0 0] 24))
  have B4 : Hid (Box ((((w.alloc (.cells #[.bool gu, .slice Au nu cu] 24)).alloc (.cells #[.bool gv, .slice Av nv cv] 24)).alloc (.cells #[.bool false, .slice none 0 0] 24)).alloc (.cells #[.bool false, .slice none 0 0] 24)) (w.heap.size + 2) #[.bool false, .slice none 0 0] 24) := hid ((Box.at_ (w := ((w.alloc (.cells #[.bool gu, .slice Au nu cu] 24)).alloc (.cells #[.bool gv, .slice Av nv cv] 24))) #[.bool false, .slice none 0 0] 24 (by simp)).alloc (.cells #[.bool false, .slice none 0 0] 24))
  have B5 : Hid (Box ((((w.alloc (.cells #[.bool gu, .slice Au nu cu] 24)).alloc (.cells #[.bool gv, .slice Av nv cv] 24)).alloc (.cells #[.bool false, .slice none 0 0] 24)).alloc (.cells #[.bool false, .slice none 0 0] 24)) (w.heap.size + 3) #[.bool false, .slice none 0 0] 24) := hid (Box.at_ (w := (((w.alloc (.cells #[.bool gu, .slice Au nu cu] 24)).alloc (.cells #[.bool gv, .slice Av nv cv] 24)).alloc (.cells #[.bool false, .slice none 0 0] 24))) #[.bool false, .slice none 0 0] 24 (by simp))
  replace QU := hid (QU.out.up E.out)
  replace QV := hid (QV.out.up E.out)
  refine wp_region_X [(w.heap.size + 2)] [(0, 0), (1, 5), (2, 3), (3, 4), (4, 4)] (fun _ => (24, #[.bool false, .slice none 0 0])) rfl (by kernel_rfl) (by intro j hj; simp [pend] at hj; obtain rfl := hj; exact ⟨_, rfl, rfl, rfl, fun w => by go_simp⟩) (fun _ _ d _ _ => by cases d <;> exact Iff.rfl) fun wd hb => ?_
  replace E := hid (E.out.trans hb)
  replace B2 := hid (B2.out.up hb)
  replace B3 := hid (B3.out.up hb)
  replace B4 := hid (B4.out.up hb)
  replace B5 := hid (B5.out.up hb)
  replace QU := hid (QU.out.up hb)
  replace QV := hid (QV.out.up hb)
  clear hb
  have EX := hid (Ext.refl wd)
  have HL1B2 := hid B2.out.lt
  have HL1B3 := hid B3.out.lt
  have HL1B4 := hid B4.out.lt
  have HL1B5 := hid B5.out.lt
  have HW1 := hid (show w.heap.size ≤ wd.heap.size from E.out.size)
  refine WX.pure (d := some 10) rfl rfl (by rfl) (v := (.agg #[.bool gu, .slice Au nu cu])) (fun w' hk => ?_) ?_
  · have c0 := hk.cell (B2.out.cell (o := 0) (v := .bool gu) rfl); have c1 := hk.cell (B2.out.cell (o := 1) (v := .slice Au nu cu) rfl); go_simp
  simp only [Act.put, List.setIfInBounds_toArray, List.set_cons_zero, List.set_cons_succ]
  refine WX.any (d := some 11) rfl rfl (by rfl) (v := (.agg #[.bool gv, .slice Av nv cv])) (fun w' hk => ?_) ?_
  · have c0 := (B3.out.keptX hk HL1B3.out (nm_cons (by simp) nm_nil)).cell (o := 0) (v := .bool gv) rfl; have c1 := (B3.out.keptX hk HL1B3.out (nm_cons (by simp) nm_nil)).cell (o := 1) (v := .slice Av nv cv) rfl; go_simp
  simp only [Act.put, List.setIfInBounds_toArray, List.set_cons_zero, List.set_cons_succ]
  refine WX.var (d := some 6) rfl fun gV6 wv hx0 hbox hge hng => ?_
  have HNV6B2 := hid (show gV6 ≠ (w.heap.size) by have := HL1B2.out; omega)
  have HNV6B3 := hid (show gV6 ≠ (w.heap.size + 1) by have := HL1B3.out; omega)
  have HNV6B4 := hid (show gV6 ≠ (w.heap.size + 2) by have := HL1B4.out; omega)
  have HNV6B5 := hid (show gV6 ≠ (w.heap.size + 3) by have := HL1B5.out; omega)
  have HGV6 := hid (show w.heap.size ≤ gV6 by have := HW1.out; omega)
  replace E := hid (E.out.trans hx0)
  replace EX := hid (EX.out.trans hx0)
  replace B2 := hid (B2.out.up hx0)
  replace B3 := hid (B3.out.up hx0)
  replace B4 := hid (B4.out.up hx0)
  replace B5 := hid (B5.out.up hx0)
  replace QU := hid (QU.out.up hx0)
  replace QV := hid (QV.out.up hx0)
  have V6 : Hid (Box wv gV6 #[.bool false, .slice none 0 0] 24) := hid hbox
  have HBV6 := hid hge
  clear hx0 hbox hge hng
  simp only [Act.put, List.setIfInBounds_toArray, List.set_cons_zero, List.set_cons_succ]
  clear EX
  refine WX.store2 (g := (w.heap.size + 2)) (x := .bool gu) (y := .slice Au nu cu) (t := 24) rfl rfl (by rfl) (fun w hb => ?_) B4.out (by rfl) (.inl (by simp)) fun ws hk hs => ?_
  · have c0 := hb.cell (o := 0) (v := .bool false) rfl; have f0 := hb.free 0; have c1 := hb.cell (o := 1) (v := .slice none 0 0) rfl; have f1 := hb.free 1; go_simp
  intro hbx
  replace E := hid (E.out.keptG hk (by simp))
  replace B2 := hid (B2.out.kept hk (by simp))
  replace B3 := hid (B3.out.kept hk (by simp))
  replace B4 := hid hbx
  replace B5 := hid (B5.out.kept hk (by simp))
  replace V6 := hid (V6.out.kept hk (by simpa using HNV6B4.out))
  replace QU := hid (QU.out.kz hs)
  replace QV := hid (QV.out.kz hs)
  clear hk hs hbx
  refine WX.store2 (g := gV6) (x := .bool gv) (y := .slice Av nv cv) (t := 24) rfl rfl (by rfl) (fun w hb => ?_) V6.out (by rfl) (.inr HBV6.out) fun ws hk hs => ?_
  · have c0 := hb.cell (o := 0) (v := .bool false) rfl; have f0 := hb.free 0; have c1 := hb.cell (o := 1) (v := .slice none 0 0) rfl; have f1 := hb.free 1; go_simp
  intro hbx
  replace E := hid (E.out.keptG hk HGV6.out)
  replace B2 := hid (B2.out.kept hk (by simpa using HNV6B2.out.symm))
  replace B3 := hid (B3.out.kept hk (by simpa using HNV6B3.out.symm))
  replace B4 := hid (B4.out.kept hk (by simpa using HNV6B4.out.symm))
  replace B5 := hid (B5.out.kept hk (by simpa using HNV6B5.out.symm))
  replace V6 := hid hbx
  replace QU := hid (QU.out.kz hs)
  replace QV := hid (QV.out.kz hs)
  clear hk hs hbx
  refine WX.done ?_
  clear B2
  clear B3
  go_upto_region 2 with (fail)
  refine wp_region_T [(0, 1), (1, 0), (2, 1), (3, 4), (4, 4)] (by kernel_rfl) fun wd hb => ?_
  replace E := hid (E.out.trans hb)
  replace B4 := hid (B4.out.up hb)
  replace B5 := hid (B5.out.up hb)
  replace V6 := hid (V6.out.up hb)
  replace QU := hid (QU.out.up hb)
  replace QV := hid (QV.out.up hb)
  clear hb
  refine WE.call (d := some 12) rfl rfl (by rfl) (f := 34) (args := #[(.int .i64 (1))]) (by go_simp) ?_
  refine (of_z (n := 1) (by decide) (by decide) _).mono ?_
  rintro e wn ⟨v1, rfl, x1, hb⟩
  obtain ⟨gt, At, nt, ct, rfl⟩ := x1.shape
  refine ⟨_, rfl, hb, ?_⟩
  replace E := hid (E.out.trans hb)
  replace B4 := hid (B4.out.up hb)
  replace B5 := hid (B5.out.up hb)
  replace V6 := hid (V6.out.up hb)
  replace QU := hid (QU.out.up hb)
  replace QV := hid (QV.out.up hb)
  have Qt := hid (IsZ.short (k := j) x1 (by have := HP.out; simpa using this))
  clear hb x1
  simp only [Act.put, List.setIfInBounds_toArray, List.set_cons_zero, List.set_cons_succ]
  refine WE.pure (d := some 13) rfl rfl (by rfl) (v := (.agg #[.bool false, .slice none 0 0])) (fun w' hk => ?_) ?_
  · go_simp
  simp only [Act.put, List.setIfInBounds_toArray, List.set_cons_zero, List.set_cons_succ]
  refine WE.new (d := some 7) (cs := #[.bool false, .slice none 0 0]) (t := 24) (v := fun g => (.pointer (some ⟨g, 0, none⟩))) rfl rfl (by rfl) (fun w => by go_simp) fun gV7 wv hx0 hbox hge => ?_
  have HNV7B4 := hid (show gV7 ≠ (w.heap.size + 2) by have := B4.out.lt; omega)
  have HNV7B5 := hid (show gV7 ≠ (w.heap.size + 3) by have := B5.out.lt; omega)
  have HNV7V6 := hid (show gV7 ≠ gV6 by have := V6.out.lt; omega)
  have HGV7 := hid (show w.heap.size ≤ gV7 by have := E.out.size; omega)
  replace E := hid (E.out.trans hx0)
  replace B4 := hid (B4.out.up hx0)
  replace B5 := hid (B5.out.up hx0)
  replace V6 := hid (V6.out.up hx0)
  replace QU := hid (QU.out.up hx0)
  replace QV := hid (QV.out.up hx0)
  replace Qt := hid (Qt.out.up hx0)
  have V7 : Hid (Box wv gV7 #[.bool false, .slice none 0 0] 24) := hid hbox
  clear hx0 hbox hge
  simp only [Act.put, List.setIfInBounds_toArray, List.set_cons_zero, List.set_cons_succ]
  refine WE.store2 (g := (w.heap.size + 3)) (x := .bool gt) (y := .slice At nt ct) (t := 24) rfl rfl (by rfl) (fun w hb => ?_) B5.out (by rfl) fun ws hk hs => ?_
  · have c0 := hb.cell (o := 0) (v := .bool false) rfl; have f0 := hb.free 0; have c1 := hb.cell (o := 1) (v := .slice none 0 0) rfl; have f1 := hb.free 1; go_simp
  intro hbx
  replace E := hid (E.out.keptG hk (by simp))
  replace B4 := hid (B4.out.kept hk (by simp))
  replace B5 := hid hbx
  replace V6 := hid (V6.out.kept hk (by simpa using HNV6B5.out))
  replace V7 := hid (V7.out.kept hk (by simpa using HNV7B5.out))
  replace QU := hid (QU.out.kz hs)
  replace QV := hid (QV.out.kz hs)
  replace Qt := hid (Qt.out.kz hs)
  clear hk hs hbx
  refine WE.store2 (g := gV7) (x := .bool false) (y := .slice none 0 0) (t := 24) rfl rfl (by rfl) (fun w hb => ?_) V7.out (by rfl) fun ws hk hs => ?_
  · have c0 := hb.cell (o := 0) (v := .bool false) rfl; have f0 := hb.free 0; have c1 := hb.cell (o := 1) (v := .slice none 0 0) rfl; have f1 := hb.free 1; go_simp
  intro hbx
  replace E := hid (E.out.keptG hk HGV7.out)
  replace B4 := hid (B4.out.kept hk (by simpa using HNV7B4.out.symm))
  replace B5 := hid (B5.out.kept hk (by simpa using HNV7B5.out.symm))
  replace V6 := hid (V6.out.kept hk (by simpa using HNV7V6.out.symm))
  replace V7 := hid hbx
  replace QU := hid (QU.out.kz hs)
  replace QV := hid (QV.out.kz hs)
  replace Qt := hid (Qt.out.kz hs)
  clear hk hs hbx
  refine WE.done ?_
  have HVB : Hid (gV6 ≠ w.heap.size + 2) := HNV6B4
  have QN : Hid (IsZ ws (.agg #[.bool false, .slice none 0 0]) 0 j) := hid (IsZ.nought_.wide (Nat.zero_le _))
  go_wp2
  go_loopg [] (b) (fun r wr => ∃ (d : Nat) (t n : Int) (g4 : Bool) (A4 : Option Addr) (n4 c4 : Nat) (g5 : Bool) (A5 : Option Addr) (n5 c5 : Nat) (g6 : Bool) (A6 : Option Addr) (n6 c6 : Nat) (g7 : Bool) (A7 : Option Addr) (n7 c7 : Nat), Hid (M.Ex a b d r t n) ∧ Hid (IsZ wr (.agg #[.bool g4, .slice A4 n4 c4]) (d : Int) j) ∧ Hid (IsZ wr (.agg #[.bool g5, .slice A5 n5 c5]) t j) ∧ Hid (IsZ wr (.agg #[.bool g6, .slice A6 n6 c6]) (r : Int) j) ∧ Hid (IsZ wr (.agg #[.bool g7, .slice A7 n7 c7]) n j) ∧ Hid (Ext w wr) ∧
    Hid (Box wr (w.heap.size + 2) #[.bool g4, .slice A4 n4 c4] 24) ∧ Hid (Box wr (w.heap.size + 3) #[.bool g5, .slice A5 n5 c5] 24) ∧ Hid (Box wr gV6 #[.bool g6, .slice A6 n6 c6] 24) ∧ Hid (Box wr gV7 #[.bool g7, .slice A7 n7 c7] 24))
  case atStart => exact ⟨a, 1, 0, gu, Au, nu, cu, gt, At, nt, ct, gv, Av, nv, cv, false, none, 0, 0, M.Ex.start a b, QU.out, Qt.out, QV.out, QN.out, E.out, B4.out, B5.out, V6.out, V7.out⟩
  case round =>
    clear E B4 B5 V6 V7 QU QV Qt QN
    obtain ⟨d, t, n, g4, A4, n4, c4, g5, A5, n5, c5, g6, A6, n6, c6, g7, A7, n7, c7, HX, Q4, Q5, Q6, Q7, E, B4, B5, V6, V7⟩ := hrel
    by_cases h0 : gk = 0
    · subst h0
      go_upto_region 3 with (fail)
      refine wp_region_T [(0, 0), (1, 1), (2, 0)] (by kernel_rfl) fun wd hb => ?_
      replace E := hid (E.out.trans hb)
      replace B4 := hid (B4.out.up hb)
      replace B5 := hid (B5.out.up hb)
      replace V6 := hid (V6.out.up hb)
      replace V7 := hid (V7.out.up hb)
      replace Q4 := hid (Q4.out.up hb)
      replace Q5 := hid (Q5.out.up hb)
      replace Q6 := hid (Q6.out.up hb)
      replace Q7 := hid (Q7.out.up hb)
      clear hb
      refine WE.pure (d := some 14) rfl rfl (by rfl) (v := (.agg #[.bool g6, .slice A6 n6 c6])) (fun w' hk => ?_) ?_
      · have c0 := hk.cell (V6.out.cell (o := 0) (v := .bool g6) rfl); have c1 := hk.cell (V6.out.cell (o := 1) (v := .slice A6 n6 c6) rfl); go_simp
      simp only [Act.put, List.setIfInBounds_toArray, List.set_cons_zero, List.set_cons_succ]
      refine WE.call (d := some 15) rfl rfl (by rfl) (f := 35) (args := #[(.agg #[.bool g6, .slice A6 n6 c6])]) (by go_simp) ?_
      refine (sign_e Q6.out.worth (s := 0) (rfl)).mono ?_
      rintro e wn ⟨rfl, hb⟩
      refine ⟨_, rfl, hb, ?_⟩
      replace E := hid (E.out.trans hb)
      replace B4 := hid (B4.out.up hb)
      replace B5 := hid (B5.out.up hb)
      replace V6 := hid (V6.out.up hb)
      replace V7 := hid (V7.out.up hb)
      replace Q4 := hid (Q4.out.up hb)
      replace Q5 := hid (Q5.out.up hb)
      replace Q6 := hid (Q6.out.up hb)
      replace Q7 := hid (Q7.out.up hb)
      clear hb
      simp only [Act.put, List.setIfInBounds_toArray, List.set_cons_zero, List.set_cons_succ]
      refine WE.pure (d := some 16) rfl rfl (by rfl) (v := (.bool false)) (fun w' hk => ?_) ?_
      · go_simp
      simp only [Act.put, List.setIfInBounds_toArray, List.set_cons_zero, List.set_cons_succ]
      refine WE.done ?_
      go_upto_region 7 with (fail)
      refine wp_region_E [(0, 0), (1, 0), (2, 1), (3, 1)] (fun _ => (0, #[])) rfl (by kernel_rfl) (by intro j hj; cases hj) (fun _ _ d _ _ => by cases d <;> exact Iff.rfl) fun wd hb => ?_
      replace E := hid (E.out.trans hb)
      replace B4 := hid (B4.out.up hb)
      replace B5 := hid (B5.out.up hb)
      replace V6 := hid (V6.out.up hb)
      replace V7 := hid (V7.out.up hb)
      replace Q4 := hid (Q4.out.up hb)
      replace Q5 := hid (Q5.out.up hb)
      replace Q6 := hid (Q6.out.up hb)
      replace Q7 := hid (Q7.out.up hb)
      clear hb
      refine WE.pure (d := some 31) rfl rfl (by rfl) (v := (.agg #[.bool g4, .slice A4 n4 c4])) (fun w' hk => ?_) ?_
      · have c0 := hk.cell (B4.out.cell (o := 0) (v := .bool g4) rfl); have c1 := hk.cell (B4.out.cell (o := 1) (v := .slice A4 n4 c4) rfl); go_simp
      simp only [Act.put, List.setIfInBounds_toArray, List.set_cons_zero, List.set_cons_succ]
      refine WE.pure (d := some 32) rfl rfl (by rfl) (v := (.agg #[.bool g5, .slice A5 n5 c5])) (fun w' hk => ?_) ?_
      · have c0 := hk.cell (B5.out.cell (o := 0) (v := .bool g5) rfl); have c1 := hk.cell (B5.out.cell (o := 1) (v := .slice A5 n5 c5) rfl); go_simp
      simp only [Act.put, List.setIfInBounds_toArray, List.set_cons_zero, List.set_cons_succ]
      refine WE.store2s (g := (w.heap.size + 2)) (x := .bool g4) (y := .slice A4 n4 c4) (t := 24) rfl rfl (by rfl) (fun w hb => ?_) B4.out fun ws hb => ?_
      · have c0 := hb.cell (o := 0) (v := .bool g4) rfl; have f0 := hb.free 0; have c1 := hb.cell (o := 1) (v := .slice A4 n4 c4) rfl; have f1 := hb.free 1; go_simp
      replace E := hid (E.out.trans hb)
      replace B4 := hid (B4.out.up hb)
      replace B5 := hid (B5.out.up hb)
      replace V6 := hid (V6.out.up hb)
      replace V7 := hid (V7.out.up hb)
      replace Q4 := hid (Q4.out.up hb)
      replace Q5 := hid (Q5.out.up hb)
      replace Q6 := hid (Q6.out.up hb)
      replace Q7 := hid (Q7.out.up hb)
      clear hb
      refine WE.store2s (g := (w.heap.size + 3)) (x := .bool g5) (y := .slice A5 n5 c5) (t := 24) rfl rfl (by rfl) (fun w hb => ?_) B5.out fun ws hb => ?_
      · have c0 := hb.cell (o := 0) (v := .bool g5) rfl; have f0 := hb.free 0; have c1 := hb.cell (o := 1) (v := .slice A5 n5 c5) rfl; have f1 := hb.free 1; go_simp
      replace E := hid (E.out.trans hb)
      replace B4 := hid (B4.out.up hb)
      replace B5 := hid (B5.out.up hb)
      replace V6 := hid (V6.out.up hb)
      replace V7 := hid (V7.out.up hb)
      replace Q4 := hid (Q4.out.up hb)
      replace Q5 := hid (Q5.out.up hb)
      replace Q6 := hid (Q6.out.up hb)
      replace Q7 := hid (Q7.out.up hb)
      clear hb
      refine WE.done ?_
      have r0 := B4.out.cell (o := 0) (v := .bool g4) rfl
      have r1 := B4.out.cell (o := 1) (v := .slice A4 n4 c4) rfl
      have r2 := B5.out.cell (o := 0) (v := .bool g5) rfl
      have r3 := B5.out.cell (o := 1) (v := .slice A5 n5 c5) rfl
      go_wp2
      exact bodyPost_ret (v := .tuple #[.agg #[.bool g4, .slice A4 n4 c4], .agg #[.bool g5, .slice A5 n5 c5]]) (by simp [results, Try.results33, go_sem, r0, r1, r2, r3]) rfl ⟨_, _, t, rfl, by rw [← HX.out.done.1]; exact Q4.out, Q5.out, HX.out.done.2, E.out⟩
    · have HR := hid (show 0 < gk by omega)
      have HX2 := hid (HX.out.step HR.out)
      clear h0
      go_upto_region 3 with (fail)
      refine wp_region_T [(0, 0), (1, 1), (2, 0)] (by kernel_rfl) fun wd hb => ?_
      replace E := hid (E.out.trans hb)
      replace B4 := hid (B4.out.up hb)
      replace B5 := hid (B5.out.up hb)
      replace V6 := hid (V6.out.up hb)
      replace V7 := hid (V7.out.up hb)
      replace Q4 := hid (Q4.out.up hb)
      replace Q5 := hid (Q5.out.up hb)
      replace Q6 := hid (Q6.out.up hb)
      replace Q7 := hid (Q7.out.up hb)
      clear hb
      refine WE.pure (d := some 14) rfl rfl (by rfl) (v := (.agg #[.bool g6, .slice A6 n6 c6])) (fun w' hk => ?_) ?_
      · have c0 := hk.cell (V6.out.cell (o := 0) (v := .bool g6) rfl); have c1 := hk.cell (V6.out.cell (o := 1) (v := .slice A6 n6 c6) rfl); go_simp
      simp only [Act.put, List.setIfInBounds_toArray, List.set_cons_zero, List.set_cons_succ]
      refine WE.call (d := some 15) rfl rfl (by rfl) (f := 35) (args := #[(.agg #[.bool g6, .slice A6 n6 c6])]) (by go_simp) ?_
      refine (sign_e Q6.out.worth (s := 1) (Int.sign_eq_one_of_pos (by have := HR.out; omega))).mono ?_
      rintro e wn ⟨rfl, hb⟩
      refine ⟨_, rfl, hb, ?_⟩
      replace E := hid (E.out.trans hb)
      replace B4 := hid (B4.out.up hb)
      replace B5 := hid (B5.out.up hb)
      replace V6 := hid (V6.out.up hb)
      replace V7 := hid (V7.out.up hb)
      replace Q4 := hid (Q4.out.up hb)
      replace Q5 := hid (Q5.out.up hb)
      replace Q6 := hid (Q6.out.up hb)
      replace Q7 := hid (Q7.out.up hb)
      clear hb
      simp only [Act.put, List.setIfInBounds_toArray, List.set_cons_zero, List.set_cons_succ]
      refine WE.pure (d := some 16) rfl rfl (by rfl) (v := (.bool true)) (fun w' hk => ?_) ?_
      · go_simp
      simp only [Act.put, List.setIfInBounds_toArray, List.set_cons_zero, List.set_cons_succ]
      refine WE.done ?_
      go_upto_region 4 with (fail)
      refine wp_region_T [(0, 0), (1, 0), (2, 1), (3, 0), (4, 0), (5, 0), (6, 1), (7, 1), (8, 4), (9, 4)] (by kernel_rfl) fun wd hb => ?_
      replace E := hid (E.out.trans hb)
      replace B4 := hid (B4.out.up hb)
      replace B5 := hid (B5.out.up hb)
      replace V6 := hid (V6.out.up hb)
      replace V7 := hid (V7.out.up hb)
      replace Q4 := hid (Q4.out.up hb)
      replace Q5 := hid (Q5.out.up hb)
      replace Q6 := hid (Q6.out.up hb)
      replace Q7 := hid (Q7.out.up hb)
      clear hb
      refine WE.pure (d := some 18) rfl rfl (by rfl) (v := (.agg #[.bool g4, .slice A4 n4 c4])) (fun w' hk => ?_) ?_
      · have c0 := hk.cell (B4.out.cell (o := 0) (v := .bool g4) rfl); have c1 := hk.cell (B4.out.cell (o := 1) (v := .slice A4 n4 c4) rfl); go_simp
      simp only [Act.put, List.setIfInBounds_toArray, List.set_cons_zero, List.set_cons_succ]
      refine WE.pure (d := some 19) rfl rfl (by rfl) (v := (.agg #[.bool g6, .slice A6 n6 c6])) (fun w' hk => ?_) ?_
      · have c0 := hk.cell (V6.out.cell (o := 0) (v := .bool g6) rfl); have c1 := hk.cell (V6.out.cell (o := 1) (v := .slice A6 n6 c6) rfl); go_simp
      simp only [Act.put, List.setIfInBounds_toArray, List.set_cons_zero, List.set_cons_succ]
      refine WE.call (d := some 20) rfl rfl (by rfl) (f := 29) (args := #[(.agg #[.bool g4, .slice A4 n4 c4]), (.agg #[.bool g6, .slice A6 n6 c6])]) (by go_simp) ?_
      refine (floor_w Q4.out.worth Q6.out.worth (by have := HJ.out; omega) (by have := HJ.out; omega)).mono ?_
      rintro e wn ⟨vx, vy, rfl, hx, hy, hb⟩
      obtain ⟨g8, A8, n8, c8, rfl⟩ := hx.worth.shape
      obtain ⟨g9, A9, n9, c9, rfl⟩ := hy.worth.shape
      refine ⟨_, rfl, hb, ?_⟩
      replace E := hid (E.out.trans hb)
      replace B4 := hid (B4.out.up hb)
      replace B5 := hid (B5.out.up hb)
      replace V6 := hid (V6.out.up hb)
      replace V7 := hid (V7.out.up hb)
      replace Q4 := hid (Q4.out.up hb)
      replace Q5 := hid (Q5.out.up hb)
      replace Q6 := hid (Q6.out.up hb)
      replace Q7 := hid (Q7.out.up hb)
      have Q8 := hid ((IsZ.to hx (Int.ofNat_fdiv d gk).symm).short (k := j) (by have h1 := HX.out.size; have h2 := max_lt HA.out HB.out; have h3 := Nat.div_le_self d gk; rw [Int.natAbs_natCast]; omega))
      have Q9 := hid ((IsZ.to hy (Int.ofNat_fmod d gk).symm).short (k := j) (by have h1 := HX2.out.size; have h2 := max_lt HA.out HB.out; rw [Int.natAbs_natCast]; omega))
      clear hb hx hy
      simp only [Act.put, List.setIfInBounds_toArray, List.set_cons_zero, List.set_cons_succ]
      refine WE.pure (d := some 17) rfl rfl (by rfl) (v := (.tuple #[(.agg #[.bool g8, .slice A8 n8 c8]), (.agg #[.bool g9, .slice A9 n9 c9])])) (fun w' hk => ?_) ?_
      · go_simp
      simp only [Act.put, List.setIfInBounds_toArray, List.set_cons_zero, List.set_cons_succ]
      refine WE.pure (d := some 21) rfl rfl (by rfl) (v := (.agg #[.bool g8, .slice A8 n8 c8])) (fun w' hk => ?_) ?_
      · go_simp
      simp only [Act.put, List.setIfInBounds_toArray, List.set_cons_zero, List.set_cons_succ]
      refine WE.pure (d := some 22) rfl rfl (by rfl) (v := (.agg #[.bool g9, .slice A9 n9 c9])) (fun w' hk => ?_) ?_
      · go_simp
      simp only [Act.put, List.setIfInBounds_toArray, List.set_cons_zero, List.set_cons_succ]
      refine WE.new (d := some 8) (cs := #[.bool false, .slice none 0 0]) (t := 24) (v := fun g => (.pointer (some ⟨g, 0, none⟩))) rfl rfl (by rfl) (fun w => by go_simp) fun gC8 wv hx0 hbox hge => ?_
      have HNC8B4 := hid (show gC8 ≠ (w.heap.size + 2) by have := B4.out.lt; omega)
      have HNC8B5 := hid (show gC8 ≠ (w.heap.size + 3) by have := B5.out.lt; omega)
      have HNC8V6 := hid (show gC8 ≠ gV6 by have := V6.out.lt; omega)
      have HNC8V7 := hid (show gC8 ≠ gV7 by have := V7.out.lt; omega)
      have HGC8 := hid (show w.heap.size ≤ gC8 by have := E.out.size; omega)
      replace E := hid (E.out.trans hx0)
      replace B4 := hid (B4.out.up hx0)
      replace B5 := hid (B5.out.up hx0)
      replace V6 := hid (V6.out.up hx0)
      replace V7 := hid (V7.out.up hx0)
      replace Q4 := hid (Q4.out.up hx0)
      replace Q5 := hid (Q5.out.up hx0)
      replace Q6 := hid (Q6.out.up hx0)
      replace Q7 := hid (Q7.out.up hx0)
      replace Q8 := hid (Q8.out.up hx0)
      replace Q9 := hid (Q9.out.up hx0)
      have C8 : Hid (Box wv gC8 #[.bool false, .slice none 0 0] 24) := hid hbox
      clear hx0 hbox hge
      simp only [Act.put, List.setIfInBounds_toArray, List.set_cons_zero, List.set_cons_succ]
      refine WE.new (d := some 9) (cs := #[.bool false, .slice none 0 0]) (t := 24) (v := fun g => (.pointer (some ⟨g, 0, none⟩))) rfl rfl (by rfl) (fun w => by go_simp) fun gC9 wv hx0 hbox hge => ?_
      have HNC9B4 := hid (show gC9 ≠ (w.heap.size + 2) by have := B4.out.lt; omega)
      have HNC9B5 := hid (show gC9 ≠ (w.heap.size + 3) by have := B5.out.lt; omega)
      have HNC9V6 := hid (show gC9 ≠ gV6 by have := V6.out.lt; omega)
      have HNC9V7 := hid (show gC9 ≠ gV7 by have := V7.out.lt; omega)
      have HNC9C8 := hid (show gC9 ≠ gC8 by have := C8.out.lt; omega)
      have HGC9 := hid (show w.heap.size ≤ gC9 by have := E.out.size; omega)
      replace E := hid (E.out.trans hx0)
      replace B4 := hid (B4.out.up hx0)
      replace B5 := hid (B5.out.up hx0)
      replace V6 := hid (V6.out.up hx0)
      replace V7 := hid (V7.out.up hx0)
      replace C8 := hid (C8.out.up hx0)
      replace Q4 := hid (Q4.out.up hx0)
      replace Q5 := hid (Q5.out.up hx0)
      replace Q6 := hid (Q6.out.up hx0)
      replace Q7 := hid (Q7.out.up hx0)
      replace Q8 := hid (Q8.out.up hx0)
      replace Q9 := hid (Q9.out.up hx0)
      have C9 : Hid (Box wv gC9 #[.bool false, .slice none 0 0] 24) := hid hbox
      clear hx0 hbox hge
      simp only [Act.put, List.setIfInBounds_toArray, List.set_cons_zero, List.set_cons_succ]
      refine WE.store2 (g := gC8) (x := .bool g8) (y := .slice A8 n8 c8) (t := 24) rfl rfl (by rfl) (fun w hb => ?_) C8.out (by rfl) fun ws hk hs => ?_
      · have c0 := hb.cell (o := 0) (v := .bool false) rfl; have f0 := hb.free 0; have c1 := hb.cell (o := 1) (v := .slice none 0 0) rfl; have f1 := hb.free 1; go_simp
      intro hbx
      replace E := hid (E.out.keptG hk HGC8.out)
      replace B4 := hid (B4.out.kept hk (by simpa using HNC8B4.out.symm))
      replace B5 := hid (B5.out.kept hk (by simpa using HNC8B5.out.symm))
      replace V6 := hid (V6.out.kept hk (by simpa using HNC8V6.out.symm))
      replace V7 := hid (V7.out.kept hk (by simpa using HNC8V7.out.symm))
      replace C8 := hid hbx
      replace C9 := hid (C9.out.kept hk (by simpa using HNC9C8.out))
      replace Q4 := hid (Q4.out.kz hs)
      replace Q5 := hid (Q5.out.kz hs)
      replace Q6 := hid (Q6.out.kz hs)
      replace Q7 := hid (Q7.out.kz hs)
      replace Q8 := hid (Q8.out.kz hs)
      replace Q9 := hid (Q9.out.kz hs)
      clear hk hs hbx
      refine WE.store2 (g := gC9) (x := .bool g9) (y := .slice A9 n9 c9) (t := 24) rfl rfl (by rfl) (fun w hb => ?_) C9.out (by rfl) fun ws hk hs => ?_
      · have c0 := hb.cell (o := 0) (v := .bool false) rfl; have f0 := hb.free 0; have c1 := hb.cell (o := 1) (v := .slice none 0 0) rfl; have f1 := hb.free 1; go_simp
      intro hbx
      replace E := hid (E.out.keptG hk HGC9.out)
      replace B4 := hid (B4.out.kept hk (by simpa using HNC9B4.out.symm))
      replace B5 := hid (B5.out.kept hk (by simpa using HNC9B5.out.symm))
      replace V6 := hid (V6.out.kept hk (by simpa using HNC9V6.out.symm))
      replace V7 := hid (V7.out.kept hk (by simpa using HNC9V7.out.symm))
      replace C8 := hid (C8.out.kept hk (by simpa using HNC9C8.out.symm))
      replace C9 := hid hbx
      replace Q4 := hid (Q4.out.kz hs)
      replace Q5 := hid (Q5.out.kz hs)
      replace Q6 := hid (Q6.out.kz hs)
      replace Q7 := hid (Q7.out.kz hs)
      replace Q8 := hid (Q8.out.kz hs)
      replace Q9 := hid (Q9.out.kz hs)
      clear hk hs hbx
      refine WE.done ?_
      go_upto_region 5 with (fail)
      refine wp_region_X [(w.heap.size + 2), gV6] [(0, 0), (1, 5), (2, 4), (3, 4)] (fun _ => (0, #[])) rfl (by kernel_rfl) (by intro j hj; cases hj) (fun _ _ d _ _ => by cases d <;> exact Iff.rfl) fun wd hb => ?_
      replace E := hid (E.out.trans hb)
      replace B4 := hid (B4.out.up hb)
      replace B5 := hid (B5.out.up hb)
      replace V6 := hid (V6.out.up hb)
      replace V7 := hid (V7.out.up hb)
      replace C8 := hid (C8.out.up hb)
      replace C9 := hid (C9.out.up hb)
      replace Q4 := hid (Q4.out.up hb)
      replace Q5 := hid (Q5.out.up hb)
      replace Q6 := hid (Q6.out.up hb)
      replace Q7 := hid (Q7.out.up hb)
      replace Q8 := hid (Q8.out.up hb)
      replace Q9 := hid (Q9.out.up hb)
      clear hb
      have EX := hid (Ext.refl wd)
      have HL1B4 := hid B4.out.lt
      have HL1B5 := hid B5.out.lt
      have HL1V6 := hid V6.out.lt
      have HL1V7 := hid V7.out.lt
      have HL1C8 := hid C8.out.lt
      have HL1C9 := hid C9.out.lt
      have HW1 := hid (show w.heap.size ≤ wd.heap.size from E.out.size)
      refine WX.pure (d := some 23) rfl rfl (by rfl) (v := (.agg #[.bool g6, .slice A6 n6 c6])) (fun w' hk => ?_) ?_
      · have c0 := hk.cell (V6.out.cell (o := 0) (v := .bool g6) rfl); have c1 := hk.cell (V6.out.cell (o := 1) (v := .slice A6 n6 c6) rfl); go_simp
      simp only [Act.put, List.setIfInBounds_toArray, List.set_cons_zero, List.set_cons_succ]
      refine WX.any (d := some 24) rfl rfl (by rfl) (v := (.agg #[.bool g9, .slice A9 n9 c9])) (fun w' hk => ?_) ?_
      · have c0 := (C9.out.keptX hk HL1C9.out (nm_cons (by simpa using HNC9B4.out) (nm_cons (by simpa using HNC9V6.out) nm_nil))).cell (o := 0) (v := .bool g9) rfl; have c1 := (C9.out.keptX hk HL1C9.out (nm_cons (by simpa using HNC9B4.out) (nm_cons (by simpa using HNC9V6.out) nm_nil))).cell (o := 1) (v := .slice A9 n9 c9) rfl; go_simp
      simp only [Act.put, List.setIfInBounds_toArray, List.set_cons_zero, List.set_cons_succ]
      clear EX
      refine WX.store2 (g := (w.heap.size + 2)) (x := .bool g6) (y := .slice A6 n6 c6) (t := 24) rfl rfl (by rfl) (fun w hb => ?_) B4.out (by rfl) (.inl (by simp)) fun ws hk hs => ?_
      · have c0 := hb.cell (o := 0) (v := .bool g4) rfl; have f0 := hb.free 0; have c1 := hb.cell (o := 1) (v := .slice A4 n4 c4) rfl; have f1 := hb.free 1; go_simp
      intro hbx
      replace E := hid (E.out.keptG hk (by simp))
      replace B4 := hid hbx
      replace B5 := hid (B5.out.kept hk (by simp))
      replace V6 := hid (V6.out.kept hk (by simpa using HNV6B4.out))
      replace V7 := hid (V7.out.kept hk (by simpa using HNV7B4.out))
      replace C8 := hid (C8.out.kept hk (by simpa using HNC8B4.out))
      replace C9 := hid (C9.out.kept hk (by simpa using HNC9B4.out))
      replace Q4 := hid (Q4.out.kz hs)
      replace Q5 := hid (Q5.out.kz hs)
      replace Q6 := hid (Q6.out.kz hs)
      replace Q7 := hid (Q7.out.kz hs)
      replace Q8 := hid (Q8.out.kz hs)
      replace Q9 := hid (Q9.out.kz hs)
      clear hk hs hbx
      refine WX.store2 (g := gV6) (x := .bool g9) (y := .slice A9 n9 c9) (t := 24) rfl rfl (by rfl) (fun w hb => ?_) V6.out (by rfl) (.inl (by simp)) fun ws hk hs => ?_
      · have c0 := hb.cell (o := 0) (v := .bool g6) rfl; have f0 := hb.free 0; have c1 := hb.cell (o := 1) (v := .slice A6 n6 c6) rfl; have f1 := hb.free 1; go_simp
      intro hbx
      replace E := hid (E.out.keptG hk HGV6.out)
      replace B4 := hid (B4.out.kept hk (by simpa using HNV6B4.out.symm))
      replace B5 := hid (B5.out.kept hk (by simpa using HNV6B5.out.symm))
      replace V6 := hid hbx
      replace V7 := hid (V7.out.kept hk (by simpa using HNV7V6.out))
      replace C8 := hid (C8.out.kept hk (by simpa using HNC8V6.out))
      replace C9 := hid (C9.out.kept hk (by simpa using HNC9V6.out))
      replace Q4 := hid (Q4.out.kz hs)
      replace Q5 := hid (Q5.out.kz hs)
      replace Q6 := hid (Q6.out.kz hs)
      replace Q7 := hid (Q7.out.kz hs)
      replace Q8 := hid (Q8.out.kz hs)
      replace Q9 := hid (Q9.out.kz hs)
      clear hk hs hbx
      refine WX.done ?_
      go_upto_region 6 with (fail)
      refine wp_region_E [(0, 0), (1, 0), (2, 0), (3, 0), (4, 1), (5, 1), (6, 4), (7, 4)] (fun _ => (0, #[])) rfl (by kernel_rfl) (by intro j hj; cases hj) (fun _ _ d _ _ => by cases d <;> exact Iff.rfl) fun wd hb => ?_
      replace E := hid (E.out.trans hb)
      replace B4 := hid (B4.out.up hb)
      replace B5 := hid (B5.out.up hb)
      replace V6 := hid (V6.out.up hb)
      replace V7 := hid (V7.out.up hb)
      replace C8 := hid (C8.out.up hb)
      replace C9 := hid (C9.out.up hb)
      replace Q4 := hid (Q4.out.up hb)
      replace Q5 := hid (Q5.out.up hb)
      replace Q6 := hid (Q6.out.up hb)
      replace Q7 := hid (Q7.out.up hb)
      replace Q8 := hid (Q8.out.up hb)
      replace Q9 := hid (Q9.out.up hb)
      clear hb
      refine WE.pure (d := some 25) rfl rfl (by rfl) (v := (.agg #[.bool g7, .slice A7 n7 c7])) (fun w' hk => ?_) ?_
      · have c0 := hk.cell (V7.out.cell (o := 0) (v := .bool g7) rfl); have c1 := hk.cell (V7.out.cell (o := 1) (v := .slice A7 n7 c7) rfl); go_simp
      simp only [Act.put, List.setIfInBounds_toArray, List.set_cons_zero, List.set_cons_succ]
      refine WE.pure (d := some 26) rfl rfl (by rfl) (v := (.agg #[.bool g5, .slice A5 n5 c5])) (fun w' hk => ?_) ?_
      · have c0 := hk.cell (B5.out.cell (o := 0) (v := .bool g5) rfl); have c1 := hk.cell (B5.out.cell (o := 1) (v := .slice A5 n5 c5) rfl); go_simp
      simp only [Act.put, List.setIfInBounds_toArray, List.set_cons_zero, List.set_cons_succ]
      refine WE.pure (d := some 27) rfl rfl (by rfl) (v := (.agg #[.bool g8, .slice A8 n8 c8])) (fun w' hk => ?_) ?_
      · have c0 := hk.cell (C8.out.cell (o := 0) (v := .bool g8) rfl); have c1 := hk.cell (C8.out.cell (o := 1) (v := .slice A8 n8 c8) rfl); go_simp
      simp only [Act.put, List.setIfInBounds_toArray, List.set_cons_zero, List.set_cons_succ]
      refine WE.pure (d := some 28) rfl rfl (by rfl) (v := (.agg #[.bool g7, .slice A7 n7 c7])) (fun w' hk => ?_) ?_
      · have c0 := hk.cell (V7.out.cell (o := 0) (v := .bool g7) rfl); have c1 := hk.cell (V7.out.cell (o := 1) (v := .slice A7 n7 c7) rfl); go_simp
      simp only [Act.put, List.setIfInBounds_toArray, List.set_cons_zero, List.set_cons_succ]
      refine WE.call (d := some 29) rfl rfl (by rfl) (f := 31) (args := #[(.agg #[.bool g8, .slice A8 n8 c8]), (.agg #[.bool g7, .slice A7 n7 c7])]) (by go_simp) ?_
      refine (mul_w Q8.out.worth Q7.out.worth (by have := HJ.out; omega) (by have := HJ.out; omega) (by have := HJ.out; omega)).mono ?_
      rintro e wn ⟨v1, rfl, x1, hb⟩
      obtain ⟨gm, Am, nm, cm, rfl⟩ := x1.shape
      refine ⟨_, rfl, hb, ?_⟩
      replace E := hid (E.out.trans hb)
      replace B4 := hid (B4.out.up hb)
      replace B5 := hid (B5.out.up hb)
      replace V6 := hid (V6.out.up hb)
      replace V7 := hid (V7.out.up hb)
      replace C8 := hid (C8.out.up hb)
      replace C9 := hid (C9.out.up hb)
      replace Q4 := hid (Q4.out.up hb)
      replace Q5 := hid (Q5.out.up hb)
      replace Q6 := hid (Q6.out.up hb)
      replace Q7 := hid (Q7.out.up hb)
      replace Q8 := hid (Q8.out.up hb)
      replace Q9 := hid (Q9.out.up hb)
      have Qm := hid x1
      clear hb x1
      simp only [Act.put, List.setIfInBounds_toArray, List.set_cons_zero, List.set_cons_succ]
      refine WE.call (d := some 30) rfl rfl (by rfl) (f := 36) (args := #[(.agg #[.bool g5, .slice A5 n5 c5]), (.agg #[.bool gm, .slice Am nm cm])]) (by go_simp) ?_
      refine (sub_w Q5.out.worth Qm.out.worth (by have := HJ.out; omega) (by have := HJ.out; omega)).mono ?_
      rintro e wn ⟨v1, rfl, x1, hb⟩
      obtain ⟨gs, As, ns, cs, rfl⟩ := x1.shape
      refine ⟨_, rfl, hb, ?_⟩
      replace E := hid (E.out.trans hb)
      replace B4 := hid (B4.out.up hb)
      replace B5 := hid (B5.out.up hb)
      replace V6 := hid (V6.out.up hb)
      replace V7 := hid (V7.out.up hb)
      replace C8 := hid (C8.out.up hb)
      replace C9 := hid (C9.out.up hb)
      replace Q4 := hid (Q4.out.up hb)
      replace Q5 := hid (Q5.out.up hb)
      replace Q6 := hid (Q6.out.up hb)
      replace Q7 := hid (Q7.out.up hb)
      replace Q8 := hid (Q8.out.up hb)
      replace Q9 := hid (Q9.out.up hb)
      replace Qm := hid (Qm.out.up hb)
      have Qs := hid (IsZ.short (k := j) x1 (by have h1 := HX2.out.small.2; have h2 := HB.out; omega))
      clear hb x1
      simp only [Act.put, List.setIfInBounds_toArray, List.set_cons_zero, List.set_cons_succ]
      refine WE.store2 (g := (w.heap.size + 3)) (x := .bool g7) (y := .slice A7 n7 c7) (t := 24) rfl rfl (by rfl) (fun w hb => ?_) B5.out (by rfl) fun ws hk hs => ?_
      · have c0 := hb.cell (o := 0) (v := .bool g5) rfl; have f0 := hb.free 0; have c1 := hb.cell (o := 1) (v := .slice A5 n5 c5) rfl; have f1 := hb.free 1; go_simp
      intro hbx
      replace E := hid (E.out.keptG hk (by simp))
      replace B4 := hid (B4.out.kept hk (by simp))
      replace B5 := hid hbx
      replace V6 := hid (V6.out.kept hk (by simpa using HNV6B5.out))
      replace V7 := hid (V7.out.kept hk (by simpa using HNV7B5.out))
      replace C8 := hid (C8.out.kept hk (by simpa using HNC8B5.out))
      replace C9 := hid (C9.out.kept hk (by simpa using HNC9B5.out))
      replace Q4 := hid (Q4.out.kz hs)
      replace Q5 := hid (Q5.out.kz hs)
      replace Q6 := hid (Q6.out.kz hs)
      replace Q7 := hid (Q7.out.kz hs)
      replace Q8 := hid (Q8.out.kz hs)
      replace Q9 := hid (Q9.out.kz hs)
      replace Qm := hid (Qm.out.kz hs)
      replace Qs := hid (Qs.out.kz hs)
      clear hk hs hbx
      refine WE.store2 (g := gV7) (x := .bool gs) (y := .slice As ns cs) (t := 24) rfl rfl (by rfl) (fun w hb => ?_) V7.out (by rfl) fun ws hk hs => ?_
      · have c0 := hb.cell (o := 0) (v := .bool g7) rfl; have f0 := hb.free 0; have c1 := hb.cell (o := 1) (v := .slice A7 n7 c7) rfl; have f1 := hb.free 1; go_simp
      intro hbx
      replace E := hid (E.out.keptG hk HGV7.out)
      replace B4 := hid (B4.out.kept hk (by simpa using HNV7B4.out.symm))
      replace B5 := hid (B5.out.kept hk (by simpa using HNV7B5.out.symm))
      replace V6 := hid (V6.out.kept hk (by simpa using HNV7V6.out.symm))
      replace V7 := hid hbx
      replace C8 := hid (C8.out.kept hk (by simpa using HNC8V7.out))
      replace C9 := hid (C9.out.kept hk (by simpa using HNC9V7.out))
      replace Q4 := hid (Q4.out.kz hs)
      replace Q5 := hid (Q5.out.kz hs)
      replace Q6 := hid (Q6.out.kz hs)
      replace Q7 := hid (Q7.out.kz hs)
      replace Q8 := hid (Q8.out.kz hs)
      replace Q9 := hid (Q9.out.kz hs)
      replace Qm := hid (Qm.out.kz hs)
      replace Qs := hid (Qs.out.kz hs)
      clear hk hs hbx
      refine WE.done ?_
      go_wp2
      go_roundg (d % gk)
      case measure => exact Nat.mod_lt _ HR.out
      case rel => exact ⟨gk, n, _, g6, A6, n6, c6, g7, A7, n7, c7, g9, A9, n9, c9, gs, As, ns, cs, HX2, Q6, Q7, Q9, Qs, E, B4, B5, V6, V7⟩

end Go.Proofs.Ytljjijcmoafndaa
