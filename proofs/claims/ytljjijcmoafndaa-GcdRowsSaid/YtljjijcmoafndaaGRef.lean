/-
  Contracts of the reference's Gcd and Lcm.
-/
import Derived.Test.YtljjijcmoafndaaGFace
import Derived.Test.YtljjijcmoafndaaZBase
import Derived.Test.YtljjijcmoafndaaRZD
import Derived.Deep.LoopGhost
namespace Go.Proofs.Ytljjijcmoafndaa
open Go.RowKit
set_option linter.unusedSimpArgs false
set_option linter.unusedVariables false

set_option maxRecDepth 100000 in
set_option maxHeartbeats 2000000 in
theorem rGcd_w {w : World} {u v : Value} {Z Y : Int} {j : Nat} (hu : Worth w u Z j) (hv : Worth w v Y j) (hj : j ≤ 1000000) :
    Calls Try.prog 10 #[u, v] w (GivesZ w (Int.gcd Z Y : Nat) j) := by
  obtain ⟨gu, Au, nu, cu, rfl⟩ := hu.shape
  obtain ⟨gv, Av, nv, cv, rfl⟩ := hv.shape
  have HA := hid hu.len
  have HB := hid hv.len
  have QU := hid hu
  have QV := hid hv
  have HJ := hid hj
  clear hu hv hj
  go_enter Try.func10, Try.ntmps10
  go_upto_region 1 with (fail)
  have E := hid ((((Ext.refl w).alloc' (.cells #[.bool gu, .slice Au nu cu] 24)).alloc' (.cells #[.bool gv, .slice Av nv cv] 24)).alloc' (.cells #[.bool false, .slice none 0 0] 24))
  have B2 : Hid (Box (((w.alloc (.cells #[.bool gu, .slice Au nu cu] 24)).alloc (.cells #[.bool gv, .slice Av nv cv] 24)).alloc (.cells #[.bool false, .slice none 0 0] 24)) (w.heap.size) #[.bool gu, .slice Au nu cu] 24) := hid (((Box.at_ (w := w) #[.bool gu, .slice Au nu cu] 24 (by simp)).alloc (.cells #[.bool gv, .slice Av nv cv] 24)).alloc (.cells #[.bool false, .slice none 0 0] 24))
  have B3 : Hid (Box (((w.alloc (.cells #[.bool gu, .slice Au nu cu] 24)).alloc (.cells #[.bool gv, .slice Av nv cv] 24)).alloc (.cells #[.bool false, .slice none 0 0] 24)) (w.heap.size + 1) #[.bool gv, .slice Av nv cv] 24) := hid ((Box.at_ (w := (w.alloc (.cells #[.bool gu, .slice Au nu cu] 24))) #[.bool gv, .slice Av nv cv] 24 (by simp)).alloc (.cells #[.bool false, .slice none 0 0] 24))
  have B4 : Hid (Box (((w.alloc (.cells #[.bool gu, .slice Au nu cu] 24)).alloc (.cells #[.bool gv, .slice Av nv cv] 24)).alloc (.cells #[.bool false, .slice none 0 0] 24)) (w.heap.size + 2) #[.bool false, .slice none 0 0] 24) := hid (Box.at_ (w := ((w.alloc (.cells #[.bool gu, .slice Au nu cu] 24)).alloc (.cells #[.bool gv, .slice Av nv cv] 24))) #[.bool false, .slice none 0 0] 24 (by simp))
  replace QU := hid (QU.out.up E.out)
  replace QV := hid (QV.out.up E.out)
  refine wp_region_E [(0, 0), (3, 0), (1, 1), (2, 0), (4, 1), (5, 0), (6, 0), (7, 0)] (fun _ => (0, #[])) rfl (by kernel_rfl) (by intro j hj; cases hj) (fun _ _ d _ _ => by cases d <;> exact Iff.rfl) fun wd hb => ?_
  replace E := hid (E.out.trans hb)
  replace B2 := hid (B2.out.up hb)
  replace B3 := hid (B3.out.up hb)
  replace B4 := hid (B4.out.up hb)
  replace QU := hid (QU.out.up hb)
  replace QV := hid (QV.out.up hb)
  clear hb
  refine WE.pure (d := some 9) rfl rfl (by rfl) (v := (.agg #[.bool gu, .slice Au nu cu])) (fun w' hk => ?_) ?_
  · have c0 := hk.cell (B2.out.cell (o := 0) (v := .bool gu) rfl); have c1 := hk.cell (B2.out.cell (o := 1) (v := .slice Au nu cu) rfl); go_simp
  simp only [Act.put, List.setIfInBounds_toArray, List.set_cons_zero, List.set_cons_succ]
  refine WE.pure (d := some 12) rfl rfl (by rfl) (v := (.agg #[.bool gv, .slice Av nv cv])) (fun w' hk => ?_) ?_
  · have c0 := hk.cell (B3.out.cell (o := 0) (v := .bool gv) rfl); have c1 := hk.cell (B3.out.cell (o := 1) (v := .slice Av nv cv) rfl); go_simp
  simp only [Act.put, List.setIfInBounds_toArray, List.set_cons_zero, List.set_cons_succ]
  refine WE.call (d := some 10) rfl rfl (by rfl) (f := 22) (args := #[(.agg #[.bool gu, .slice Au nu cu])]) (by go_simp) ?_
  refine (rAbs_w QU.out).mono ?_
  rintro e wn ⟨vx, rfl, hx, hb⟩
  obtain ⟨g1, A1, n1, c1, rfl, hs1, hr1⟩ := hx.form
  clear hx
  refine ⟨_, rfl, hb, ?_⟩
  replace E := hid (E.out.trans hb)
  replace B2 := hid (B2.out.up hb)
  replace B3 := hid (B3.out.up hb)
  replace B4 := hid (B4.out.up hb)
  replace QU := hid (QU.out.up hb)
  replace QV := hid (QV.out.up hb)
  have HS1 := hid hs1
  have R1 := hid hr1
  clear hb hs1 hr1
  simp only [Act.put, List.setIfInBounds_toArray, List.set_cons_zero, List.set_cons_succ]
  refine WE.pure (d := some 11) rfl rfl (by rfl) (v := (.slice A1 n1 c1)) (fun w' hk => ?_) ?_
  · have hf : ∀ w, (Instr.field 24 (.agg #[.bool g1, .slice A1 n1 c1]) 1).run Try.prog w = .ok (.slice A1 n1 c1) w := (fun w => by kernel_rfl); go_simp
  simp only [Act.put, List.setIfInBounds_toArray, List.set_cons_zero, List.set_cons_succ]
  refine WE.call (d := some 13) rfl rfl (by rfl) (f := 22) (args := #[(.agg #[.bool gv, .slice Av nv cv])]) (by go_simp) ?_
  refine (rAbs_w QV.out).mono ?_
  rintro e wn ⟨vx, rfl, hx, hb⟩
  obtain ⟨g2, A2, n2, c2, rfl, hs2, hr2⟩ := hx.form
  clear hx
  refine ⟨_, rfl, hb, ?_⟩
  replace E := hid (E.out.trans hb)
  replace B2 := hid (B2.out.up hb)
  replace B3 := hid (B3.out.up hb)
  replace B4 := hid (B4.out.up hb)
  replace QU := hid (QU.out.up hb)
  replace QV := hid (QV.out.up hb)
  replace R1 := hid (R1.out.up hb)
  have HS2 := hid hs2
  have R2 := hid hr2
  clear hb hs2 hr2
  simp only [Act.put, List.setIfInBounds_toArray, List.set_cons_zero, List.set_cons_succ]
  refine WE.pure (d := some 14) rfl rfl (by rfl) (v := (.slice A2 n2 c2)) (fun w' hk => ?_) ?_
  · have hf : ∀ w, (Instr.field 24 (.agg #[.bool g2, .slice A2 n2 c2]) 1).run Try.prog w = .ok (.slice A2 n2 c2) w := (fun w => by kernel_rfl); go_simp
  simp only [Act.put, List.setIfInBounds_toArray, List.set_cons_zero, List.set_cons_succ]
  refine WE.pure (d := some 5) rfl rfl (by rfl) (v := (.slice A1 n1 c1)) (fun w' hk => ?_) ?_
  · go_simp
  simp only [Act.put, List.setIfInBounds_toArray, List.set_cons_zero, List.set_cons_succ]
  refine WE.pure (d := some 6) rfl rfl (by rfl) (v := (.slice A2 n2 c2)) (fun w' hk => ?_) ?_
  · go_simp
  simp only [Act.put, List.setIfInBounds_toArray, List.set_cons_zero, List.set_cons_succ]
  refine WE.done ?_
  clear B2
  clear B3
  clear QU
  clear QV
  go_wp2
  go_loopg [5, 6] (Y.natAbs) (fun y u v wr => ∃ (x : Nat) (A : Option Addr) (n c : Nat) (A' : Option Addr) (n' c' : Nat), u = .slice A n c ∧ v = .slice A' n' c' ∧ Hid (IsN wr (.slice A n c) x j) ∧ Hid (IsN wr (.slice A' n' c') y j) ∧ Hid (Nat.gcd x y = Nat.gcd Z.natAbs Y.natAbs) ∧ Hid (Ext w wr) ∧ Hid (Box wr (w.heap.size + 2) #[.bool false, .slice none 0 0] 24))
  case atStart => exact ⟨Z.natAbs, A1, n1, c1, A2, n2, c2, rfl, rfl, by have := R1.out; rw [Int.natAbs_natCast] at this; exact this, by have := R2.out; rw [Int.natAbs_natCast] at this; exact this, rfl, E.out, B4.out⟩
  case round =>
    clear E B4 R1 R2 HS1 HS2
    obtain ⟨x, A1, n1, c1, A2, n2, c2, rfl, rfl, R1, R2, HX, E, B4⟩ := hrel
    have HC := hid R2.out.count
    have hb1 : n2 ≤ 9223372036854775807 := HC.out.2
    by_cases h0 : n2 = 0
    · subst h0
      have HY := hid (show gk = 0 from M.limbs_eq_nil.1 (List.eq_nil_of_length_eq_zero HC.out.1.symm))
      go_upto_region 5 with (fail)
      refine wp_region_T [(0, 0), (1, 0), (2, 4)] (by kernel_rfl) fun wd hb => ?_
      replace E := hid (E.out.trans hb)
      replace B4 := hid (B4.out.up hb)
      replace R1 := hid (R1.out.up hb)
      replace R2 := hid (R2.out.up hb)
      clear hb
      refine WE.pure (d := some 26) rfl rfl (by rfl) (v := (.slice A1 n1 c1)) (fun w' hk => ?_) ?_
      · go_simp
      simp only [Act.put, List.setIfInBounds_toArray, List.set_cons_zero, List.set_cons_succ]
      refine WE.pure (d := some 27) rfl rfl (by rfl) (v := (.agg #[.bool false, .slice A1 n1 c1])) (fun w' hk => ?_) ?_
      · go_simp
      simp only [Act.put, List.setIfInBounds_toArray, List.set_cons_zero, List.set_cons_succ]
      refine WE.store2 (g := (w.heap.size + 2)) (x := .bool false) (y := .slice A1 n1 c1) (t := 24) rfl rfl (by rfl) (fun w hb => ?_) B4.out (by rfl) fun ws hk hs => ?_
      · have c0 := hb.cell (o := 0) (v := .bool false) rfl; have f0 := hb.free 0; have c1 := hb.cell (o := 1) (v := .slice none 0 0) rfl; have f1 := hb.free 1; go_simp
      intro hbx
      replace E := hid (E.out.keptG hk (by simp))
      replace B4 := hid hbx
      replace R1 := hid (R1.out.kz hs)
      replace R2 := hid (R2.out.kz hs)
      clear hk hs hbx
      refine WE.done ?_
      have r0 := B4.out.cell (o := 0) (v := .bool false) rfl
      have r1 := B4.out.cell (o := 1) (v := .slice A1 n1 c1) rfl
      go_wp2
      exact bodyPost_ret (v := .agg #[.bool false, .slice A1 n1 c1]) (by simp [results, Try.results10, go_sem, r0, r1]) rfl ⟨_, rfl, IsZ.mk (by simp; done) (by rw [Int.natAbs_natCast]; have h1 := HX.out; rw [HY.out, Nat.gcd_zero_right] at h1; show IsN _ _ (Nat.gcd Z.natAbs Y.natAbs) j; rw [← h1]; exact R1.out), E.out⟩
    · have h0' : decide ((0 : Int) < (n2 : Int)) = true := decide_eq_true (by omega)
      have HR := hid (show 0 < gk by
          rcases Nat.eq_zero_or_pos gk with e | e
          · exfalso; apply h0; rw [HC.out.1, e, M.limbs_zero]; rfl
          · exact e)
      have hN : 0 < n2 := by omega
      clear h0
      go_upto_region 3 with (fail)
      refine wp_region_T [(0, 0), (1, 0), (2, 1), (3, 0), (4, 0), (5, 0), (6, 0), (7, 0)] (by kernel_rfl) fun wd hb => ?_
      replace E := hid (E.out.trans hb)
      replace B4 := hid (B4.out.up hb)
      replace R1 := hid (R1.out.up hb)
      replace R2 := hid (R2.out.up hb)
      clear hb
      refine WE.pure (d := some 19) rfl rfl (by rfl) (v := (.slice A1 n1 c1)) (fun w' hk => ?_) ?_
      · go_simp
      simp only [Act.put, List.setIfInBounds_toArray, List.set_cons_zero, List.set_cons_succ]
      refine WE.pure (d := some 20) rfl rfl (by rfl) (v := (.slice A2 n2 c2)) (fun w' hk => ?_) ?_
      · go_simp
      simp only [Act.put, List.setIfInBounds_toArray, List.set_cons_zero, List.set_cons_succ]
      refine WE.call (d := some 21) rfl rfl (by rfl) (f := 26) (args := #[(.slice A1 n1 c1), (.slice A2 n2 c2)]) (by go_simp) ?_
      refine (rdiv_N R1.out R2.out HJ.out HJ.out).mono ?_
      rintro e wn ⟨vx, vy, rfl, hx, hy, hb⟩
      obtain ⟨A3, n3, c3, rfl⟩ := hx.1.slice
      obtain ⟨A4, n4, c4, rfl⟩ := hy.1.slice
      refine ⟨_, rfl, hb, ?_⟩
      replace E := hid (E.out.trans hb)
      replace B4 := hid (B4.out.up hb)
      replace R1 := hid (R1.out.up hb)
      replace R2 := hid (R2.out.up hb)
      have R4 := hid (show IsN _ _ (x % gk) j from ⟨hy.1, M.limbs_length_le (Nat.lt_of_lt_of_le (Nat.mod_lt _ HR.out) (Nat.le_of_lt R2.out.len))⟩)
      clear hb hx hy
      simp only [Act.put, List.setIfInBounds_toArray, List.set_cons_zero, List.set_cons_succ]
      refine WE.pure (d := some 18) rfl rfl (by rfl) (v := (.tuple #[(.slice A3 n3 c3), (.slice A4 n4 c4)])) (fun w' hk => ?_) ?_
      · go_simp
      simp only [Act.put, List.setIfInBounds_toArray, List.set_cons_zero, List.set_cons_succ]
      refine WE.pure (d := some 22) rfl rfl (by rfl) (v := (.slice A3 n3 c3)) (fun w' hk => ?_) ?_
      · go_simp
      simp only [Act.put, List.setIfInBounds_toArray, List.set_cons_zero, List.set_cons_succ]
      refine WE.pure (d := some 23) rfl rfl (by rfl) (v := (.slice A4 n4 c4)) (fun w' hk => ?_) ?_
      · go_simp
      simp only [Act.put, List.setIfInBounds_toArray, List.set_cons_zero, List.set_cons_succ]
      refine WE.pure (d := some 7) rfl rfl (by rfl) (v := (.slice A3 n3 c3)) (fun w' hk => ?_) ?_
      · go_simp
      simp only [Act.put, List.setIfInBounds_toArray, List.set_cons_zero, List.set_cons_succ]
      refine WE.pure (d := some 8) rfl rfl (by rfl) (v := (.slice A4 n4 c4)) (fun w' hk => ?_) ?_
      · go_simp
      simp only [Act.put, List.setIfInBounds_toArray, List.set_cons_zero, List.set_cons_succ]
      refine WE.done ?_
      go_wp2
      go_roundg (x % gk)
      case measure => exact Nat.mod_lt _ HR.out
      case rel => exact ⟨gk, A2, n2, c2, A4, n4, c4, rfl, rfl, R2, R4, (M.gcd_step x gk).trans HX.out, E, B4⟩

set_option maxRecDepth 100000 in
set_option maxHeartbeats 2000000 in
theorem rLcm_za {w : World} {u v : Value} {Z Y : Int} {j : Nat} (hu : Worth w u Z j) (hv : Worth w v Y j) (hj : j ≤ 10000) (hz : ((Int.lcm Z Y : Nat) : Int) = 0) (hz1 : Z.sign = 0) :
    Calls Try.prog 14 #[u, v] w (GivesZ w (Int.lcm Z Y : Nat) (max j 1 + 1 + j)) := by
  obtain ⟨gu, Au, nu, cu, rfl⟩ := hu.shape
  obtain ⟨gv, Av, nv, cv, rfl⟩ := hv.shape
  have HA := hid hu.len
  have HB := hid hv.len
  have QU := hid hu
  have QV := hid hv
  have HJ := hid hj
  clear hu hv hj
  have HZ := hid hz
  have HZ1 := hid hz1
  clear hz hz1
  go_enter Try.func14, Try.ntmps14
  go_upto_region 1 with (fail)
  have E := hid ((((Ext.refl w).alloc' (.cells #[.bool gu, .slice Au nu cu] 24)).alloc' (.cells #[.bool gv, .slice Av nv cv] 24)).alloc' (.cells #[.bool false, .slice none 0 0] 24))
  have B2 : Hid (Box (((w.alloc (.cells #[.bool gu, .slice Au nu cu] 24)).alloc (.cells #[.bool gv, .slice Av nv cv] 24)).alloc (.cells #[.bool false, .slice none 0 0] 24)) (w.heap.size) #[.bool gu, .slice Au nu cu] 24) := hid (((Box.at_ (w := w) #[.bool gu, .slice Au nu cu] 24 (by simp)).alloc (.cells #[.bool gv, .slice Av nv cv] 24)).alloc (.cells #[.bool false, .slice none 0 0] 24))
  have B3 : Hid (Box (((w.alloc (.cells #[.bool gu, .slice Au nu cu] 24)).alloc (.cells #[.bool gv, .slice Av nv cv] 24)).alloc (.cells #[.bool false, .slice none 0 0] 24)) (w.heap.size + 1) #[.bool gv, .slice Av nv cv] 24) := hid ((Box.at_ (w := (w.alloc (.cells #[.bool gu, .slice Au nu cu] 24))) #[.bool gv, .slice Av nv cv] 24 (by simp)).alloc (.cells #[.bool false, .slice none 0 0] 24))
  have B4 : Hid (Box (((w.alloc (.cells #[.bool gu, .slice Au nu cu] 24)).alloc (.cells #[.bool gv, .slice Av nv cv] 24)).alloc (.cells #[.bool false, .slice none 0 0] 24)) (w.heap.size + 2) #[.bool false, .slice none 0 0] 24) := hid (Box.at_ (w := ((w.alloc (.cells #[.bool gu, .slice Au nu cu] 24)).alloc (.cells #[.bool gv, .slice Av nv cv] 24))) #[.bool false, .slice none 0 0] 24 (by simp))
  replace QU := hid (QU.out.up E.out)
  replace QV := hid (QV.out.up E.out)
  refine wp_region_T [(0, 0), (1, 0), (2, 1), (3, 1), (4, 4)] (by kernel_rfl) fun wd hb => ?_
  replace E := hid (E.out.trans hb)
  replace B2 := hid (B2.out.up hb)
  replace B3 := hid (B3.out.up hb)
  replace B4 := hid (B4.out.up hb)
  replace QU := hid (QU.out.up hb)
  replace QV := hid (QV.out.up hb)
  clear hb
  refine WE.pure (d := some 8) rfl rfl (by rfl) (v := (.agg #[.bool gu, .slice Au nu cu])) (fun w' hk => ?_) ?_
  · have c0 := hk.cell (B2.out.cell (o := 0) (v := .bool gu) rfl); have c1 := hk.cell (B2.out.cell (o := 1) (v := .slice Au nu cu) rfl); go_simp
  simp only [Act.put, List.setIfInBounds_toArray, List.set_cons_zero, List.set_cons_succ]
  refine WE.pure (d := some 9) rfl rfl (by rfl) (v := (.agg #[.bool gv, .slice Av nv cv])) (fun w' hk => ?_) ?_
  · have c0 := hk.cell (B3.out.cell (o := 0) (v := .bool gv) rfl); have c1 := hk.cell (B3.out.cell (o := 1) (v := .slice Av nv cv) rfl); go_simp
  simp only [Act.put, List.setIfInBounds_toArray, List.set_cons_zero, List.set_cons_succ]
  refine WE.call (d := some 10) rfl rfl (by rfl) (f := 10) (args := #[(.agg #[.bool gu, .slice Au nu cu]), (.agg #[.bool gv, .slice Av nv cv])]) (by go_simp) ?_
  refine (rGcd_w QU.out QV.out (by have := HJ.out; omega)).mono ?_
  rintro e wn ⟨v1, rfl, x1, hb⟩
  obtain ⟨gg, Ag, ng, cg, rfl⟩ := x1.shape
  refine ⟨_, rfl, hb, ?_⟩
  replace E := hid (E.out.trans hb)
  replace B2 := hid (B2.out.up hb)
  replace B3 := hid (B3.out.up hb)
  replace B4 := hid (B4.out.up hb)
  replace QU := hid (QU.out.up hb)
  replace QV := hid (QV.out.up hb)
  have Qg := hid x1
  clear hb x1
  simp only [Act.put, List.setIfInBounds_toArray, List.set_cons_zero, List.set_cons_succ]
  refine WE.new (d := some 5) (cs := #[.bool false, .slice none 0 0]) (t := 24) (v := fun g => (.pointer (some ⟨g, 0, none⟩))) rfl rfl (by rfl) (fun w => by go_simp) fun gV5 wv hx0 hbox hge => ?_
  have HNV5B2 := hid (show gV5 ≠ (w.heap.size) by have := B2.out.lt; omega)
  have HNV5B3 := hid (show gV5 ≠ (w.heap.size + 1) by have := B3.out.lt; omega)
  have HNV5B4 := hid (show gV5 ≠ (w.heap.size + 2) by have := B4.out.lt; omega)
  have HGV5 := hid (show w.heap.size ≤ gV5 by have := E.out.size; omega)
  replace E := hid (E.out.trans hx0)
  replace B2 := hid (B2.out.up hx0)
  replace B3 := hid (B3.out.up hx0)
  replace B4 := hid (B4.out.up hx0)
  replace QU := hid (QU.out.up hx0)
  replace QV := hid (QV.out.up hx0)
  replace Qg := hid (Qg.out.up hx0)
  have V5 : Hid (Box wv gV5 #[.bool false, .slice none 0 0] 24) := hid hbox
  clear hx0 hbox hge
  simp only [Act.put, List.setIfInBounds_toArray, List.set_cons_zero, List.set_cons_succ]
  refine WE.store2 (g := gV5) (x := .bool gg) (y := .slice Ag ng cg) (t := 24) rfl rfl (by rfl) (fun w hb => ?_) V5.out (by rfl) fun ws hk hs => ?_
  · have c0 := hb.cell (o := 0) (v := .bool false) rfl; have f0 := hb.free 0; have c1 := hb.cell (o := 1) (v := .slice none 0 0) rfl; have f1 := hb.free 1; go_simp
  intro hbx
  replace E := hid (E.out.keptG hk HGV5.out)
  replace B2 := hid (B2.out.kept hk (by simpa using HNV5B2.out.symm))
  replace B3 := hid (B3.out.kept hk (by simpa using HNV5B3.out.symm))
  replace B4 := hid (B4.out.kept hk (by simpa using HNV5B4.out.symm))
  replace V5 := hid hbx
  replace QU := hid (QU.out.kz hs)
  replace QV := hid (QV.out.kz hs)
  replace Qg := hid (Qg.out.kz hs)
  clear hk hs hbx
  refine WE.done ?_
  go_upto_region 2 with (fail)
  refine wp_region_T [(0, 0), (1, 1), (2, 0), (3, 0), (4, 0), (5, 1), (6, 0), (7, 0)] (by kernel_rfl) fun wd hb => ?_
  replace E := hid (E.out.trans hb)
  replace B2 := hid (B2.out.up hb)
  replace B3 := hid (B3.out.up hb)
  replace B4 := hid (B4.out.up hb)
  replace V5 := hid (V5.out.up hb)
  replace QU := hid (QU.out.up hb)
  replace QV := hid (QV.out.up hb)
  replace Qg := hid (Qg.out.up hb)
  clear hb
  refine WE.pure (d := some 11) rfl rfl (by rfl) (v := (.agg #[.bool gu, .slice Au nu cu])) (fun w' hk => ?_) ?_
  · have c0 := hk.cell (B2.out.cell (o := 0) (v := .bool gu) rfl); have c1 := hk.cell (B2.out.cell (o := 1) (v := .slice Au nu cu) rfl); go_simp
  simp only [Act.put, List.setIfInBounds_toArray, List.set_cons_zero, List.set_cons_succ]
  refine WE.call (d := some 12) rfl rfl (by rfl) (f := 20) (args := #[(.agg #[.bool gu, .slice Au nu cu])]) (by go_simp) ?_
  refine (rSign_w QU.out (s := 0) (HZ1.out)).mono ?_
  rintro e wn ⟨rfl, hb⟩
  refine ⟨_, rfl, hb, ?_⟩
  replace E := hid (E.out.trans hb)
  replace B2 := hid (B2.out.up hb)
  replace B3 := hid (B3.out.up hb)
  replace B4 := hid (B4.out.up hb)
  replace V5 := hid (V5.out.up hb)
  replace QU := hid (QU.out.up hb)
  replace QV := hid (QV.out.up hb)
  replace Qg := hid (Qg.out.up hb)
  clear hb
  simp only [Act.put, List.setIfInBounds_toArray, List.set_cons_zero, List.set_cons_succ]
  refine WE.pure (d := some 13) rfl rfl (by rfl) (v := (.bool true)) (fun w' hk => ?_) ?_
  · go_simp
  simp only [Act.put, List.setIfInBounds_toArray, List.set_cons_zero, List.set_cons_succ]
  refine WE.pure (d := some 14) rfl rfl (by rfl) (v := (.bool true)) (fun w' hk => ?_) ?_
  · go_simp
  simp only [Act.put, List.setIfInBounds_toArray, List.set_cons_zero, List.set_cons_succ]
  refine WE.skip (d := some 15) rfl rfl (by rfl) ?_
  simp only [Act.put, List.setIfInBounds_toArray, List.set_cons_zero, List.set_cons_succ]
  refine WE.pass (d := some 16) rfl rfl (by rfl) ?_
  simp only [Act.put, List.setIfInBounds_toArray, List.set_cons_zero, List.set_cons_succ]
  refine WE.skip (d := some 17) rfl rfl (by rfl) ?_
  simp only [Act.put, List.setIfInBounds_toArray, List.set_cons_zero, List.set_cons_succ]
  refine WE.pure (d := some 18) rfl rfl (by rfl) (v := (.bool true)) (fun w' hk => ?_) ?_
  · go_simp
  simp only [Act.put, List.setIfInBounds_toArray, List.set_cons_zero, List.set_cons_succ]
  refine WE.done ?_
  go_upto_region 3 with (fail)
  refine wp_region_T [(0, 0), (1, 4)] (by kernel_rfl) fun wd hb => ?_
  replace E := hid (E.out.trans hb)
  replace B2 := hid (B2.out.up hb)
  replace B3 := hid (B3.out.up hb)
  replace B4 := hid (B4.out.up hb)
  replace V5 := hid (V5.out.up hb)
  replace QU := hid (QU.out.up hb)
  replace QV := hid (QV.out.up hb)
  replace Qg := hid (Qg.out.up hb)
  clear hb
  refine WE.pure (d := some 19) rfl rfl (by rfl) (v := (.agg #[.bool false, .slice none 0 0])) (fun w' hk => ?_) ?_
  · go_simp
  simp only [Act.put, List.setIfInBounds_toArray, List.set_cons_zero, List.set_cons_succ]
  refine WE.store2 (g := (w.heap.size + 2)) (x := .bool false) (y := .slice none 0 0) (t := 24) rfl rfl (by rfl) (fun w hb => ?_) B4.out (by rfl) fun ws hk hs => ?_
  · have c0 := hb.cell (o := 0) (v := .bool false) rfl; have f0 := hb.free 0; have c1 := hb.cell (o := 1) (v := .slice none 0 0) rfl; have f1 := hb.free 1; go_simp
  intro hbx
  replace E := hid (E.out.keptG hk (by simp))
  replace B2 := hid (B2.out.kept hk (by simp))
  replace B3 := hid (B3.out.kept hk (by simp))
  replace B4 := hid hbx
  replace V5 := hid (V5.out.kept hk (by simpa using HNV5B4.out))
  replace QU := hid (QU.out.kz hs)
  replace QV := hid (QV.out.kz hs)
  replace Qg := hid (Qg.out.kz hs)
  clear hk hs hbx
  refine WE.done ?_
  have r0 := B4.out.cell (o := 0) (v := .bool false) rfl
  have r1 := B4.out.cell (o := 1) (v := .slice none 0 0) rfl
  go_wp2
  exact bodyPost_ret (v := .agg #[.bool false, .slice none 0 0]) (by simp [results, Try.results14, go_sem, r0, r1]) rfl ⟨_, rfl, by rw [HZ.out]; exact IsZ.nought.wide (Nat.zero_le _), E.out⟩

set_option maxRecDepth 100000 in
set_option maxHeartbeats 2000000 in
theorem rLcm_zb {w : World} {u v : Value} {Z Y : Int} {j : Nat} (hu : Worth w u Z j) (hv : Worth w v Y j) (hj : j ≤ 10000) (hz : ((Int.lcm Z Y : Nat) : Int) = 0) {sa : Int} (hz1 : Z.sign = sa) (hz2 : ¬ sa = 0) (hz3 : Y.sign = 0) :
    Calls Try.prog 14 #[u, v] w (GivesZ w (Int.lcm Z Y : Nat) (max j 1 + 1 + j)) := by
  obtain ⟨gu, Au, nu, cu, rfl⟩ := hu.shape
  obtain ⟨gv, Av, nv, cv, rfl⟩ := hv.shape
  have HA := hid hu.len
  have HB := hid hv.len
  have QU := hid hu
  have QV := hid hv
  have HJ := hid hj
  clear hu hv hj
  have HZ := hid hz
  have HZ1 := hid hz1
  have HZ2 := hid hz2
  have HZ3 := hid hz3
  clear hz hz1 hz2 hz3
  go_enter Try.func14, Try.ntmps14
  go_upto_region 1 with (fail)
  have E := hid ((((Ext.refl w).alloc' (.cells #[.bool gu, .slice Au nu cu] 24)).alloc' (.cells #[.bool gv, .slice Av nv cv] 24)).alloc' (.cells #[.bool false, .slice none 0 0] 24))
  have B2 : Hid (Box (((w.alloc (.cells #[.bool gu, .slice Au nu cu] 24)).alloc (.cells #[.bool gv, .slice Av nv cv] 24)).alloc (.cells #[.bool false, .slice none 0 0] 24)) (w.heap.size) #[.bool gu, .slice Au nu cu] 24) := hid (((Box.at_ (w := w) #[.bool gu, .slice Au nu cu] 24 (by simp)).alloc (.cells #[.bool gv, .slice Av nv cv] 24)).alloc (.cells #[.bool false, .slice none 0 0] 24))
  have B3 : Hid (Box (((w.alloc (.cells #[.bool gu, .slice Au nu cu] 24)).alloc (.cells #[.bool gv, .slice Av nv cv] 24)).alloc (.cells #[.bool false, .slice none 0 0] 24)) (w.heap.size + 1) #[.bool gv, .slice Av nv cv] 24) := hid ((Box.at_ (w := (w.alloc (.cells #[.bool gu, .slice Au nu cu] 24))) #[.bool gv, .slice Av nv cv] 24 (by simp)).alloc (.cells #[.bool false, .slice none 0 0] 24))
  have B4 : Hid (Box (((w.alloc (.cells #[.bool gu, .slice Au nu cu] 24)).alloc (.cells #[.bool gv, .slice Av nv cv] 24)).alloc (.cells #[.bool false, .slice none 0 0] 24)) (w.heap.size + 2) #[.bool false, .slice none 0 0] 24) := hid (Box.at_ (w := ((w.alloc (.cells #[.bool gu, .slice Au nu cu] 24)).alloc (.cells #[.bool gv, .slice Av nv cv] 24))) #[.bool false, .slice none 0 0] 24 (by simp))
  replace QU := hid (QU.out.up E.out)
  replace QV := hid (QV.out.up E.out)
  refine wp_region_T [(0, 0), (1, 0), (2, 1), (3, 1), (4, 4)] (by kernel_rfl) fun wd hb => ?_
  replace E := hid (E.out.trans hb)
  replace B2 := hid (B2.out.up hb)
  replace B3 := hid (B3.out.up hb)
  replace B4 := hid (B4.out.up hb)
  replace QU := hid (QU.out.up hb)
  replace QV := hid (QV.out.up hb)
  clear hb
  refine WE.pure (d := some 8) rfl rfl (by rfl) (v := (.agg #[.bool gu, .slice Au nu cu])) (fun w' hk => ?_) ?_
  · have c0 := hk.cell (B2.out.cell (o := 0) (v := .bool gu) rfl); have c1 := hk.cell (B2.out.cell (o := 1) (v := .slice Au nu cu) rfl); go_simp
  simp only [Act.put, List.setIfInBounds_toArray, List.set_cons_zero, List.set_cons_succ]
  refine WE.pure (d := some 9) rfl rfl (by rfl) (v := (.agg #[.bool gv, .slice Av nv cv])) (fun w' hk => ?_) ?_
  · have c0 := hk.cell (B3.out.cell (o := 0) (v := .bool gv) rfl); have c1 := hk.cell (B3.out.cell (o := 1) (v := .slice Av nv cv) rfl); go_simp
  simp only [Act.put, List.setIfInBounds_toArray, List.set_cons_zero, List.set_cons_succ]
  refine WE.call (d := some 10) rfl rfl (by rfl) (f := 10) (args := #[(.agg #[.bool gu, .slice Au nu cu]), (.agg #[.bool gv, .slice Av nv cv])]) (by go_simp) ?_
  refine (rGcd_w QU.out QV.out (by have := HJ.out; omega)).mono ?_
  rintro e wn ⟨v1, rfl, x1, hb⟩
  obtain ⟨gg, Ag, ng, cg, rfl⟩ := x1.shape
  refine ⟨_, rfl, hb, ?_⟩
  replace E := hid (E.out.trans hb)
  replace B2 := hid (B2.out.up hb)
  replace B3 := hid (B3.out.up hb)
  replace B4 := hid (B4.out.up hb)
  replace QU := hid (QU.out.up hb)
  replace QV := hid (QV.out.up hb)
  have Qg := hid x1
  clear hb x1
  simp only [Act.put, List.setIfInBounds_toArray, List.set_cons_zero, List.set_cons_succ]
  refine WE.new (d := some 5) (cs := #[.bool false, .slice none 0 0]) (t := 24) (v := fun g => (.pointer (some ⟨g, 0, none⟩))) rfl rfl (by rfl) (fun w => by go_simp) fun gV5 wv hx0 hbox hge => ?_
  have HNV5B2 := hid (show gV5 ≠ (w.heap.size) by have := B2.out.lt; omega)
  have HNV5B3 := hid (show gV5 ≠ (w.heap.size + 1) by have := B3.out.lt; omega)
  have HNV5B4 := hid (show gV5 ≠ (w.heap.size + 2) by have := B4.out.lt; omega)
  have HGV5 := hid (show w.heap.size ≤ gV5 by have := E.out.size; omega)
  replace E := hid (E.out.trans hx0)
  replace B2 := hid (B2.out.up hx0)
  replace B3 := hid (B3.out.up hx0)
  replace B4 := hid (B4.out.up hx0)
  replace QU := hid (QU.out.up hx0)
  replace QV := hid (QV.out.up hx0)
  replace Qg := hid (Qg.out.up hx0)
  have V5 : Hid (Box wv gV5 #[.bool false, .slice none 0 0] 24) := hid hbox
  clear hx0 hbox hge
  simp only [Act.put, List.setIfInBounds_toArray, List.set_cons_zero, List.set_cons_succ]
  refine WE.store2 (g := gV5) (x := .bool gg) (y := .slice Ag ng cg) (t := 24) rfl rfl (by rfl) (fun w hb => ?_) V5.out (by rfl) fun ws hk hs => ?_
  · have c0 := hb.cell (o := 0) (v := .bool false) rfl; have f0 := hb.free 0; have c1 := hb.cell (o := 1) (v := .slice none 0 0) rfl; have f1 := hb.free 1; go_simp
  intro hbx
  replace E := hid (E.out.keptG hk HGV5.out)
  replace B2 := hid (B2.out.kept hk (by simpa using HNV5B2.out.symm))
  replace B3 := hid (B3.out.kept hk (by simpa using HNV5B3.out.symm))
  replace B4 := hid (B4.out.kept hk (by simpa using HNV5B4.out.symm))
  replace V5 := hid hbx
  replace QU := hid (QU.out.kz hs)
  replace QV := hid (QV.out.kz hs)
  replace Qg := hid (Qg.out.kz hs)
  clear hk hs hbx
  refine WE.done ?_
  go_upto_region 2 with (fail)
  refine wp_region_T [(0, 0), (1, 1), (2, 0), (3, 0), (4, 0), (5, 1), (6, 0), (7, 0)] (by kernel_rfl) fun wd hb => ?_
  replace E := hid (E.out.trans hb)
  replace B2 := hid (B2.out.up hb)
  replace B3 := hid (B3.out.up hb)
  replace B4 := hid (B4.out.up hb)
  replace V5 := hid (V5.out.up hb)
  replace QU := hid (QU.out.up hb)
  replace QV := hid (QV.out.up hb)
  replace Qg := hid (Qg.out.up hb)
  clear hb
  refine WE.pure (d := some 11) rfl rfl (by rfl) (v := (.agg #[.bool gu, .slice Au nu cu])) (fun w' hk => ?_) ?_
  · have c0 := hk.cell (B2.out.cell (o := 0) (v := .bool gu) rfl); have c1 := hk.cell (B2.out.cell (o := 1) (v := .slice Au nu cu) rfl); go_simp
  simp only [Act.put, List.setIfInBounds_toArray, List.set_cons_zero, List.set_cons_succ]
  refine WE.call (d := some 12) rfl rfl (by rfl) (f := 20) (args := #[(.agg #[.bool gu, .slice Au nu cu])]) (by go_simp) ?_
  refine (rSign_w QU.out (s := sa) (HZ1.out)).mono ?_
  rintro e wn ⟨rfl, hb⟩
  refine ⟨_, rfl, hb, ?_⟩
  replace E := hid (E.out.trans hb)
  replace B2 := hid (B2.out.up hb)
  replace B3 := hid (B3.out.up hb)
  replace B4 := hid (B4.out.up hb)
  replace V5 := hid (V5.out.up hb)
  replace QU := hid (QU.out.up hb)
  replace QV := hid (QV.out.up hb)
  replace Qg := hid (Qg.out.up hb)
  clear hb
  simp only [Act.put, List.setIfInBounds_toArray, List.set_cons_zero, List.set_cons_succ]
  refine WE.pure (d := some 13) rfl rfl (by rfl) (v := (.bool false)) (fun w' hk => ?_) ?_
  · have hne : ¬ sa = 0 := HZ2.out; have hne2 : (sa == 0) = false := (by simpa using HZ2.out); go_simp
  simp only [Act.put, List.setIfInBounds_toArray, List.set_cons_zero, List.set_cons_succ]
  refine WE.pure (d := some 14) rfl rfl (by rfl) (v := (.bool false)) (fun w' hk => ?_) ?_
  · go_simp
  simp only [Act.put, List.setIfInBounds_toArray, List.set_cons_zero, List.set_cons_succ]
  refine WE.pure (d := some 15) rfl rfl (by rfl) (v := (.agg #[.bool gv, .slice Av nv cv])) (fun w' hk => ?_) ?_
  · have c0 := hk.cell (B3.out.cell (o := 0) (v := .bool gv) rfl); have c1 := hk.cell (B3.out.cell (o := 1) (v := .slice Av nv cv) rfl); go_simp
  simp only [Act.put, List.setIfInBounds_toArray, List.set_cons_zero, List.set_cons_succ]
  refine WE.call (d := some 16) rfl rfl (by rfl) (f := 20) (args := #[(.agg #[.bool gv, .slice Av nv cv])]) (by go_simp) ?_
  refine (rSign_w QV.out (s := 0) (HZ3.out)).mono ?_
  rintro e wn ⟨rfl, hb⟩
  refine ⟨_, rfl, hb, ?_⟩
  replace E := hid (E.out.trans hb)
  replace B2 := hid (B2.out.up hb)
  replace B3 := hid (B3.out.up hb)
  replace B4 := hid (B4.out.up hb)
  replace V5 := hid (V5.out.up hb)
  replace QU := hid (QU.out.up hb)
  replace QV := hid (QV.out.up hb)
  replace Qg := hid (Qg.out.up hb)
  clear hb
  simp only [Act.put, List.setIfInBounds_toArray, List.set_cons_zero, List.set_cons_succ]
  refine WE.pure (d := some 17) rfl rfl (by rfl) (v := (.bool true)) (fun w' hk => ?_) ?_
  · go_simp
  simp only [Act.put, List.setIfInBounds_toArray, List.set_cons_zero, List.set_cons_succ]
  refine WE.pure (d := some 18) rfl rfl (by rfl) (v := (.bool true)) (fun w' hk => ?_) ?_
  · go_simp
  simp only [Act.put, List.setIfInBounds_toArray, List.set_cons_zero, List.set_cons_succ]
  refine WE.done ?_
  go_upto_region 3 with (fail)
  refine wp_region_T [(0, 0), (1, 4)] (by kernel_rfl) fun wd hb => ?_
  replace E := hid (E.out.trans hb)
  replace B2 := hid (B2.out.up hb)
  replace B3 := hid (B3.out.up hb)
  replace B4 := hid (B4.out.up hb)
  replace V5 := hid (V5.out.up hb)
  replace QU := hid (QU.out.up hb)
  replace QV := hid (QV.out.up hb)
  replace Qg := hid (Qg.out.up hb)
  clear hb
  refine WE.pure (d := some 19) rfl rfl (by rfl) (v := (.agg #[.bool false, .slice none 0 0])) (fun w' hk => ?_) ?_
  · go_simp
  simp only [Act.put, List.setIfInBounds_toArray, List.set_cons_zero, List.set_cons_succ]
  refine WE.store2 (g := (w.heap.size + 2)) (x := .bool false) (y := .slice none 0 0) (t := 24) rfl rfl (by rfl) (fun w hb => ?_) B4.out (by rfl) fun ws hk hs => ?_
  · have c0 := hb.cell (o := 0) (v := .bool false) rfl; have f0 := hb.free 0; have c1 := hb.cell (o := 1) (v := .slice none 0 0) rfl; have f1 := hb.free 1; go_simp
  intro hbx
  replace E := hid (E.out.keptG hk (by simp))
  replace B2 := hid (B2.out.kept hk (by simp))
  replace B3 := hid (B3.out.kept hk (by simp))
  replace B4 := hid hbx
  replace V5 := hid (V5.out.kept hk (by simpa using HNV5B4.out))
  replace QU := hid (QU.out.kz hs)
  replace QV := hid (QV.out.kz hs)
  replace Qg := hid (Qg.out.kz hs)
  clear hk hs hbx
  refine WE.done ?_
  have r0 := B4.out.cell (o := 0) (v := .bool false) rfl
  have r1 := B4.out.cell (o := 1) (v := .slice none 0 0) rfl
  go_wp2
  exact bodyPost_ret (v := .agg #[.bool false, .slice none 0 0]) (by simp [results, Try.results14, go_sem, r0, r1]) rfl ⟨_, rfl, by rw [HZ.out]; exact IsZ.nought.wide (Nat.zero_le _), E.out⟩

set_option maxRecDepth 100000 in
set_option maxHeartbeats 2000000 in
theorem rLcm_pp {w : World} {u v : Value} {Z Y : Int} {j : Nat} (hu : Worth w u Z j) (hv : Worth w v Y j) (hj : j ≤ 10000) (hz : True) {sa sb : Int} (hz1 : Z.sign = sa) (hz2 : ¬ sa = 0) (hz3 : Y.sign = sb) (hz4 : ¬ sb = 0) :
    Calls Try.prog 14 #[u, v] w (GivesZ w (Int.lcm Z Y : Nat) (max j 1 + 1 + j)) := by
  obtain ⟨gu, Au, nu, cu, rfl⟩ := hu.shape
  obtain ⟨gv, Av, nv, cv, rfl⟩ := hv.shape
  have HA := hid hu.len
  have HB := hid hv.len
  have QU := hid hu
  have QV := hid hv
  have HJ := hid hj
  clear hu hv hj
  have HZ1 := hid hz1
  have HZ2 := hid hz2
  have HZ3 := hid hz3
  have HZ4 := hid hz4
  clear hz hz1 hz2 hz3 hz4
  go_enter Try.func14, Try.ntmps14
  go_upto_region 1 with (fail)
  have E := hid ((((Ext.refl w).alloc' (.cells #[.bool gu, .slice Au nu cu] 24)).alloc' (.cells #[.bool gv, .slice Av nv cv] 24)).alloc' (.cells #[.bool false, .slice none 0 0] 24))
  have B2 : Hid (Box (((w.alloc (.cells #[.bool gu, .slice Au nu cu] 24)).alloc (.cells #[.bool gv, .slice Av nv cv] 24)).alloc (.cells #[.bool false, .slice none 0 0] 24)) (w.heap.size) #[.bool gu, .slice Au nu cu] 24) := hid (((Box.at_ (w := w) #[.bool gu, .slice Au nu cu] 24 (by simp)).alloc (.cells #[.bool gv, .slice Av nv cv] 24)).alloc (.cells #[.bool false, .slice none 0 0] 24))
  have B3 : Hid (Box (((w.alloc (.cells #[.bool gu, .slice Au nu cu] 24)).alloc (.cells #[.bool gv, .slice Av nv cv] 24)).alloc (.cells #[.bool false, .slice none 0 0] 24)) (w.heap.size + 1) #[.bool gv, .slice Av nv cv] 24) := hid ((Box.at_ (w := (w.alloc (.cells #[.bool gu, .slice Au nu cu] 24))) #[.bool gv, .slice Av nv cv] 24 (by simp)).alloc (.cells #[.bool false, .slice none 0 0] 24))
  have B4 : Hid (Box (((w.alloc (.cells #[.bool gu, .slice Au nu cu] 24)).alloc (.cells #[.bool gv, .slice Av nv cv] 24)).alloc (.cells #[.bool false, .slice none 0 0] 24)) (w.heap.size + 2) #[.bool false, .slice none 0 0] 24) := hid (Box.at_ (w := ((w.alloc (.cells #[.bool gu, .slice Au nu cu] 24)).alloc (.cells #[.bool gv, .slice Av nv cv] 24))) #[.bool false, .slice none 0 0] 24 (by simp))
  replace QU := hid (QU.out.up E.out)
  replace QV := hid (QV.out.up E.out)
  refine wp_region_T [(0, 0), (1, 0), (2, 1), (3, 1), (4, 4)] (by kernel_rfl) fun wd hb => ?_
  replace E := hid (E.out.trans hb)
  replace B2 := hid (B2.out.up hb)
  replace B3 := hid (B3.out.up hb)
  replace B4 := hid (B4.out.up hb)
  replace QU := hid (QU.out.up hb)
  replace QV := hid (QV.out.up hb)
  clear hb
  refine WE.pure (d := some 8) rfl rfl (by rfl) (v := (.agg #[.bool gu, .slice Au nu cu])) (fun w' hk => ?_) ?_
  · have c0 := hk.cell (B2.out.cell (o := 0) (v := .bool gu) rfl); have c1 := hk.cell (B2.out.cell (o := 1) (v := .slice Au nu cu) rfl); go_simp
  simp only [Act.put, List.setIfInBounds_toArray, List.set_cons_zero, List.set_cons_succ]
  refine WE.pure (d := some 9) rfl rfl (by rfl) (v := (.agg #[.bool gv, .slice Av nv cv])) (fun w' hk => ?_) ?_
  · have c0 := hk.cell (B3.out.cell (o := 0) (v := .bool gv) rfl); have c1 := hk.cell (B3.out.cell (o := 1) (v := .slice Av nv cv) rfl); go_simp
  simp only [Act.put, List.setIfInBounds_toArray, List.set_cons_zero, List.set_cons_succ]
  refine WE.call (d := some 10) rfl rfl (by rfl) (f := 10) (args := #[(.agg #[.bool gu, .slice Au nu cu]), (.agg #[.bool gv, .slice Av nv cv])]) (by go_simp) ?_
  refine (rGcd_w QU.out QV.out (by have := HJ.out; omega)).mono ?_
  rintro e wn ⟨v1, rfl, x1, hb⟩
  obtain ⟨gg, Ag, ng, cg, rfl⟩ := x1.shape
  refine ⟨_, rfl, hb, ?_⟩
  replace E := hid (E.out.trans hb)
  replace B2 := hid (B2.out.up hb)
  replace B3 := hid (B3.out.up hb)
  replace B4 := hid (B4.out.up hb)
  replace QU := hid (QU.out.up hb)
  replace QV := hid (QV.out.up hb)
  have Qg := hid x1
  clear hb x1
  simp only [Act.put, List.setIfInBounds_toArray, List.set_cons_zero, List.set_cons_succ]
  refine WE.new (d := some 5) (cs := #[.bool false, .slice none 0 0]) (t := 24) (v := fun g => (.pointer (some ⟨g, 0, none⟩))) rfl rfl (by rfl) (fun w => by go_simp) fun gV5 wv hx0 hbox hge => ?_
  have HNV5B2 := hid (show gV5 ≠ (w.heap.size) by have := B2.out.lt; omega)
  have HNV5B3 := hid (show gV5 ≠ (w.heap.size + 1) by have := B3.out.lt; omega)
  have HNV5B4 := hid (show gV5 ≠ (w.heap.size + 2) by have := B4.out.lt; omega)
  have HGV5 := hid (show w.heap.size ≤ gV5 by have := E.out.size; omega)
  replace E := hid (E.out.trans hx0)
  replace B2 := hid (B2.out.up hx0)
  replace B3 := hid (B3.out.up hx0)
  replace B4 := hid (B4.out.up hx0)
  replace QU := hid (QU.out.up hx0)
  replace QV := hid (QV.out.up hx0)
  replace Qg := hid (Qg.out.up hx0)
  have V5 : Hid (Box wv gV5 #[.bool false, .slice none 0 0] 24) := hid hbox
  clear hx0 hbox hge
  simp only [Act.put, List.setIfInBounds_toArray, List.set_cons_zero, List.set_cons_succ]
  refine WE.store2 (g := gV5) (x := .bool gg) (y := .slice Ag ng cg) (t := 24) rfl rfl (by rfl) (fun w hb => ?_) V5.out (by rfl) fun ws hk hs => ?_
  · have c0 := hb.cell (o := 0) (v := .bool false) rfl; have f0 := hb.free 0; have c1 := hb.cell (o := 1) (v := .slice none 0 0) rfl; have f1 := hb.free 1; go_simp
  intro hbx
  replace E := hid (E.out.keptG hk HGV5.out)
  replace B2 := hid (B2.out.kept hk (by simpa using HNV5B2.out.symm))
  replace B3 := hid (B3.out.kept hk (by simpa using HNV5B3.out.symm))
  replace B4 := hid (B4.out.kept hk (by simpa using HNV5B4.out.symm))
  replace V5 := hid hbx
  replace QU := hid (QU.out.kz hs)
  replace QV := hid (QV.out.kz hs)
  replace Qg := hid (Qg.out.kz hs)
  clear hk hs hbx
  refine WE.done ?_
  go_upto_region 2 with (fail)
  refine wp_region_T [(0, 0), (1, 1), (2, 0), (3, 0), (4, 0), (5, 1), (6, 0), (7, 0)] (by kernel_rfl) fun wd hb => ?_
  replace E := hid (E.out.trans hb)
  replace B2 := hid (B2.out.up hb)
  replace B3 := hid (B3.out.up hb)
  replace B4 := hid (B4.out.up hb)
  replace V5 := hid (V5.out.up hb)
  replace QU := hid (QU.out.up hb)
  replace QV := hid (QV.out.up hb)
  replace Qg := hid (Qg.out.up hb)
  clear hb
  refine WE.pure (d := some 11) rfl rfl (by rfl) (v := (.agg #[.bool gu, .slice Au nu cu])) (fun w' hk => ?_) ?_
  · have c0 := hk.cell (B2.out.cell (o := 0) (v := .bool gu) rfl); have c1 := hk.cell (B2.out.cell (o := 1) (v := .slice Au nu cu) rfl); go_simp
  simp only [Act.put, List.setIfInBounds_toArray, List.set_cons_zero, List.set_cons_succ]
  refine WE.call (d := some 12) rfl rfl (by rfl) (f := 20) (args := #[(.agg #[.bool gu, .slice Au nu cu])]) (by go_simp) ?_
  refine (rSign_w QU.out (s := sa) (HZ1.out)).mono ?_
  rintro e wn ⟨rfl, hb⟩
  refine ⟨_, rfl, hb, ?_⟩
  replace E := hid (E.out.trans hb)
  replace B2 := hid (B2.out.up hb)
  replace B3 := hid (B3.out.up hb)
  replace B4 := hid (B4.out.up hb)
  replace V5 := hid (V5.out.up hb)
  replace QU := hid (QU.out.up hb)
  replace QV := hid (QV.out.up hb)
  replace Qg := hid (Qg.out.up hb)
  clear hb
  simp only [Act.put, List.setIfInBounds_toArray, List.set_cons_zero, List.set_cons_succ]
  refine WE.pure (d := some 13) rfl rfl (by rfl) (v := (.bool false)) (fun w' hk => ?_) ?_
  · have hne : ¬ sa = 0 := HZ2.out; have hne2 : (sa == 0) = false := (by simpa using HZ2.out); go_simp
  simp only [Act.put, List.setIfInBounds_toArray, List.set_cons_zero, List.set_cons_succ]
  refine WE.pure (d := some 14) rfl rfl (by rfl) (v := (.bool false)) (fun w' hk => ?_) ?_
  · go_simp
  simp only [Act.put, List.setIfInBounds_toArray, List.set_cons_zero, List.set_cons_succ]
  refine WE.pure (d := some 15) rfl rfl (by rfl) (v := (.agg #[.bool gv, .slice Av nv cv])) (fun w' hk => ?_) ?_
  · have c0 := hk.cell (B3.out.cell (o := 0) (v := .bool gv) rfl); have c1 := hk.cell (B3.out.cell (o := 1) (v := .slice Av nv cv) rfl); go_simp
  simp only [Act.put, List.setIfInBounds_toArray, List.set_cons_zero, List.set_cons_succ]
  refine WE.call (d := some 16) rfl rfl (by rfl) (f := 20) (args := #[(.agg #[.bool gv, .slice Av nv cv])]) (by go_simp) ?_
  refine (rSign_w QV.out (s := sb) (HZ3.out)).mono ?_
  rintro e wn ⟨rfl, hb⟩
  refine ⟨_, rfl, hb, ?_⟩
  replace E := hid (E.out.trans hb)
  replace B2 := hid (B2.out.up hb)
  replace B3 := hid (B3.out.up hb)
  replace B4 := hid (B4.out.up hb)
  replace V5 := hid (V5.out.up hb)
  replace QU := hid (QU.out.up hb)
  replace QV := hid (QV.out.up hb)
  replace Qg := hid (Qg.out.up hb)
  clear hb
  simp only [Act.put, List.setIfInBounds_toArray, List.set_cons_zero, List.set_cons_succ]
  refine WE.pure (d := some 17) rfl rfl (by rfl) (v := (.bool false)) (fun w' hk => ?_) ?_
  · have hne : ¬ sb = 0 := HZ4.out; have hne2 : (sb == 0) = false := (by simpa using HZ4.out); go_simp
  simp only [Act.put, List.setIfInBounds_toArray, List.set_cons_zero, List.set_cons_succ]
  refine WE.pure (d := some 18) rfl rfl (by rfl) (v := (.bool false)) (fun w' hk => ?_) ?_
  · go_simp
  simp only [Act.put, List.setIfInBounds_toArray, List.set_cons_zero, List.set_cons_succ]
  refine WE.done ?_
  go_upto_region 4 with (fail)
  refine wp_region_E [(0, 0), (2, 0), (1, 2), (3, 2), (4, 0), (5, 0), (6, 5), (7, 3), (8, 3), (9, 4), (10, 4)] (fun _ => (24, #[.bool false, .slice none 0 0])) rfl (by kernel_rfl) (by intro j hj; simp [pend] at hj; rcases hj with rfl | rfl <;> exact ⟨_, rfl, rfl, rfl, fun w => by go_simp⟩) (fun _ _ d _ _ => by cases d <;> exact Iff.rfl) fun wd hb => ?_
  replace E := hid (E.out.trans hb)
  replace B2 := hid (B2.out.up hb)
  replace B3 := hid (B3.out.up hb)
  replace B4 := hid (B4.out.up hb)
  replace V5 := hid (V5.out.up hb)
  replace QU := hid (QU.out.up hb)
  replace QV := hid (QV.out.up hb)
  replace Qg := hid (Qg.out.up hb)
  clear hb
  have HL1B2 := hid B2.out.lt
  have HL1B3 := hid B3.out.lt
  have HL1B4 := hid B4.out.lt
  have HL1V5 := hid V5.out.lt
  have HW1 := hid (show w.heap.size ≤ wd.heap.size from E.out.size)
  refine WE.pure (d := some 21) rfl rfl (by rfl) (v := (.agg #[.bool gu, .slice Au nu cu])) (fun w' hk => ?_) ?_
  · have c0 := hk.cell (B2.out.cell (o := 0) (v := .bool gu) rfl); have c1 := hk.cell (B2.out.cell (o := 1) (v := .slice Au nu cu) rfl); go_simp
  simp only [Act.put, List.setIfInBounds_toArray, List.set_cons_zero, List.set_cons_succ]
  refine WE.pure (d := some 23) rfl rfl (by rfl) (v := (.agg #[.bool gg, .slice Ag ng cg])) (fun w' hk => ?_) ?_
  · have c0 := hk.cell (V5.out.cell (o := 0) (v := .bool gg) rfl); have c1 := hk.cell (V5.out.cell (o := 1) (v := .slice Ag ng cg) rfl); go_simp
  simp only [Act.put, List.setIfInBounds_toArray, List.set_cons_zero, List.set_cons_succ]
  refine WE.callR (d := some 22) rfl rfl (by rfl) (f := 22) (args := #[(.agg #[.bool gu, .slice Au nu cu])]) (fun w => by go_simp) (fun wx hx0 => ?_)
  replace E := hid (E.out.trans hx0)
  replace B2 := hid (B2.out.up hx0)
  replace B3 := hid (B3.out.up hx0)
  replace B4 := hid (B4.out.up hx0)
  replace V5 := hid (V5.out.up hx0)
  replace QU := hid (QU.out.up hx0)
  replace QV := hid (QV.out.up hx0)
  replace Qg := hid (Qg.out.up hx0)
  clear hx0
  refine (rAbs_w QU.out).mono ?_
  rintro e wn ⟨v1, rfl, x1, hb⟩
  obtain ⟨ga, Aa, na, ca, rfl⟩ := x1.shape
  refine ⟨_, rfl, hb, ?_⟩
  replace E := hid (E.out.trans hb)
  replace B2 := hid (B2.out.up hb)
  replace B3 := hid (B3.out.up hb)
  replace B4 := hid (B4.out.up hb)
  replace V5 := hid (V5.out.up hb)
  replace QU := hid (QU.out.up hb)
  replace QV := hid (QV.out.up hb)
  replace Qg := hid (Qg.out.up hb)
  have Qa := hid x1
  clear hb x1
  simp only [Act.put, List.setIfInBounds_toArray, List.set_cons_zero, List.set_cons_succ]
  refine WE.callR (d := some 24) rfl rfl (by rfl) (f := 24) (args := #[(.agg #[.bool ga, .slice Aa na ca]), (.agg #[.bool gg, .slice Ag ng cg])]) (fun w => by go_simp) (fun wx hx0 => ?_)
  replace E := hid (E.out.trans hx0)
  replace B2 := hid (B2.out.up hx0)
  replace B3 := hid (B3.out.up hx0)
  replace B4 := hid (B4.out.up hx0)
  replace V5 := hid (V5.out.up hx0)
  replace QU := hid (QU.out.up hx0)
  replace QV := hid (QV.out.up hx0)
  replace Qg := hid (Qg.out.up hx0)
  replace Qa := hid (Qa.out.up hx0)
  clear hx0
  refine (rFloor_w Qa.out.worth Qg.out.worth (by have := HJ.out; omega) (by have := HJ.out; omega)).mono ?_
  rintro e wn ⟨vx, vy, rfl, hx, hy, hb⟩
  obtain ⟨gq, Aq, nq, cq, rfl⟩ := hx.worth.shape
  obtain ⟨gr, Ar, nr, cr, rfl⟩ := hy.worth.shape
  clear hy
  refine ⟨_, rfl, hb, ?_⟩
  replace E := hid (E.out.trans hb)
  replace B2 := hid (B2.out.up hb)
  replace B3 := hid (B3.out.up hb)
  replace B4 := hid (B4.out.up hb)
  replace V5 := hid (V5.out.up hb)
  replace QU := hid (QU.out.up hb)
  replace QV := hid (QV.out.up hb)
  replace Qg := hid (Qg.out.up hb)
  replace Qa := hid (Qa.out.up hb)
  have Qq := hid hx
  clear hb hx
  simp only [Act.put, List.setIfInBounds_toArray, List.set_cons_zero, List.set_cons_succ]
  refine WE.pure (d := some 20) rfl rfl (by rfl) (v := (.tuple #[(.agg #[.bool gq, .slice Aq nq cq]), (.agg #[.bool gr, .slice Ar nr cr])])) (fun w' hk => ?_) ?_
  · go_simp
  simp only [Act.put, List.setIfInBounds_toArray, List.set_cons_zero, List.set_cons_succ]
  refine WE.pure (d := some 25) rfl rfl (by rfl) (v := (.agg #[.bool gq, .slice Aq nq cq])) (fun w' hk => ?_) ?_
  · go_simp
  simp only [Act.put, List.setIfInBounds_toArray, List.set_cons_zero, List.set_cons_succ]
  refine WE.any (d := some 26) rfl rfl (by rfl) (v := (.agg #[.bool gr, .slice Ar nr cr])) (fun w' => ?_) ?_
  · go_simp
  simp only [Act.put, List.setIfInBounds_toArray, List.set_cons_zero, List.set_cons_succ]
  refine WE.var (d := some 6) rfl fun gV6 wv hx0 hbox hge hng => ?_
  have HNV6B2 := hid (show gV6 ≠ (w.heap.size) by have := HL1B2.out; omega)
  have HNV6B3 := hid (show gV6 ≠ (w.heap.size + 1) by have := HL1B3.out; omega)
  have HNV6B4 := hid (show gV6 ≠ (w.heap.size + 2) by have := HL1B4.out; omega)
  have HNV6V5 := hid (show gV6 ≠ gV5 by have := HL1V5.out; omega)
  have HGV6 := hid (show w.heap.size ≤ gV6 by have := HW1.out; omega)
  replace E := hid (E.out.trans hx0)
  replace B2 := hid (B2.out.up hx0)
  replace B3 := hid (B3.out.up hx0)
  replace B4 := hid (B4.out.up hx0)
  replace V5 := hid (V5.out.up hx0)
  replace QU := hid (QU.out.up hx0)
  replace QV := hid (QV.out.up hx0)
  replace Qg := hid (Qg.out.up hx0)
  replace Qa := hid (Qa.out.up hx0)
  replace Qq := hid (Qq.out.up hx0)
  have V6 : Hid (Box wv gV6 #[.bool false, .slice none 0 0] 24) := hid hbox
  clear hx0 hbox hge hng
  simp only [Act.put, List.setIfInBounds_toArray, List.set_cons_zero, List.set_cons_succ]
  refine WE.var (d := some 7) rfl fun gV7 wv hx0 hbox hge hng => ?_
  have HNV7B2 := hid (show gV7 ≠ (w.heap.size) by have := HL1B2.out; omega)
  have HNV7B3 := hid (show gV7 ≠ (w.heap.size + 1) by have := HL1B3.out; omega)
  have HNV7B4 := hid (show gV7 ≠ (w.heap.size + 2) by have := HL1B4.out; omega)
  have HNV7V5 := hid (show gV7 ≠ gV5 by have := HL1V5.out; omega)
  have HNV7V6 := hid (show gV7 ≠ gV6 by intro e; exact hng (by simp [e]))
  have HGV7 := hid (show w.heap.size ≤ gV7 by have := HW1.out; omega)
  replace E := hid (E.out.trans hx0)
  replace B2 := hid (B2.out.up hx0)
  replace B3 := hid (B3.out.up hx0)
  replace B4 := hid (B4.out.up hx0)
  replace V5 := hid (V5.out.up hx0)
  replace V6 := hid (V6.out.up hx0)
  replace QU := hid (QU.out.up hx0)
  replace QV := hid (QV.out.up hx0)
  replace Qg := hid (Qg.out.up hx0)
  replace Qa := hid (Qa.out.up hx0)
  replace Qq := hid (Qq.out.up hx0)
  have V7 : Hid (Box wv gV7 #[.bool false, .slice none 0 0] 24) := hid hbox
  clear hx0 hbox hge hng
  simp only [Act.put, List.setIfInBounds_toArray, List.set_cons_zero, List.set_cons_succ]
  refine WE.store2 (g := gV6) (x := .bool gq) (y := .slice Aq nq cq) (t := 24) rfl rfl (by rfl) (fun w hb => ?_) V6.out (by rfl) fun ws hk hs => ?_
  · have c0 := hb.cell (o := 0) (v := .bool false) rfl; have f0 := hb.free 0; have c1 := hb.cell (o := 1) (v := .slice none 0 0) rfl; have f1 := hb.free 1; go_simp
  intro hbx
  replace E := hid (E.out.keptG hk HGV6.out)
  replace B2 := hid (B2.out.kept hk (by simpa using HNV6B2.out.symm))
  replace B3 := hid (B3.out.kept hk (by simpa using HNV6B3.out.symm))
  replace B4 := hid (B4.out.kept hk (by simpa using HNV6B4.out.symm))
  replace V5 := hid (V5.out.kept hk (by simpa using HNV6V5.out.symm))
  replace V6 := hid hbx
  replace V7 := hid (V7.out.kept hk (by simpa using HNV7V6.out))
  replace QU := hid (QU.out.kz hs)
  replace QV := hid (QV.out.kz hs)
  replace Qg := hid (Qg.out.kz hs)
  replace Qa := hid (Qa.out.kz hs)
  replace Qq := hid (Qq.out.kz hs)
  clear hk hs hbx
  refine WE.store2 (g := gV7) (x := .bool gr) (y := .slice Ar nr cr) (t := 24) rfl rfl (by rfl) (fun w hb => ?_) V7.out (by rfl) fun ws hk hs => ?_
  · have c0 := hb.cell (o := 0) (v := .bool false) rfl; have f0 := hb.free 0; have c1 := hb.cell (o := 1) (v := .slice none 0 0) rfl; have f1 := hb.free 1; go_simp
  intro hbx
  replace E := hid (E.out.keptG hk HGV7.out)
  replace B2 := hid (B2.out.kept hk (by simpa using HNV7B2.out.symm))
  replace B3 := hid (B3.out.kept hk (by simpa using HNV7B3.out.symm))
  replace B4 := hid (B4.out.kept hk (by simpa using HNV7B4.out.symm))
  replace V5 := hid (V5.out.kept hk (by simpa using HNV7V5.out.symm))
  replace V6 := hid (V6.out.kept hk (by simpa using HNV7V6.out.symm))
  replace V7 := hid hbx
  replace QU := hid (QU.out.kz hs)
  replace QV := hid (QV.out.kz hs)
  replace Qg := hid (Qg.out.kz hs)
  replace Qa := hid (Qa.out.kz hs)
  replace Qq := hid (Qq.out.kz hs)
  clear hk hs hbx
  refine WE.done ?_
  clear Qa
  clear Qg
  clear V7
  clear V5
  go_upto_region 5 with (fail)
  refine wp_region_E [(0, 0), (1, 0), (2, 1), (3, 1), (4, 4)] (fun _ => (0, #[])) rfl (by kernel_rfl) (by intro j hj; cases hj) (fun _ _ d _ _ => by cases d <;> exact Iff.rfl) fun wd hb => ?_
  replace E := hid (E.out.trans hb)
  replace B2 := hid (B2.out.up hb)
  replace B3 := hid (B3.out.up hb)
  replace B4 := hid (B4.out.up hb)
  replace V6 := hid (V6.out.up hb)
  replace QU := hid (QU.out.up hb)
  replace QV := hid (QV.out.up hb)
  replace Qq := hid (Qq.out.up hb)
  clear hb
  refine WE.pure (d := some 27) rfl rfl (by rfl) (v := (.agg #[.bool gq, .slice Aq nq cq])) (fun w' hk => ?_) ?_
  · have c0 := hk.cell (V6.out.cell (o := 0) (v := .bool gq) rfl); have c1 := hk.cell (V6.out.cell (o := 1) (v := .slice Aq nq cq) rfl); go_simp
  simp only [Act.put, List.setIfInBounds_toArray, List.set_cons_zero, List.set_cons_succ]
  refine WE.pure (d := some 28) rfl rfl (by rfl) (v := (.agg #[.bool gv, .slice Av nv cv])) (fun w' hk => ?_) ?_
  · have c0 := hk.cell (B3.out.cell (o := 0) (v := .bool gv) rfl); have c1 := hk.cell (B3.out.cell (o := 1) (v := .slice Av nv cv) rfl); go_simp
  simp only [Act.put, List.setIfInBounds_toArray, List.set_cons_zero, List.set_cons_succ]
  refine WE.call (d := some 29) rfl rfl (by rfl) (f := 22) (args := #[(.agg #[.bool gv, .slice Av nv cv])]) (by go_simp) ?_
  refine (rAbs_w QV.out).mono ?_
  rintro e wn ⟨v1, rfl, x1, hb⟩
  obtain ⟨gb, Ab, nb, cb, rfl⟩ := x1.shape
  refine ⟨_, rfl, hb, ?_⟩
  replace E := hid (E.out.trans hb)
  replace B2 := hid (B2.out.up hb)
  replace B3 := hid (B3.out.up hb)
  replace B4 := hid (B4.out.up hb)
  replace V6 := hid (V6.out.up hb)
  replace QU := hid (QU.out.up hb)
  replace QV := hid (QV.out.up hb)
  replace Qq := hid (Qq.out.up hb)
  have Qb := hid x1
  clear hb x1
  simp only [Act.put, List.setIfInBounds_toArray, List.set_cons_zero, List.set_cons_succ]
  refine WE.call (d := some 30) rfl rfl (by rfl) (f := 19) (args := #[(.agg #[.bool gq, .slice Aq nq cq]), (.agg #[.bool gb, .slice Ab nb cb])]) (by go_simp) ?_
  refine (rMul_w Qq.out.worth Qb.out.worth (by have := HJ.out; omega) (by have := HJ.out; omega)).mono ?_
  rintro e wn ⟨v1, rfl, x1, hb⟩
  obtain ⟨gp, Ap, np, cp, rfl⟩ := x1.shape
  refine ⟨_, rfl, hb, ?_⟩
  replace E := hid (E.out.trans hb)
  replace B2 := hid (B2.out.up hb)
  replace B3 := hid (B3.out.up hb)
  replace B4 := hid (B4.out.up hb)
  replace V6 := hid (V6.out.up hb)
  replace QU := hid (QU.out.up hb)
  replace QV := hid (QV.out.up hb)
  replace Qq := hid (Qq.out.up hb)
  replace Qb := hid (Qb.out.up hb)
  have Qp := hid x1
  clear hb x1
  simp only [Act.put, List.setIfInBounds_toArray, List.set_cons_zero, List.set_cons_succ]
  refine WE.store2 (g := (w.heap.size + 2)) (x := .bool gp) (y := .slice Ap np cp) (t := 24) rfl rfl (by rfl) (fun w hb => ?_) B4.out (by rfl) fun ws hk hs => ?_
  · have c0 := hb.cell (o := 0) (v := .bool false) rfl; have f0 := hb.free 0; have c1 := hb.cell (o := 1) (v := .slice none 0 0) rfl; have f1 := hb.free 1; go_simp
  intro hbx
  replace E := hid (E.out.keptG hk (by simp))
  replace B2 := hid (B2.out.kept hk (by simp))
  replace B3 := hid (B3.out.kept hk (by simp))
  replace B4 := hid hbx
  replace V6 := hid (V6.out.kept hk (by simpa using HNV6B4.out))
  replace QU := hid (QU.out.kz hs)
  replace QV := hid (QV.out.kz hs)
  replace Qq := hid (Qq.out.kz hs)
  replace Qb := hid (Qb.out.kz hs)
  replace Qp := hid (Qp.out.kz hs)
  clear hk hs hbx
  refine WE.done ?_
  have r0 := B4.out.cell (o := 0) (v := .bool gp) rfl
  have r1 := B4.out.cell (o := 1) (v := .slice Ap np cp) rfl
  go_wp2
  exact bodyPost_ret (v := .agg #[.bool gp, .slice Ap np cp]) (by simp [results, Try.results14, go_sem, r0, r1]) rfl ⟨_, rfl, IsZ.to Qp.out (lcm_parts Z Y), E.out⟩

theorem rLcm_w {w : World} {u v : Value} {Z Y : Int} {j : Nat} (hu : Worth w u Z j) (hv : Worth w v Y j) (hj : j ≤ 10000) : Calls Try.prog 14 #[u, v] w (GivesZ w (Int.lcm Z Y : Nat) (max j 1 + 1 + j)) := by
  by_cases h1 : Z = 0
  · exact rLcm_za hu hv hj (by subst h1; simp) (by subst h1; rfl)
  · by_cases h2 : Y = 0
    · exact rLcm_zb hu hv hj (by subst h2; simp) rfl (fun h => h1 (Int.sign_eq_zero_iff_zero.1 h)) (by subst h2; rfl)
    · exact rLcm_pp hu hv hj trivial rfl (fun h => h1 (Int.sign_eq_zero_iff_zero.1 h)) rfl (fun h => h2 (Int.sign_eq_zero_iff_zero.1 h))

end Go.Proofs.Ytljjijcmoafndaa
