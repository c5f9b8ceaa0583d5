/-
  Contract of package gcd's Ext.
-/
import Derived.Test.YtljjijcmoafndaaGComb
namespace Go.Proofs.Ytljjijcmoafndaa
open Go.RowKit
set_option linter.unusedSimpArgs false
set_option linter.unusedVariables false

namespace M
/-- What Ext tells besides. -/
def ExtEnd (Z Y X V : Int) : Prop := Z * X + Y * V = ((Int.gcd Z Y : Nat) : Int) ∧ (Y = 0 → X = Z.sign ∧ V = 0) ∧ (Y ≠ 0 → Z = 0 → X = 0 ∧ V = Y.sign) ∧ (Y ≠ 0 → X.natAbs ≤ max Z.natAbs Y.natAbs ∧ V.natAbs ≤ max Z.natAbs Y.natAbs)
theorem mul_sign_self (Z : Int) : Z * Z.sign = (Z.natAbs : Int) := Int.mul_sign_self Z
theorem ext_end {Z Y t X V : Int} (h : ExEnd Z.natAbs Y.natAbs t) (hX : X = t * Z.sign) (hV : V = (((Int.gcd Z Y : Nat) : Int) - Z * X).fdiv Y) : ExtEnd Z Y X V := by
  have hZX : Z * X = (Z.natAbs : Int) * t := by rw [hX, Int.mul_comm t, ← Int.mul_assoc, mul_sign_self]
  by_cases h0 : Y = 0
  · subst h0
    have ht : t = 1 := h.1 rfl
    subst ht
    have hV0 : V = 0 := by rw [hV, Int.fdiv_zero]
    refine ⟨?_, fun _ => ⟨by rw [hX, Int.one_mul], hV0⟩, fun h => absurd rfl h, fun h => absurd rfl h⟩
    rw [hZX, hV0]; simp
  · obtain ⟨s, hg, hs1, hs2⟩ := h.2 (by omega)
    have hg' : ((Int.gcd Z Y : Nat) : Int) = (Z.natAbs : Int) * t + (Y.natAbs : Int) * s := hg
    have hd : ((Int.gcd Z Y : Nat) : Int) - Z * X = Y * (Y.sign * s) := by
      rw [hZX, hg', ← Int.mul_assoc, mul_sign_self]; omega
    have hVs : V = Y.sign * s := by rw [hV, hd]; exact Int.mul_fdiv_cancel_left _ h0
    refine ⟨?_, fun h => absurd h h0, fun _ hz => ?_, fun _ => ⟨?_, ?_⟩⟩
    · rw [hVs, ← hd]; omega
    · subst hz
      refine ⟨by rw [hX]; simp, ?_⟩
      have hs : s = 1 := by
        have h1 : (Y.natAbs : Int) = (Y.natAbs : Int) * s := by simpa using hg'
        have h2 : (Y.natAbs : Int) * 1 = (Y.natAbs : Int) * s := by omega
        exact (Int.eq_of_mul_eq_mul_left (by omega) h2).symm
      rw [hVs, hs, Int.mul_one]
    · have : X.natAbs ≤ t.natAbs := by
        rw [hX, Int.natAbs_mul]
        rcases sign_cases Z with ⟨_, e⟩ | ⟨_, e⟩ | ⟨_, e⟩ <;> rw [e] <;> simp
      omega
    · have : V.natAbs ≤ s.natAbs := by
        rw [hVs, Int.natAbs_mul]
        rcases sign_cases Y with ⟨_, e⟩ | ⟨_, e⟩ | ⟨_, e⟩ <;> rw [e] <;> simp
      omega
theorem ExtEnd.small {Z Y X V : Int} {n : Nat} (h : ExtEnd Z Y X V) (h3 : Z.natAbs < n) (h4 : Y.natAbs < n) (h5 : 1 < n) : V.natAbs < n := by
  by_cases e : Y = 0
  · rw [(h.2.1 e).2]; simp; omega
  · have := (h.2.2.2 e).2; omega
end M
def GivesE (w : World) (Z Y : Int) (j : Nat) (e : Ending) (w' : World) : Prop := ∃ (x y z : Value) (X V : Int), e = .returned (.tuple #[x, y, z]) ∧ IsZ w' x ((Int.gcd Z Y : Nat) : Int) j ∧ IsZ w' y X j ∧ IsZ w' z V j ∧ M.ExtEnd Z Y X V ∧ Ext w w'
theorem gcd_short {Z Y : Int} {j : Nat} (h1 : Z.natAbs < 1000000000 ^ j) (h2 : Y.natAbs < 1000000000 ^ j) : ((Int.gcd Z Y : Nat) : Int).natAbs < 1000000000 ^ j := by
  rw [Int.natAbs_natCast]
  have := M.gcd_le_max Z.natAbs Y.natAbs
  have e : Int.gcd Z Y = Nat.gcd Z.natAbs Y.natAbs := rfl
  omega

set_option maxRecDepth 100000 in
set_option maxHeartbeats 4000000 in
theorem ext_w {w : World} {u v : Value} {Z Y : Int} {j : Nat} (hu : Worth w u Z j) (hv : Worth w v Y j) (hj1 : 1 ≤ j) (hj : j < 30) :
    Calls Try.prog 17 #[u, v] w (GivesE w Z Y j) := by
  obtain ⟨gu, Au, nu, cu, rfl⟩ := hu.shape
  obtain ⟨gv, Av, nv, cv, rfl⟩ := hv.shape
  obtain ⟨sg, hsg⟩ : ∃ s : Int, Z.sign = s := ⟨_, rfl⟩
  have HSG := hid hsg
  have HSB := hid (show -1 ≤ sg ∧ sg ≤ 1 by rw [← hsg]; exact side_of Z)
  have HP := hid (pow_one_le hj1)
  have HA := hid hu.len
  have HB := hid hv.len
  have QU := hid hu
  have QV := hid hv
  have HJ := hid hj
  have HJ1 := hid hj1
  clear hu hv hj hj1 hsg
  go_enter Try.func17, Try.ntmps17
  go_upto_region 1 with (fail)
  have E := hid ((((((Ext.refl w).alloc' (.cells #[.bool gu, .slice Au nu cu] 24)).alloc' (.cells #[.bool gv, .slice Av nv cv] 24)).alloc' (.cells #[.bool false, .slice none 0 0] 24)).alloc' (.cells #[.bool false, .slice none 0 0] 24)).alloc' (.cells #[.bool false, .slice none 0 0] 24))
  have B2 : Hid (Box (((((w.alloc (.cells #[.bool gu, .slice Au nu cu] 24)).alloc (.cells #[.bool gv, .slice Av nv cv] 24)).alloc (.cells #[.bool false, .slice none 0 0] 24)).alloc (.cells #[.bool false, .slice none 0 0] 24)).alloc (.cells #[.bool false, .slice none 0 0] 24)) (w.heap.size) #[.bool gu, .slice Au nu cu] 24) := hid (((((Box.at_ (w := w) #[.bool gu, .slice Au nu cu] 24 (by simp)).alloc (.cells #[.bool gv, .slice Av nv cv] 24)).alloc (.cells #[.bool false, .slice none 0 0] 24)).alloc (.cells #[.bool false, .slice none 0 0] 24)).alloc (.cells #[.bool false, .slice none 0 0] 24))
  have B3 : Hid (Box (((((w.alloc (.cells #[.bool gu, .slice Au nu cu] 24)).alloc (.cells #[.bool gv, .slice Av nv cv] 24)).alloc (.cells #[.bool false, .slice none 0 0] 24)).alloc (.cells #[.bool false, .slice none 0 0] 24)).alloc (.cells #[.bool false, .slice none 0 0] 24)) (w.heap.size + 1) #[.bool gv, .slice Av nv cv] 24) := hid ((((Box.at_ (w := (w.alloc (.cells #[.bool gu, .slice Au nu cu] 24))) #[.bool gv, .slice Av nv cv] 24 (by simp)).alloc (.cells #[.bool false, .slice none 0 0] 24)).alloc (.cells #[.bool false, .slice none 0 0] 24)).alloc (.cells #[.bool false, .slice none 0 0] 24))
  have B4 : Hid (Box (((((w.alloc (.cells #[.bool gu, .slice Au nu cu] 24)).alloc (.cells #[.bool gv, .slice Av nv cv] 24)).alloc (.cells #[.bool false, .slice none 0 0] 24)).alloc (.cells #[.bool false, .slice none 0 0] 24)).alloc (.cells #[.bool false, .slice none 0 0] 24)) (w.heap.size + 2) #[.bool false, .slice none 0 0] 24) := hid (((Box.at_ (w := ((w.alloc (.cells #[.bool gu, .slice Au nu cu] 24)).alloc (.cells #[.bool gv, .slice Av nv cv] 24))) #[.bool false, .slice none 0 0] 24 (by simp)).alloc (.cells #[.bool false, .slice none 0 0] 24)).alloc (.cells #[.bool false, .slice none 0 0] 24))
  have B5 : Hid (Box (((((w.alloc (.cells #[.bool gu, .slice Au nu cu] 24)).alloc (.cells #[.bool gv, .slice Av nv cv] 24)).alloc (.cells #[.bool false, .slice none 0 0] 24)).alloc (.cells #[.bool false, .slice none 0 0] 24)).alloc (.cells #[.bool false, .slice none 0 0] 24)) (w.heap.size + 3) #[.bool false, .slice none 0 0] 24) := hid ((Box.at_ (w := (((w.alloc (.cells #[.bool gu, .slice Au nu cu] 24)).alloc (.cells #[.bool gv, .slice Av nv cv] 24)).alloc (.cells #[.bool false, .slice none 0 0] 24))) #[.bool false, .slice none 0 0] 24 (by simp)).alloc (.cells #[.bool false, .slice none 0 0] 24))
  have B6 : Hid (Box (((((w.alloc (.cells #[.bool gu, .slice Au nu cu] 24)).alloc (.cells #[.bool gv, .slice Av nv cv] 24)).alloc (.cells #[.bool false, .slice none 0 0] 24)).alloc (.cells #[.bool false, .slice none 0 0] 24)).alloc (.cells #[.bool false, .slice none 0 0] 24)) (w.heap.size + 4) #[.bool false, .slice none 0 0] 24) := hid (Box.at_ (w := ((((w.alloc (.cells #[.bool gu, .slice Au nu cu] 24)).alloc (.cells #[.bool gv, .slice Av nv cv] 24)).alloc (.cells #[.bool false, .slice none 0 0] 24)).alloc (.cells #[.bool false, .slice none 0 0] 24))) #[.bool false, .slice none 0 0] 24 (by simp))
  replace QU := hid (QU.out.up E.out)
  replace QV := hid (QV.out.up E.out)
  refine wp_region_E [(0, 0), (2, 0), (1, 2), (3, 2), (4, 2), (5, 0), (6, 0), (7, 5), (8, 3), (9, 3), (10, 4), (11, 4)] (fun _ => (24, #[.bool false, .slice none 0 0])) rfl (by kernel_rfl) (by intro j hj; simp [pend] at hj; rcases hj with rfl | rfl <;> exact ⟨_, rfl, rfl, rfl, fun w => by go_simp⟩) (fun _ _ d _ _ => by cases d <;> exact Iff.rfl) fun wd hb => ?_
  replace E := hid (E.out.trans hb)
  replace B2 := hid (B2.out.up hb)
  replace B3 := hid (B3.out.up hb)
  replace B4 := hid (B4.out.up hb)
  replace B5 := hid (B5.out.up hb)
  replace B6 := hid (B6.out.up hb)
  replace QU := hid (QU.out.up hb)
  replace QV := hid (QV.out.up hb)
  clear hb
  have HL1B2 := hid B2.out.lt
  have HL1B3 := hid B3.out.lt
  have HL1B4 := hid B4.out.lt
  have HL1B5 := hid B5.out.lt
  have HL1B6 := hid B6.out.lt
  have HW1 := hid (show w.heap.size ≤ wd.heap.size from E.out.size)
  refine WE.pure (d := some 13) rfl rfl (by rfl) (v := (.agg #[.bool gu, .slice Au nu cu])) (fun w' hk => ?_) ?_
  · have c0 := hk.cell (B2.out.cell (o := 0) (v := .bool gu) rfl); have c1 := hk.cell (B2.out.cell (o := 1) (v := .slice Au nu cu) rfl); go_simp
  simp only [Act.put, List.setIfInBounds_toArray, List.set_cons_zero, List.set_cons_succ]
  refine WE.pure (d := some 15) rfl rfl (by rfl) (v := (.agg #[.bool gv, .slice Av nv cv])) (fun w' hk => ?_) ?_
  · have c0 := hk.cell (B3.out.cell (o := 0) (v := .bool gv) rfl); have c1 := hk.cell (B3.out.cell (o := 1) (v := .slice Av nv cv) rfl); go_simp
  simp only [Act.put, List.setIfInBounds_toArray, List.set_cons_zero, List.set_cons_succ]
  refine WE.callR (d := some 14) rfl rfl (by rfl) (f := 30) (args := #[(.agg #[.bool gu, .slice Au nu cu])]) (fun w => by go_simp) (fun wx hx0 => ?_)
  replace E := hid (E.out.trans hx0)
  replace B2 := hid (B2.out.up hx0)
  replace B3 := hid (B3.out.up hx0)
  replace B4 := hid (B4.out.up hx0)
  replace B5 := hid (B5.out.up hx0)
  replace B6 := hid (B6.out.up hx0)
  replace QU := hid (QU.out.up hx0)
  replace QV := hid (QV.out.up hx0)
  clear hx0
  refine (abs_w QU.out (by have := HJ.out; omega)).mono ?_
  rintro e wn ⟨v1, rfl, x1, hb⟩
  obtain ⟨g1, A1, n1, c1, rfl⟩ := x1.shape
  refine ⟨_, rfl, hb, ?_⟩
  replace E := hid (E.out.trans hb)
  replace B2 := hid (B2.out.up hb)
  replace B3 := hid (B3.out.up hb)
  replace B4 := hid (B4.out.up hb)
  replace B5 := hid (B5.out.up hb)
  replace B6 := hid (B6.out.up hb)
  replace QU := hid (QU.out.up hb)
  replace QV := hid (QV.out.up hb)
  have Q1 := hid x1
  clear hb x1
  simp only [Act.put, List.setIfInBounds_toArray, List.set_cons_zero, List.set_cons_succ]
  refine WE.callR (d := some 16) rfl rfl (by rfl) (f := 30) (args := #[(.agg #[.bool gv, .slice Av nv cv])]) (fun w => by go_simp) (fun wx hx0 => ?_)
  replace E := hid (E.out.trans hx0)
  replace B2 := hid (B2.out.up hx0)
  replace B3 := hid (B3.out.up hx0)
  replace B4 := hid (B4.out.up hx0)
  replace B5 := hid (B5.out.up hx0)
  replace B6 := hid (B6.out.up hx0)
  replace QU := hid (QU.out.up hx0)
  replace QV := hid (QV.out.up hx0)
  replace Q1 := hid (Q1.out.up hx0)
  clear hx0
  refine (abs_w QV.out (by have := HJ.out; omega)).mono ?_
  rintro e wn ⟨v1, rfl, x1, hb⟩
  obtain ⟨g2, A2, n2, c2, rfl⟩ := x1.shape
  refine ⟨_, rfl, hb, ?_⟩
  replace E := hid (E.out.trans hb)
  replace B2 := hid (B2.out.up hb)
  replace B3 := hid (B3.out.up hb)
  replace B4 := hid (B4.out.up hb)
  replace B5 := hid (B5.out.up hb)
  replace B6 := hid (B6.out.up hb)
  replace QU := hid (QU.out.up hb)
  replace QV := hid (QV.out.up hb)
  replace Q1 := hid (Q1.out.up hb)
  have Q2 := hid x1
  clear hb x1
  simp only [Act.put, List.setIfInBounds_toArray, List.set_cons_zero, List.set_cons_succ]
  refine WE.callR (d := some 17) rfl rfl (by rfl) (f := 33) (args := #[(.agg #[.bool g1, .slice A1 n1 c1]), (.agg #[.bool g2, .slice A2 n2 c2])]) (fun w => by go_simp) (fun wx hx0 => ?_)
  replace E := hid (E.out.trans hx0)
  replace B2 := hid (B2.out.up hx0)
  replace B3 := hid (B3.out.up hx0)
  replace B4 := hid (B4.out.up hx0)
  replace B5 := hid (B5.out.up hx0)
  replace B6 := hid (B6.out.up hx0)
  replace QU := hid (QU.out.up hx0)
  replace QV := hid (QV.out.up hx0)
  replace Q1 := hid (Q1.out.up hx0)
  replace Q2 := hid (Q2.out.up hx0)
  clear hx0
  refine (combined_w Q1.out Q2.out HJ1.out (by have := HJ.out; omega)).mono ?_
  rintro e wn ⟨vx, vy, t, rfl, hx, hy, he, hb⟩
  obtain ⟨gd, Ad, nd, cd, rfl⟩ := hx.shape
  obtain ⟨gt, At, nt, ct, rfl⟩ := hy.shape
  refine ⟨_, rfl, hb, ?_⟩
  replace E := hid (E.out.trans hb)
  replace B2 := hid (B2.out.up hb)
  replace B3 := hid (B3.out.up hb)
  replace B4 := hid (B4.out.up hb)
  replace B5 := hid (B5.out.up hb)
  replace B6 := hid (B6.out.up hb)
  replace QU := hid (QU.out.up hb)
  replace QV := hid (QV.out.up hb)
  replace Q1 := hid (Q1.out.up hb)
  replace Q2 := hid (Q2.out.up hb)
  have Qd := hid (show IsZ _ _ ((Int.gcd Z Y : Nat) : Int) j from hx)
  have Qt := hid hy
  have HE := hid he
  clear hb hy he hx
  simp only [Act.put, List.setIfInBounds_toArray, List.set_cons_zero, List.set_cons_succ]
  refine WE.pure (d := some 12) rfl rfl (by rfl) (v := (.tuple #[(.agg #[.bool gd, .slice Ad nd cd]), (.agg #[.bool gt, .slice At nt ct])])) (fun w' hk => ?_) ?_
  · go_simp
  simp only [Act.put, List.setIfInBounds_toArray, List.set_cons_zero, List.set_cons_succ]
  refine WE.pure (d := some 18) rfl rfl (by rfl) (v := (.agg #[.bool gd, .slice Ad nd cd])) (fun w' hk => ?_) ?_
  · go_simp
  simp only [Act.put, List.setIfInBounds_toArray, List.set_cons_zero, List.set_cons_succ]
  refine WE.any (d := some 19) rfl rfl (by rfl) (v := (.agg #[.bool gt, .slice At nt ct])) (fun w' => ?_) ?_
  · go_simp
  simp only [Act.put, List.setIfInBounds_toArray, List.set_cons_zero, List.set_cons_succ]
  refine WE.var (d := some 7) rfl fun gV7 wv hx0 hbox hge hng => ?_
  have HNV7B2 := hid (show gV7 ≠ (w.heap.size) by have := HL1B2.out; omega)
  have HNV7B3 := hid (show gV7 ≠ (w.heap.size + 1) by have := HL1B3.out; omega)
  have HNV7B4 := hid (show gV7 ≠ (w.heap.size + 2) by have := HL1B4.out; omega)
  have HNV7B5 := hid (show gV7 ≠ (w.heap.size + 3) by have := HL1B5.out; omega)
  have HNV7B6 := hid (show gV7 ≠ (w.heap.size + 4) by have := HL1B6.out; omega)
  have HGV7 := hid (show w.heap.size ≤ gV7 by have := HW1.out; omega)
  replace E := hid (E.out.trans hx0)
  replace B2 := hid (B2.out.up hx0)
  replace B3 := hid (B3.out.up hx0)
  replace B4 := hid (B4.out.up hx0)
  replace B5 := hid (B5.out.up hx0)
  replace B6 := hid (B6.out.up hx0)
  replace QU := hid (QU.out.up hx0)
  replace QV := hid (QV.out.up hx0)
  replace Q1 := hid (Q1.out.up hx0)
  replace Q2 := hid (Q2.out.up hx0)
  replace Qd := hid (Qd.out.up hx0)
  replace Qt := hid (Qt.out.up hx0)
  have V7 : Hid (Box wv gV7 #[.bool false, .slice none 0 0] 24) := hid hbox
  clear hx0 hbox hge hng
  simp only [Act.put, List.setIfInBounds_toArray, List.set_cons_zero, List.set_cons_succ]
  as_aux_lemma =>
    refine WE.var (d := some 8) rfl fun gV8 wv hx0 hbox hge hng => ?_
    have HNV8B2 := hid (show gV8 ≠ (w.heap.size) by have := HL1B2.out; omega)
    have HNV8B3 := hid (show gV8 ≠ (w.heap.size + 1) by have := HL1B3.out; omega)
    have HNV8B4 := hid (show gV8 ≠ (w.heap.size + 2) by have := HL1B4.out; omega)
    have HNV8B5 := hid (show gV8 ≠ (w.heap.size + 3) by have := HL1B5.out; omega)
    have HNV8B6 := hid (show gV8 ≠ (w.heap.size + 4) by have := HL1B6.out; omega)
    have HNV8V7 := hid (show gV8 ≠ gV7 by intro e; exact hng (by simp [e]))
    have HGV8 := hid (show w.heap.size ≤ gV8 by have := HW1.out; omega)
    replace E := hid (E.out.trans hx0)
    replace B2 := hid (B2.out.up hx0)
    replace B3 := hid (B3.out.up hx0)
    replace B4 := hid (B4.out.up hx0)
    replace B5 := hid (B5.out.up hx0)
    replace B6 := hid (B6.out.up hx0)
    replace V7 := hid (V7.out.up hx0)
    replace QU := hid (QU.out.up hx0)
    replace QV := hid (QV.out.up hx0)
    replace Q1 := hid (Q1.out.up hx0)
    replace Q2 := hid (Q2.out.up hx0)
    replace Qd := hid (Qd.out.up hx0)
    replace Qt := hid (Qt.out.up hx0)
    have V8 : Hid (Box wv gV8 #[.bool false, .slice none 0 0] 24) := hid hbox
    clear hx0 hbox hge hng
    simp only [Act.put, List.setIfInBounds_toArray, List.set_cons_zero, List.set_cons_succ]
    refine WE.store2 (g := gV7) (x := .bool gd) (y := .slice Ad nd cd) (t := 24) rfl rfl (by rfl) (fun w hb => ?_) V7.out (by rfl) fun ws hk hs => ?_
    · have c0 := hb.cell (o := 0) (v := .bool false) rfl; have f0 := hb.free 0; have c1 := hb.cell (o := 1) (v := .slice none 0 0) rfl; have f1 := hb.free 1; go_simp
    intro hbx
    replace E := hid (E.out.keptG hk HGV7.out)
    replace B2 := hid (B2.out.kept hk (by simpa using HNV7B2.out.symm))
    replace B3 := hid (B3.out.kept hk (by simpa using HNV7B3.out.symm))
    replace B4 := hid (B4.out.kept hk (by simpa using HNV7B4.out.symm))
    replace B5 := hid (B5.out.kept hk (by simpa using HNV7B5.out.symm))
    replace B6 := hid (B6.out.kept hk (by simpa using HNV7B6.out.symm))
    replace V7 := hid hbx
    replace V8 := hid (V8.out.kept hk (by simpa using HNV8V7.out))
    replace QU := hid (QU.out.kz hs)
    replace QV := hid (QV.out.kz hs)
    replace Q1 := hid (Q1.out.kz hs)
    replace Q2 := hid (Q2.out.kz hs)
    replace Qd := hid (Qd.out.kz hs)
    replace Qt := hid (Qt.out.kz hs)
    clear hk hs hbx
    refine WE.store2 (g := gV8) (x := .bool gt) (y := .slice At nt ct) (t := 24) rfl rfl (by rfl) (fun w hb => ?_) V8.out (by rfl) fun ws hk hs => ?_
    · have c0 := hb.cell (o := 0) (v := .bool false) rfl; have f0 := hb.free 0; have c1 := hb.cell (o := 1) (v := .slice none 0 0) rfl; have f1 := hb.free 1; go_simp
    intro hbx
    replace E := hid (E.out.keptG hk HGV8.out)
    replace B2 := hid (B2.out.kept hk (by simpa using HNV8B2.out.symm))
    replace B3 := hid (B3.out.kept hk (by simpa using HNV8B3.out.symm))
    replace B4 := hid (B4.out.kept hk (by simpa using HNV8B4.out.symm))
    replace B5 := hid (B5.out.kept hk (by simpa using HNV8B5.out.symm))
    replace B6 := hid (B6.out.kept hk (by simpa using HNV8B6.out.symm))
    replace V7 := hid (V7.out.kept hk (by simpa using HNV8V7.out.symm))
    replace V8 := hid hbx
    replace QU := hid (QU.out.kz hs)
    replace QV := hid (QV.out.kz hs)
    replace Q1 := hid (Q1.out.kz hs)
    replace Q2 := hid (Q2.out.kz hs)
    replace Qd := hid (Qd.out.kz hs)
    replace Qt := hid (Qt.out.kz hs)
    clear hk hs hbx
    refine WE.done ?_
    clear Q1
    clear Q2
    go_upto_region 2 with (fail)
    refine wp_region_E [(0, 0), (1, 0), (2, 2), (3, 2), (4, 2), (5, 3), (6, 4)] (fun _ => (24, #[.bool false, .slice none 0 0])) rfl (by kernel_rfl) (by intro j hj; simp [pend] at hj; obtain rfl := hj; exact ⟨_, rfl, rfl, rfl, fun w => by go_simp⟩) (fun _ _ d _ _ => by cases d <;> exact Iff.rfl) fun wd hb => ?_
    replace E := hid (E.out.trans hb)
    replace B2 := hid (B2.out.up hb)
    replace B3 := hid (B3.out.up hb)
    replace B4 := hid (B4.out.up hb)
    replace B5 := hid (B5.out.up hb)
    replace B6 := hid (B6.out.up hb)
    replace V7 := hid (V7.out.up hb)
    replace V8 := hid (V8.out.up hb)
    replace QU := hid (QU.out.up hb)
    replace QV := hid (QV.out.up hb)
    replace Qd := hid (Qd.out.up hb)
    replace Qt := hid (Qt.out.up hb)
    clear hb
    have HL2B2 := hid B2.out.lt
    have HL2B3 := hid B3.out.lt
    have HL2B4 := hid B4.out.lt
    have HL2B5 := hid B5.out.lt
    have HL2B6 := hid B6.out.lt
    have HL2V7 := hid V7.out.lt
    have HL2V8 := hid V8.out.lt
    have HW2 := hid (show w.heap.size ≤ wd.heap.size from E.out.size)
    refine WE.pure (d := some 20) rfl rfl (by rfl) (v := (.agg #[.bool gt, .slice At nt ct])) (fun w' hk => ?_) ?_
    · have c0 := hk.cell (V8.out.cell (o := 0) (v := .bool gt) rfl); have c1 := hk.cell (V8.out.cell (o := 1) (v := .slice At nt ct) rfl); go_simp
    simp only [Act.put, List.setIfInBounds_toArray, List.set_cons_zero, List.set_cons_succ]
    refine WE.pure (d := some 21) rfl rfl (by rfl) (v := (.agg #[.bool gu, .slice Au nu cu])) (fun w' hk => ?_) ?_
    · have c0 := hk.cell (B2.out.cell (o := 0) (v := .bool gu) rfl); have c1 := hk.cell (B2.out.cell (o := 1) (v := .slice Au nu cu) rfl); go_simp
    simp only [Act.put, List.setIfInBounds_toArray, List.set_cons_zero, List.set_cons_succ]
    refine WE.callR (d := some 22) rfl rfl (by rfl) (f := 35) (args := #[(.agg #[.bool gu, .slice Au nu cu])]) (fun w => by go_simp) (fun wx hx0 => ?_)
    replace E := hid (E.out.trans hx0)
    replace B2 := hid (B2.out.up hx0)
    replace B3 := hid (B3.out.up hx0)
    replace B4 := hid (B4.out.up hx0)
    replace B5 := hid (B5.out.up hx0)
    replace B6 := hid (B6.out.up hx0)
    replace V7 := hid (V7.out.up hx0)
    replace V8 := hid (V8.out.up hx0)
    replace QU := hid (QU.out.up hx0)
    replace QV := hid (QV.out.up hx0)
    replace Qd := hid (Qd.out.up hx0)
    replace Qt := hid (Qt.out.up hx0)
    clear hx0
    refine (sign_e QU.out HSG.out).mono ?_
    rintro e wn ⟨rfl, hb⟩
    refine ⟨_, rfl, hb, ?_⟩
    replace E := hid (E.out.trans hb)
    replace B2 := hid (B2.out.up hb)
    replace B3 := hid (B3.out.up hb)
    replace B4 := hid (B4.out.up hb)
    replace B5 := hid (B5.out.up hb)
    replace B6 := hid (B6.out.up hb)
    replace V7 := hid (V7.out.up hb)
    replace V8 := hid (V8.out.up hb)
    replace QU := hid (QU.out.up hb)
    replace QV := hid (QV.out.up hb)
    replace Qd := hid (Qd.out.up hb)
    replace Qt := hid (Qt.out.up hb)
    clear hb
    simp only [Act.put, List.setIfInBounds_toArray, List.set_cons_zero, List.set_cons_succ]
    refine WE.callR (d := some 23) rfl rfl (by rfl) (f := 34) (args := #[(.int .i64 sg)]) (fun w => by go_simp) (fun wx hx0 => ?_)
    replace E := hid (E.out.trans hx0)
    replace B2 := hid (B2.out.up hx0)
    replace B3 := hid (B3.out.up hx0)
    replace B4 := hid (B4.out.up hx0)
    replace B5 := hid (B5.out.up hx0)
    replace B6 := hid (B6.out.up hx0)
    replace V7 := hid (V7.out.up hx0)
    replace V8 := hid (V8.out.up hx0)
    replace QU := hid (QU.out.up hx0)
    replace QV := hid (QV.out.up hx0)
    replace Qd := hid (Qd.out.up hx0)
    replace Qt := hid (Qt.out.up hx0)
    clear hx0
    refine (of_z (n := sg) (by have := HSB.out; omega) (by have := HSB.out; omega) _).mono ?_
    rintro e wn ⟨v1, rfl, x1, hb⟩
    obtain ⟨go, Ao, no, co, rfl⟩ := x1.shape
    refine ⟨_, rfl, hb, ?_⟩
    replace E := hid (E.out.trans hb)
    replace B2 := hid (B2.out.up hb)
    replace B3 := hid (B3.out.up hb)
    replace B4 := hid (B4.out.up hb)
    replace B5 := hid (B5.out.up hb)
    replace B6 := hid (B6.out.up hb)
    replace V7 := hid (V7.out.up hb)
    replace V8 := hid (V8.out.up hb)
    replace QU := hid (QU.out.up hb)
    replace QV := hid (QV.out.up hb)
    replace Qd := hid (Qd.out.up hb)
    replace Qt := hid (Qt.out.up hb)
    have Qo := hid x1
    clear hb x1
    simp only [Act.put, List.setIfInBounds_toArray, List.set_cons_zero, List.set_cons_succ]
    refine WE.callR (d := some 24) rfl rfl (by rfl) (f := 31) (args := #[(.agg #[.bool gt, .slice At nt ct]), (.agg #[.bool go, .slice Ao no co])]) (fun w => by go_simp) (fun wx hx0 => ?_)
    replace E := hid (E.out.trans hx0)
    replace B2 := hid (B2.out.up hx0)
    replace B3 := hid (B3.out.up hx0)
    replace B4 := hid (B4.out.up hx0)
    replace B5 := hid (B5.out.up hx0)
    replace B6 := hid (B6.out.up hx0)
    replace V7 := hid (V7.out.up hx0)
    replace V8 := hid (V8.out.up hx0)
    replace QU := hid (QU.out.up hx0)
    replace QV := hid (QV.out.up hx0)
    replace Qd := hid (Qd.out.up hx0)
    replace Qt := hid (Qt.out.up hx0)
    replace Qo := hid (Qo.out.up hx0)
    clear hx0
    refine (mul_w Qt.out.worth Qo.out.worth (by have := HJ.out; omega) (by omega) (.inl (by have := HJ.out; omega))).mono ?_
    rintro e wn ⟨v1, rfl, x1, hb⟩
    obtain ⟨gx, Ax, nx, cx, rfl⟩ := x1.shape
    refine ⟨_, rfl, hb, ?_⟩
    replace E := hid (E.out.trans hb)
    replace B2 := hid (B2.out.up hb)
    replace B3 := hid (B3.out.up hb)
    replace B4 := hid (B4.out.up hb)
    replace B5 := hid (B5.out.up hb)
    replace B6 := hid (B6.out.up hb)
    replace V7 := hid (V7.out.up hb)
    replace V8 := hid (V8.out.up hb)
    replace QU := hid (QU.out.up hb)
    replace QV := hid (QV.out.up hb)
    replace Qd := hid (Qd.out.up hb)
    replace Qt := hid (Qt.out.up hb)
    replace Qo := hid (Qo.out.up hb)
    have Qx := hid (IsZ.short (k := j) x1 (by have h1 := Qt.out.len; have h2 := HSB.out; rw [Int.natAbs_mul]; rcases (by omega : sg = -1 ∨ sg = 0 ∨ sg = 1) with e | e | e <;> rw [e] <;> simp <;> omega))
    clear hb x1
    simp only [Act.put, List.setIfInBounds_toArray, List.set_cons_zero, List.set_cons_succ]
    refine WE.var (d := some 9) rfl fun gV9 wv hx0 hbox hge hng => ?_
    have HNV9B2 := hid (show gV9 ≠ (w.heap.size) by have := HL2B2.out; omega)
    have HNV9B3 := hid (show gV9 ≠ (w.heap.size + 1) by have := HL2B3.out; omega)
    have HNV9B4 := hid (show gV9 ≠ (w.heap.size + 2) by have := HL2B4.out; omega)
    have HNV9B5 := hid (show gV9 ≠ (w.heap.size + 3) by have := HL2B5.out; omega)
    have HNV9B6 := hid (show gV9 ≠ (w.heap.size + 4) by have := HL2B6.out; omega)
    have HNV9V7 := hid (show gV9 ≠ gV7 by have := HL2V7.out; omega)
    have HNV9V8 := hid (show gV9 ≠ gV8 by have := HL2V8.out; omega)
    have HGV9 := hid (show w.heap.size ≤ gV9 by have := HW2.out; omega)
    replace E := hid (E.out.trans hx0)
    replace B2 := hid (B2.out.up hx0)
    replace B3 := hid (B3.out.up hx0)
    replace B4 := hid (B4.out.up hx0)
    replace B5 := hid (B5.out.up hx0)
    replace B6 := hid (B6.out.up hx0)
    replace V7 := hid (V7.out.up hx0)
    replace V8 := hid (V8.out.up hx0)
    replace QU := hid (QU.out.up hx0)
    replace QV := hid (QV.out.up hx0)
    replace Qd := hid (Qd.out.up hx0)
    replace Qt := hid (Qt.out.up hx0)
    replace Qo := hid (Qo.out.up hx0)
    replace Qx := hid (Qx.out.up hx0)
    have V9 : Hid (Box wv gV9 #[.bool false, .slice none 0 0] 24) := hid hbox
    clear hx0 hbox hge hng
    simp only [Act.put, List.setIfInBounds_toArray, List.set_cons_zero, List.set_cons_succ]
    refine WE.store2 (g := gV9) (x := .bool gx) (y := .slice Ax nx cx) (t := 24) rfl rfl (by rfl) (fun w hb => ?_) V9.out (by rfl) fun ws hk hs => ?_
    · have c0 := hb.cell (o := 0) (v := .bool false) rfl; have f0 := hb.free 0; have c1 := hb.cell (o := 1) (v := .slice none 0 0) rfl; have f1 := hb.free 1; go_simp
    intro hbx
    replace E := hid (E.out.keptG hk HGV9.out)
    replace B2 := hid (B2.out.kept hk (by simpa using HNV9B2.out.symm))
    replace B3 := hid (B3.out.kept hk (by simpa using HNV9B3.out.symm))
    replace B4 := hid (B4.out.kept hk (by simpa using HNV9B4.out.symm))
    replace B5 := hid (B5.out.kept hk (by simpa using HNV9B5.out.symm))
    replace B6 := hid (B6.out.kept hk (by simpa using HNV9B6.out.symm))
    replace V7 := hid (V7.out.kept hk (by simpa using HNV9V7.out.symm))
    replace V8 := hid (V8.out.kept hk (by simpa using HNV9V8.out.symm))
    replace V9 := hid hbx
    replace QU := hid (QU.out.kz hs)
    replace QV := hid (QV.out.kz hs)
    replace Qd := hid (Qd.out.kz hs)
    replace Qt := hid (Qt.out.kz hs)
    replace Qo := hid (Qo.out.kz hs)
    replace Qx := hid (Qx.out.kz hs)
    clear hk hs hbx
    refine WE.done ?_
    clear Qo
    clear Qt
    clear V8
    go_upto_region 3 with (fail)
    refine wp_region_E [(0, 0), (1, 0), (2, 0), (5, 0), (3, 2), (4, 2), (6, 2), (7, 0), (8, 0), (9, 5), (10, 3), (11, 3), (12, 4), (13, 4)] (fun _ => (24, #[.bool false, .slice none 0 0])) rfl (by kernel_rfl) (by intro j hj; simp [pend] at hj; rcases hj with rfl | rfl <;> exact ⟨_, rfl, rfl, rfl, fun w => by go_simp⟩) (fun _ _ d _ _ => by cases d <;> exact Iff.rfl) fun wd hb => ?_
    replace E := hid (E.out.trans hb)
    replace B2 := hid (B2.out.up hb)
    replace B3 := hid (B3.out.up hb)
    replace B4 := hid (B4.out.up hb)
    replace B5 := hid (B5.out.up hb)
    replace B6 := hid (B6.out.up hb)
    replace V7 := hid (V7.out.up hb)
    replace V9 := hid (V9.out.up hb)
    replace QU := hid (QU.out.up hb)
    replace QV := hid (QV.out.up hb)
    replace Qd := hid (Qd.out.up hb)
    replace Qx := hid (Qx.out.up hb)
    clear hb
    have HL3B2 := hid B2.out.lt
    have HL3B3 := hid B3.out.lt
    have HL3B4 := hid B4.out.lt
    have HL3B5 := hid B5.out.lt
    have HL3B6 := hid B6.out.lt
    have HL3V7 := hid V7.out.lt
    have HL3V9 := hid V9.out.lt
    have HW3 := hid (show w.heap.size ≤ wd.heap.size from E.out.size)
    as_aux_lemma =>
      refine WE.pure (d := some 26) rfl rfl (by rfl) (v := (.agg #[.bool gd, .slice Ad nd cd])) (fun w' hk => ?_) ?_
      · have c0 := hk.cell (V7.out.cell (o := 0) (v := .bool gd) rfl); have c1 := hk.cell (V7.out.cell (o := 1) (v := .slice Ad nd cd) rfl); go_simp
      simp only [Act.put, List.setIfInBounds_toArray, List.set_cons_zero, List.set_cons_succ]
      refine WE.pure (d := some 27) rfl rfl (by rfl) (v := (.agg #[.bool gu, .slice Au nu cu])) (fun w' hk => ?_) ?_
      · have c0 := hk.cell (B2.out.cell (o := 0) (v := .bool gu) rfl); have c1 := hk.cell (B2.out.cell (o := 1) (v := .slice Au nu cu) rfl); go_simp
      simp only [Act.put, List.setIfInBounds_toArray, List.set_cons_zero, List.set_cons_succ]
      refine WE.pure (d := some 28) rfl rfl (by rfl) (v := (.agg #[.bool gx, .slice Ax nx cx])) (fun w' hk => ?_) ?_
      · have c0 := hk.cell (V9.out.cell (o := 0) (v := .bool gx) rfl); have c1 := hk.cell (V9.out.cell (o := 1) (v := .slice Ax nx cx) rfl); go_simp
      simp only [Act.put, List.setIfInBounds_toArray, List.set_cons_zero, List.set_cons_succ]
      refine WE.pure (d := some 31) rfl rfl (by rfl) (v := (.agg #[.bool gv, .slice Av nv cv])) (fun w' hk => ?_) ?_
      · have c0 := hk.cell (B3.out.cell (o := 0) (v := .bool gv) rfl); have c1 := hk.cell (B3.out.cell (o := 1) (v := .slice Av nv cv) rfl); go_simp
      simp only [Act.put, List.setIfInBounds_toArray, List.set_cons_zero, List.set_cons_succ]
      refine WE.callR (d := some 29) rfl rfl (by rfl) (f := 31) (args := #[(.agg #[.bool gu, .slice Au nu cu]), (.agg #[.bool gx, .slice Ax nx cx])]) (fun w => by go_simp) (fun wx hx0 => ?_)
      replace E := hid (E.out.trans hx0)
      replace B2 := hid (B2.out.up hx0)
      replace B3 := hid (B3.out.up hx0)
      replace B4 := hid (B4.out.up hx0)
      replace B5 := hid (B5.out.up hx0)
      replace B6 := hid (B6.out.up hx0)
      replace V7 := hid (V7.out.up hx0)
      replace V9 := hid (V9.out.up hx0)
      replace QU := hid (QU.out.up hx0)
      replace QV := hid (QV.out.up hx0)
      replace Qd := hid (Qd.out.up hx0)
      replace Qx := hid (Qx.out.up hx0)
      clear hx0
      refine (mul_w QU.out Qx.out.worth (by have := HJ.out; omega) (by have := HJ.out; omega) (.inl (by have := HJ.out; omega))).mono ?_
      rintro e wn ⟨v1, rfl, x1, hb⟩
      obtain ⟨gm, Am, nm, cm, rfl⟩ := x1.shape
      refine ⟨_, rfl, hb, ?_⟩
      replace E := hid (E.out.trans hb)
      replace B2 := hid (B2.out.up hb)
      replace B3 := hid (B3.out.up hb)
      replace B4 := hid (B4.out.up hb)
      replace B5 := hid (B5.out.up hb)
      replace B6 := hid (B6.out.up hb)
      replace V7 := hid (V7.out.up hb)
      replace V9 := hid (V9.out.up hb)
      replace QU := hid (QU.out.up hb)
      replace QV := hid (QV.out.up hb)
      replace Qd := hid (Qd.out.up hb)
      replace Qx := hid (Qx.out.up hb)
      have Qm := hid x1
      clear hb x1
      simp only [Act.put, List.setIfInBounds_toArray, List.set_cons_zero, List.set_cons_succ]
      refine WE.callR (d := some 30) rfl rfl (by rfl) (f := 36) (args := #[(.agg #[.bool gd, .slice Ad nd cd]), (.agg #[.bool gm, .slice Am nm cm])]) (fun w => by go_simp) (fun wx hx0 => ?_)
      replace E := hid (E.out.trans hx0)
      replace B2 := hid (B2.out.up hx0)
      replace B3 := hid (B3.out.up hx0)
      replace B4 := hid (B4.out.up hx0)
      replace B5 := hid (B5.out.up hx0)
      replace B6 := hid (B6.out.up hx0)
      replace V7 := hid (V7.out.up hx0)
      replace V9 := hid (V9.out.up hx0)
      replace QU := hid (QU.out.up hx0)
      replace QV := hid (QV.out.up hx0)
      replace Qd := hid (Qd.out.up hx0)
      replace Qx := hid (Qx.out.up hx0)
      replace Qm := hid (Qm.out.up hx0)
      clear hx0
      refine (sub_w Qd.out.worth Qm.out.worth (by have := HJ.out; omega) (by have := HJ.out; omega)).mono ?_
      rintro e wn ⟨v1, rfl, x1, hb⟩
      obtain ⟨gs, As, ns, cs, rfl⟩ := x1.shape
      refine ⟨_, rfl, hb, ?_⟩
      replace E := hid (E.out.trans hb)
      replace B2 := hid (B2.out.up hb)
      replace B3 := hid (B3.out.up hb)
      replace B4 := hid (B4.out.up hb)
      replace B5 := hid (B5.out.up hb)
      replace B6 := hid (B6.out.up hb)
      replace V7 := hid (V7.out.up hb)
      replace V9 := hid (V9.out.up hb)
      replace QU := hid (QU.out.up hb)
      replace QV := hid (QV.out.up hb)
      replace Qd := hid (Qd.out.up hb)
      replace Qx := hid (Qx.out.up hb)
      replace Qm := hid (Qm.out.up hb)
      have Qs := hid x1
      clear hb x1
      simp only [Act.put, List.setIfInBounds_toArray, List.set_cons_zero, List.set_cons_succ]
      refine WE.callR (d := some 32) rfl rfl (by rfl) (f := 29) (args := #[(.agg #[.bool gs, .slice As ns cs]), (.agg #[.bool gv, .slice Av nv cv])]) (fun w => by go_simp) (fun wx hx0 => ?_)
      replace E := hid (E.out.trans hx0)
      replace B2 := hid (B2.out.up hx0)
      replace B3 := hid (B3.out.up hx0)
      replace B4 := hid (B4.out.up hx0)
      replace B5 := hid (B5.out.up hx0)
      replace B6 := hid (B6.out.up hx0)
      replace V7 := hid (V7.out.up hx0)
      replace V9 := hid (V9.out.up hx0)
      replace QU := hid (QU.out.up hx0)
      replace QV := hid (QV.out.up hx0)
      replace Qd := hid (Qd.out.up hx0)
      replace Qx := hid (Qx.out.up hx0)
      replace Qm := hid (Qm.out.up hx0)
      replace Qs := hid (Qs.out.up hx0)
      clear hx0
      refine (floor_w Qs.out.worth QV.out (by have := HJ.out; omega) (by have := HJ.out; omega)).mono ?_
      rintro e wn ⟨vx, vy, rfl, hx, hy, hb⟩
      obtain ⟨gy, Ay, ny, cy, rfl⟩ := hx.worth.shape
      obtain ⟨gz, Az, nz, cz, rfl⟩ := hy.worth.shape
      have he := M.ext_end (Z := Z) (Y := Y) HE.out (by rw [HSG.out]) rfl
      refine ⟨_, rfl, hb, ?_⟩
      replace E := hid (E.out.trans hb)
      replace B2 := hid (B2.out.up hb)
      replace B3 := hid (B3.out.up hb)
      replace B4 := hid (B4.out.up hb)
      replace B5 := hid (B5.out.up hb)
      replace B6 := hid (B6.out.up hb)
      replace V7 := hid (V7.out.up hb)
      replace V9 := hid (V9.out.up hb)
      replace QU := hid (QU.out.up hb)
      replace QV := hid (QV.out.up hb)
      replace Qd := hid (Qd.out.up hb)
      replace Qx := hid (Qx.out.up hb)
      replace Qm := hid (Qm.out.up hb)
      replace Qs := hid (Qs.out.up hb)
      have HXE := hid he
      have Qy := hid (hx.short (k := j) (HXE.out.small HA.out HB.out HP.out))
      clear hb he hx hy
      simp only [Act.put, List.setIfInBounds_toArray, List.set_cons_zero, List.set_cons_succ]
      refine WE.pure (d := some 25) rfl rfl (by rfl) (v := (.tuple #[(.agg #[.bool gy, .slice Ay ny cy]), (.agg #[.bool gz, .slice Az nz cz])])) (fun w' hk => ?_) ?_
      · go_simp
      simp only [Act.put, List.setIfInBounds_toArray, List.set_cons_zero, List.set_cons_succ]
      refine WE.pure (d := some 33) rfl rfl (by rfl) (v := (.agg #[.bool gy, .slice Ay ny cy])) (fun w' hk => ?_) ?_
      · go_simp
      simp only [Act.put, List.setIfInBounds_toArray, List.set_cons_zero, List.set_cons_succ]
      refine WE.any (d := some 34) rfl rfl (by rfl) (v := (.agg #[.bool gz, .slice Az nz cz])) (fun w' => ?_) ?_
      · go_simp
      simp only [Act.put, List.setIfInBounds_toArray, List.set_cons_zero, List.set_cons_succ]
      as_aux_lemma =>
        refine WE.var (d := some 10) rfl fun gV10 wv hx0 hbox hge hng => ?_
        have HNV10B2 := hid (show gV10 ≠ (w.heap.size) by have := HL3B2.out; omega)
        have HNV10B3 := hid (show gV10 ≠ (w.heap.size + 1) by have := HL3B3.out; omega)
        have HNV10B4 := hid (show gV10 ≠ (w.heap.size + 2) by have := HL3B4.out; omega)
        have HNV10B5 := hid (show gV10 ≠ (w.heap.size + 3) by have := HL3B5.out; omega)
        have HNV10B6 := hid (show gV10 ≠ (w.heap.size + 4) by have := HL3B6.out; omega)
        have HNV10V7 := hid (show gV10 ≠ gV7 by have := HL3V7.out; omega)
        have HNV10V9 := hid (show gV10 ≠ gV9 by have := HL3V9.out; omega)
        have HGV10 := hid (show w.heap.size ≤ gV10 by have := HW3.out; omega)
        replace E := hid (E.out.trans hx0)
        replace B2 := hid (B2.out.up hx0)
        replace B3 := hid (B3.out.up hx0)
        replace B4 := hid (B4.out.up hx0)
        replace B5 := hid (B5.out.up hx0)
        replace B6 := hid (B6.out.up hx0)
        replace V7 := hid (V7.out.up hx0)
        replace V9 := hid (V9.out.up hx0)
        replace QU := hid (QU.out.up hx0)
        replace QV := hid (QV.out.up hx0)
        replace Qd := hid (Qd.out.up hx0)
        replace Qx := hid (Qx.out.up hx0)
        replace Qm := hid (Qm.out.up hx0)
        replace Qs := hid (Qs.out.up hx0)
        replace Qy := hid (Qy.out.up hx0)
        have V10 : Hid (Box wv gV10 #[.bool false, .slice none 0 0] 24) := hid hbox
        clear hx0 hbox hge hng
        simp only [Act.put, List.setIfInBounds_toArray, List.set_cons_zero, List.set_cons_succ]
        refine WE.var (d := some 11) rfl fun gV11 wv hx0 hbox hge hng => ?_
        have HNV11B2 := hid (show gV11 ≠ (w.heap.size) by have := HL3B2.out; omega)
        have HNV11B3 := hid (show gV11 ≠ (w.heap.size + 1) by have := HL3B3.out; omega)
        have HNV11B4 := hid (show gV11 ≠ (w.heap.size + 2) by have := HL3B4.out; omega)
        have HNV11B5 := hid (show gV11 ≠ (w.heap.size + 3) by have := HL3B5.out; omega)
        have HNV11B6 := hid (show gV11 ≠ (w.heap.size + 4) by have := HL3B6.out; omega)
        have HNV11V7 := hid (show gV11 ≠ gV7 by have := HL3V7.out; omega)
        have HNV11V9 := hid (show gV11 ≠ gV9 by have := HL3V9.out; omega)
        have HNV11V10 := hid (show gV11 ≠ gV10 by intro e; exact hng (by simp [e]))
        have HGV11 := hid (show w.heap.size ≤ gV11 by have := HW3.out; omega)
        replace E := hid (E.out.trans hx0)
        replace B2 := hid (B2.out.up hx0)
        replace B3 := hid (B3.out.up hx0)
        replace B4 := hid (B4.out.up hx0)
        replace B5 := hid (B5.out.up hx0)
        replace B6 := hid (B6.out.up hx0)
        replace V7 := hid (V7.out.up hx0)
        replace V9 := hid (V9.out.up hx0)
        replace V10 := hid (V10.out.up hx0)
        replace QU := hid (QU.out.up hx0)
        replace QV := hid (QV.out.up hx0)
        replace Qd := hid (Qd.out.up hx0)
        replace Qx := hid (Qx.out.up hx0)
        replace Qm := hid (Qm.out.up hx0)
        replace Qs := hid (Qs.out.up hx0)
        replace Qy := hid (Qy.out.up hx0)
        have V11 : Hid (Box wv gV11 #[.bool false, .slice none 0 0] 24) := hid hbox
        clear hx0 hbox hge hng
        simp only [Act.put, List.setIfInBounds_toArray, List.set_cons_zero, List.set_cons_succ]
        refine WE.store2 (g := gV10) (x := .bool gy) (y := .slice Ay ny cy) (t := 24) rfl rfl (by rfl) (fun w hb => ?_) V10.out (by rfl) fun ws hk hs => ?_
        · have c0 := hb.cell (o := 0) (v := .bool false) rfl; have f0 := hb.free 0; have c1 := hb.cell (o := 1) (v := .slice none 0 0) rfl; have f1 := hb.free 1; go_simp
        intro hbx
        replace E := hid (E.out.keptG hk HGV10.out)
        replace B2 := hid (B2.out.kept hk (by simpa using HNV10B2.out.symm))
        replace B3 := hid (B3.out.kept hk (by simpa using HNV10B3.out.symm))
        replace B4 := hid (B4.out.kept hk (by simpa using HNV10B4.out.symm))
        replace B5 := hid (B5.out.kept hk (by simpa using HNV10B5.out.symm))
        replace B6 := hid (B6.out.kept hk (by simpa using HNV10B6.out.symm))
        replace V7 := hid (V7.out.kept hk (by simpa using HNV10V7.out.symm))
        replace V9 := hid (V9.out.kept hk (by simpa using HNV10V9.out.symm))
        replace V10 := hid hbx
        replace V11 := hid (V11.out.kept hk (by simpa using HNV11V10.out))
        replace QU := hid (QU.out.kz hs)
        replace QV := hid (QV.out.kz hs)
        replace Qd := hid (Qd.out.kz hs)
        replace Qx := hid (Qx.out.kz hs)
        replace Qm := hid (Qm.out.kz hs)
        replace Qs := hid (Qs.out.kz hs)
        replace Qy := hid (Qy.out.kz hs)
        clear hk hs hbx
        refine WE.store2 (g := gV11) (x := .bool gz) (y := .slice Az nz cz) (t := 24) rfl rfl (by rfl) (fun w hb => ?_) V11.out (by rfl) fun ws hk hs => ?_
        · have c0 := hb.cell (o := 0) (v := .bool false) rfl; have f0 := hb.free 0; have c1 := hb.cell (o := 1) (v := .slice none 0 0) rfl; have f1 := hb.free 1; go_simp
        intro hbx
        replace E := hid (E.out.keptG hk HGV11.out)
        replace B2 := hid (B2.out.kept hk (by simpa using HNV11B2.out.symm))
        replace B3 := hid (B3.out.kept hk (by simpa using HNV11B3.out.symm))
        replace B4 := hid (B4.out.kept hk (by simpa using HNV11B4.out.symm))
        replace B5 := hid (B5.out.kept hk (by simpa using HNV11B5.out.symm))
        replace B6 := hid (B6.out.kept hk (by simpa using HNV11B6.out.symm))
        replace V7 := hid (V7.out.kept hk (by simpa using HNV11V7.out.symm))
        replace V9 := hid (V9.out.kept hk (by simpa using HNV11V9.out.symm))
        replace V10 := hid (V10.out.kept hk (by simpa using HNV11V10.out.symm))
        replace V11 := hid hbx
        replace QU := hid (QU.out.kz hs)
        replace QV := hid (QV.out.kz hs)
        replace Qd := hid (Qd.out.kz hs)
        replace Qx := hid (Qx.out.kz hs)
        replace Qm := hid (Qm.out.kz hs)
        replace Qs := hid (Qs.out.kz hs)
        replace Qy := hid (Qy.out.kz hs)
        clear hk hs hbx
        refine WE.done ?_
        clear Qm
        clear Qs
        clear V11
        go_upto_region 4 with (fail)
        refine wp_region_X [(w.heap.size + 2), (w.heap.size + 3), (w.heap.size + 4)] [(0, 0), (1, 5), (2, 5), (3, 4), (4, 4), (5, 4)] (fun _ => (0, #[])) rfl (by kernel_rfl) (by intro j hj; cases hj) (fun _ _ d _ _ => by cases d <;> exact Iff.rfl) fun wd hb => ?_
        replace E := hid (E.out.trans hb)
        replace B2 := hid (B2.out.up hb)
        replace B3 := hid (B3.out.up hb)
        replace B4 := hid (B4.out.up hb)
        replace B5 := hid (B5.out.up hb)
        replace B6 := hid (B6.out.up hb)
        replace V7 := hid (V7.out.up hb)
        replace V9 := hid (V9.out.up hb)
        replace V10 := hid (V10.out.up hb)
        replace QU := hid (QU.out.up hb)
        replace QV := hid (QV.out.up hb)
        replace Qd := hid (Qd.out.up hb)
        replace Qx := hid (Qx.out.up hb)
        replace Qy := hid (Qy.out.up hb)
        clear hb
        have EX := hid (Ext.refl wd)
        have HL4B2 := hid B2.out.lt
        have HL4B3 := hid B3.out.lt
        have HL4B4 := hid B4.out.lt
        have HL4B5 := hid B5.out.lt
        have HL4B6 := hid B6.out.lt
        have HL4V7 := hid V7.out.lt
        have HL4V9 := hid V9.out.lt
        have HL4V10 := hid V10.out.lt
        have HW4 := hid (show w.heap.size ≤ wd.heap.size from E.out.size)
        refine WX.pure (d := some 35) rfl rfl (by rfl) (v := (.agg #[.bool gd, .slice Ad nd cd])) (fun w' hk => ?_) ?_
        · have c0 := hk.cell (V7.out.cell (o := 0) (v := .bool gd) rfl); have c1 := hk.cell (V7.out.cell (o := 1) (v := .slice Ad nd cd) rfl); go_simp
        simp only [Act.put, List.setIfInBounds_toArray, List.set_cons_zero, List.set_cons_succ]
        refine WX.any (d := some 36) rfl rfl (by rfl) (v := (.agg #[.bool gx, .slice Ax nx cx])) (fun w' hk => ?_) ?_
        · have c0 := (V9.out.keptX hk HL4V9.out (nm_cons (by simpa using HNV9B4.out) (nm_cons (by simpa using HNV9B5.out) (nm_cons (by simpa using HNV9B6.out) nm_nil)))).cell (o := 0) (v := .bool gx) rfl; have c1 := (V9.out.keptX hk HL4V9.out (nm_cons (by simpa using HNV9B4.out) (nm_cons (by simpa using HNV9B5.out) (nm_cons (by simpa using HNV9B6.out) nm_nil)))).cell (o := 1) (v := .slice Ax nx cx) rfl; go_simp
        simp only [Act.put, List.setIfInBounds_toArray, List.set_cons_zero, List.set_cons_succ]
        refine WX.any (d := some 37) rfl rfl (by rfl) (v := (.agg #[.bool gy, .slice Ay ny cy])) (fun w' hk => ?_) ?_
        · have c0 := (V10.out.keptX hk HL4V10.out (nm_cons (by simpa using HNV10B4.out) (nm_cons (by simpa using HNV10B5.out) (nm_cons (by simpa using HNV10B6.out) nm_nil)))).cell (o := 0) (v := .bool gy) rfl; have c1 := (V10.out.keptX hk HL4V10.out (nm_cons (by simpa using HNV10B4.out) (nm_cons (by simpa using HNV10B5.out) (nm_cons (by simpa using HNV10B6.out) nm_nil)))).cell (o := 1) (v := .slice Ay ny cy) rfl; go_simp
        simp only [Act.put, List.setIfInBounds_toArray, List.set_cons_zero, List.set_cons_succ]
        clear EX
        refine WX.store2 (g := (w.heap.size + 2)) (x := .bool gd) (y := .slice Ad nd cd) (t := 24) rfl rfl (by rfl) (fun w hb => ?_) B4.out (by rfl) (.inl (by simp)) fun ws hk hs => ?_
        · have c0 := hb.cell (o := 0) (v := .bool false) rfl; have f0 := hb.free 0; have c1 := hb.cell (o := 1) (v := .slice none 0 0) rfl; have f1 := hb.free 1; go_simp
        intro hbx
        replace E := hid (E.out.keptG hk (by simp))
        replace B2 := hid (B2.out.kept hk (by simp))
        replace B3 := hid (B3.out.kept hk (by simp))
        replace B4 := hid hbx
        replace B5 := hid (B5.out.kept hk (by simp))
        replace B6 := hid (B6.out.kept hk (by simp))
        replace V7 := hid (V7.out.kept hk (by simpa using HNV7B4.out))
        replace V9 := hid (V9.out.kept hk (by simpa using HNV9B4.out))
        replace V10 := hid (V10.out.kept hk (by simpa using HNV10B4.out))
        replace QU := hid (QU.out.kz hs)
        replace QV := hid (QV.out.kz hs)
        replace Qd := hid (Qd.out.kz hs)
        replace Qx := hid (Qx.out.kz hs)
        replace Qy := hid (Qy.out.kz hs)
        clear hk hs hbx
        refine WX.store2 (g := (w.heap.size + 3)) (x := .bool gx) (y := .slice Ax nx cx) (t := 24) rfl rfl (by rfl) (fun w hb => ?_) B5.out (by rfl) (.inl (by simp)) fun ws hk hs => ?_
        · have c0 := hb.cell (o := 0) (v := .bool false) rfl; have f0 := hb.free 0; have c1 := hb.cell (o := 1) (v := .slice none 0 0) rfl; have f1 := hb.free 1; go_simp
        intro hbx
        replace E := hid (E.out.keptG hk (by simp))
        replace B2 := hid (B2.out.kept hk (by simp))
        replace B3 := hid (B3.out.kept hk (by simp))
        replace B4 := hid (B4.out.kept hk (by simp))
        replace B5 := hid hbx
        replace B6 := hid (B6.out.kept hk (by simp))
        replace V7 := hid (V7.out.kept hk (by simpa using HNV7B5.out))
        replace V9 := hid (V9.out.kept hk (by simpa using HNV9B5.out))
        replace V10 := hid (V10.out.kept hk (by simpa using HNV10B5.out))
        replace QU := hid (QU.out.kz hs)
        replace QV := hid (QV.out.kz hs)
        replace Qd := hid (Qd.out.kz hs)
        replace Qx := hid (Qx.out.kz hs)
        replace Qy := hid (Qy.out.kz hs)
        clear hk hs hbx
        refine WX.store2 (g := (w.heap.size + 4)) (x := .bool gy) (y := .slice Ay ny cy) (t := 24) rfl rfl (by rfl) (fun w hb => ?_) B6.out (by rfl) (.inl (by simp)) fun ws hk hs => ?_
        · have c0 := hb.cell (o := 0) (v := .bool false) rfl; have f0 := hb.free 0; have c1 := hb.cell (o := 1) (v := .slice none 0 0) rfl; have f1 := hb.free 1; go_simp
        intro hbx
        replace E := hid (E.out.keptG hk (by simp))
        replace B2 := hid (B2.out.kept hk (by simp))
        replace B3 := hid (B3.out.kept hk (by simp))
        replace B4 := hid (B4.out.kept hk (by simp))
        replace B5 := hid (B5.out.kept hk (by simp))
        replace B6 := hid hbx
        replace V7 := hid (V7.out.kept hk (by simpa using HNV7B6.out))
        replace V9 := hid (V9.out.kept hk (by simpa using HNV9B6.out))
        replace V10 := hid (V10.out.kept hk (by simpa using HNV10B6.out))
        replace QU := hid (QU.out.kz hs)
        replace QV := hid (QV.out.kz hs)
        replace Qd := hid (Qd.out.kz hs)
        replace Qx := hid (Qx.out.kz hs)
        replace Qy := hid (Qy.out.kz hs)
        clear hk hs hbx
        refine WX.done ?_
        have r0 := B4.out.cell (o := 0) (v := .bool gd) rfl
        have r1 := B4.out.cell (o := 1) (v := .slice Ad nd cd) rfl
        have r2 := B5.out.cell (o := 0) (v := .bool gx) rfl
        have r3 := B5.out.cell (o := 1) (v := .slice Ax nx cx) rfl
        have r4 := B6.out.cell (o := 0) (v := .bool gy) rfl
        have r5 := B6.out.cell (o := 1) (v := .slice Ay ny cy) rfl
        repeat go_step
        exact bodyPost_ret (v := .tuple #[.agg #[.bool gd, .slice Ad nd cd], .agg #[.bool gx, .slice Ax nx cx], .agg #[.bool gy, .slice Ay ny cy]]) (by simp [results, Try.results17, go_sem, r0, r1, r2, r3, r4, r5]) rfl ⟨_, _, _, _, _, rfl, Qd.out, Qx.out, Qy.out, HXE.out, E.out⟩

end Go.Proofs.Ytljjijcmoafndaa
