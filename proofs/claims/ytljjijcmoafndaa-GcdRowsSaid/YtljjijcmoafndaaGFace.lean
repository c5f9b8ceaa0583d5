/-
  Contracts of package gcd's Of, All, Lcm.
-/
import Derived.Test.YtljjijcmoafndaaGCommon
import Derived.Test.YtljjijcmoafndaaZFaceC
import Derived.Test.YtljjijcmoafndaaZFaceD
import Derived.Test.YtljjijcmoafndaaHeldX
namespace Go.Proofs.Ytljjijcmoafndaa
open Go.RowKit
set_option linter.unusedSimpArgs false
set_option linter.unusedVariables false

theorem IsZ.short {w : World} {v : Value} {Z : Int} {j k : Nat} (h : IsZ w v Z j) (hZ : Z.natAbs < 1000000000 ^ k) : IsZ w v Z k := by
  obtain ⟨A, n, c, h1, h2, _⟩ := h
  exact ⟨A, n, c, h1, h2, M.limbs_length_le hZ⟩
theorem IsZ.len {w : World} {v : Value} {Z : Int} {k : Nat} (h : IsZ w v Z k) : Z.natAbs < 1000000000 ^ k := by
  obtain ⟨A, n, c, _, h2, h3⟩ := h
  exact Nat.lt_of_lt_of_le (M.limbs_len_lt _) (Nat.pow_le_pow_right (by omega) h3)
theorem Worth.len {w : World} {v : Value} {Z : Int} {k : Nat} (h : Worth w v Z k) : Z.natAbs < 1000000000 ^ k := by
  obtain ⟨g, A, n, c, l, _, _, h3, rfl⟩ := h
  have h4 := M.limbs_zv_len g l
  exact Nat.lt_of_lt_of_le (M.limbs_len_lt _) (Nat.pow_le_pow_right (by omega) (Nat.le_trans h4 h3))
theorem Box.list2 {w : World} {g : Nat} {t : TypeId} {g1 g2 : Bool} {A1 A2 : Option Addr} {n1 c1 n2 c2 : Nat} {l1 l2 : List Nat} (h : Box w g #[.bool g1, .slice A1 n1 c1, .bool g2, .slice A2 n2 c2] t)
    (h1 : Num w w.heap.size (.slice A1 n1 c1) l1) (h2 : Num w w.heap.size (.slice A2 n2 c2) l2) : ZList w (.slice (some ⟨g, 0, none⟩) 2 2) [(g1, l1), (g2, l2)] := by
  refine ⟨_, 2, 2, rfl, rfl, Nat.le_refl _, by unfold maxLen; omega, fun k x hx => ⟨_, rfl, h.lt, ?_⟩⟩
  rcases k with _ | _ | k
  · simp at hx; subst hx
    exact ⟨A1, n1, c1, h.cell (o := 0) rfl, h.cell (o := 1) rfl, h1⟩
  · simp at hx; subst hx
    exact ⟨A2, n2, c2, h.cell (o := 2) rfl, h.cell (o := 3) rfl, h2⟩
  · simp at hx
theorem M.gl_two (x y : Bool × List Nat) : M.gl [x, y] = Int.gcd (M.zv x.1 x.2) (M.zv y.1 y.2) := by
  show Nat.gcd _ (Nat.gcd _ 0) = _
  rw [Nat.gcd_zero_right, Nat.gcd_comm]; rfl

set_option maxHeartbeats 1000000 in
theorem gOf_w {w : World} {u v : Value} {Z Y : Int} {j : Nat} (hu : Worth w u Z j) (hv : Worth w v Y j) (hj : j ≤ 1000000) :
    Calls Try.prog 12 #[u, v] w (GivesZ w (Int.gcd Z Y : Nat) j) := by
  obtain ⟨g, A, n, c, l, rfl, hm, hlk, rfl⟩ := hu
  obtain ⟨g', A', n', c', l', rfl, hm', hlk', rfl⟩ := hv
  have N := hid hm
  have N' := hid hm'
  have HK := hid hlk
  have HK' := hid hlk'
  have HJ := hid hj
  clear hm hm' hlk hlk' hj
  go_enter Try.func12, Try.ntmps12
  go_upto_region 1 with (fail)
  have E := hid ((((Ext.refl w).alloc' (.cells #[.bool g, .slice A n c] 24)).alloc' (.cells #[.bool g', .slice A' n' c'] 24)).alloc' (.cells #[.bool false, .slice none 0 0] 24))
  have B1 : Hid (Box (((w.alloc (.cells #[.bool g, .slice A n c] 24)).alloc (.cells #[.bool g', .slice A' n' c'] 24)).alloc (.cells #[.bool false, .slice none 0 0] 24)) (w.heap.size) #[.bool g, .slice A n c] 24) := hid (((Box.at_ (w := w) #[.bool g, .slice A n c] 24 (by simp)).alloc (.cells #[.bool g', .slice A' n' c'] 24)).alloc (.cells #[.bool false, .slice none 0 0] 24))
  have B2 : Hid (Box (((w.alloc (.cells #[.bool g, .slice A n c] 24)).alloc (.cells #[.bool g', .slice A' n' c'] 24)).alloc (.cells #[.bool false, .slice none 0 0] 24)) (w.heap.size + 1) #[.bool g', .slice A' n' c'] 24) := hid ((Box.at_ (w := (w.alloc (.cells #[.bool g, .slice A n c] 24))) #[.bool g', .slice A' n' c'] 24 (by simp)).alloc (.cells #[.bool false, .slice none 0 0] 24))
  have B3 : Hid (Box (((w.alloc (.cells #[.bool g, .slice A n c] 24)).alloc (.cells #[.bool g', .slice A' n' c'] 24)).alloc (.cells #[.bool false, .slice none 0 0] 24)) (w.heap.size + 2) #[.bool false, .slice none 0 0] 24) := hid (Box.at_ (w := ((w.alloc (.cells #[.bool g, .slice A n c] 24)).alloc (.cells #[.bool g', .slice A' n' c'] 24))) #[.bool false, .slice none 0 0] 24 (by simp))
  replace N := hid (N.out.up E.out)
  replace N' := hid (N'.out.up E.out)
  refine wp_region_T [(0, 0), (1, 0), (2, 1), (3, 1), (4, 4)] (by kernel_rfl) fun wd hb => ?_
  replace E := hid (E.out.trans hb)
  replace B1 := hid (B1.out.up hb)
  replace B2 := hid (B2.out.up hb)
  replace B3 := hid (B3.out.up hb)
  replace N := hid (N.out.up hb)
  replace N' := hid (N'.out.up hb)
  clear hb
  refine WE.pure (d := some 5) rfl rfl (by rfl) (v := (.agg #[.bool g, .slice A n c])) (fun w' hk => ?_) ?_
  · have c0 := hk.cell (B1.out.cell (o := 0) (v := .bool g) rfl); have c1 := hk.cell (B1.out.cell (o := 1) (v := .slice A n c) rfl); go_simp
  simp only [Act.put, List.setIfInBounds_toArray, List.set_cons_zero, List.set_cons_succ]
  refine WE.pure (d := some 6) rfl rfl (by rfl) (v := (.agg #[.bool g', .slice A' n' c'])) (fun w' hk => ?_) ?_
  · have c0 := hk.cell (B2.out.cell (o := 0) (v := .bool g') rfl); have c1 := hk.cell (B2.out.cell (o := 1) (v := .slice A' n' c') rfl); go_simp
  simp only [Act.put, List.setIfInBounds_toArray, List.set_cons_zero, List.set_cons_succ]
  refine WE.new (d := some 7) (cs := #[.bool g, .slice A n c, .bool g', .slice A' n' c']) (t := 24) (v := fun g => (.slice (some ⟨g, 0, none⟩) 2 2)) rfl rfl (by rfl) (fun w => by go_simp) fun gL1 wv hx0 hbox hge => ?_
  have HNL1B1 := hid (show gL1 ≠ (w.heap.size) by have := B1.out.lt; omega)
  have HNL1B2 := hid (show gL1 ≠ (w.heap.size + 1) by have := B2.out.lt; omega)
  have HNL1B3 := hid (show gL1 ≠ (w.heap.size + 2) by have := B3.out.lt; omega)
  have HGL1 := hid (show w.heap.size ≤ gL1 by have := E.out.size; omega)
  replace E := hid (E.out.trans hx0)
  replace B1 := hid (B1.out.up hx0)
  replace B2 := hid (B2.out.up hx0)
  replace B3 := hid (B3.out.up hx0)
  replace N := hid (N.out.up hx0)
  replace N' := hid (N'.out.up hx0)
  have L1 : Hid (Box wv gL1 #[.bool g, .slice A n c, .bool g', .slice A' n' c'] 24) := hid hbox
  clear hx0 hbox hge
  simp only [Act.put, List.setIfInBounds_toArray, List.set_cons_zero, List.set_cons_succ]
  refine WE.call (d := some 8) rfl rfl (by rfl) (f := 28) (args := #[(.slice (some ⟨gL1, 0, none⟩) 2 2)]) (by go_simp) ?_
  refine (common_w (ls := [(g, l), (g', l')]) (K := j) (L1.out.list2 N.out N'.out) (fun x hx => by simp at hx; rcases hx with rfl | rfl; exact HK.out; exact HK'.out) HJ.out).mono ?_
  rintro e wn ⟨vx, rfl, hx, hb⟩
  obtain ⟨g3, A3, n3, c3, rfl, hs3, hr3⟩ := hx.form
  clear hx
  refine ⟨_, rfl, hb, ?_⟩
  replace E := hid (E.out.trans hb)
  replace B1 := hid (B1.out.up hb)
  replace B2 := hid (B2.out.up hb)
  replace B3 := hid (B3.out.up hb)
  replace L1 := hid (L1.out.up hb)
  replace N := hid (N.out.up hb)
  replace N' := hid (N'.out.up hb)
  have HS3 := hid hs3
  have R3 := hid hr3
  clear hb hs3 hr3
  simp only [Act.put, List.setIfInBounds_toArray, List.set_cons_zero, List.set_cons_succ]
  clear L1
  refine WE.store2 (g := (w.heap.size + 2)) (x := .bool g3) (y := .slice A3 n3 c3) (t := 24) rfl rfl (by rfl) (fun w hb => ?_) B3.out (by rfl) fun ws hk hs => ?_
  · have c0 := hb.cell (o := 0) (v := .bool false) rfl; have f0 := hb.free 0; have c1 := hb.cell (o := 1) (v := .slice none 0 0) rfl; have f1 := hb.free 1; go_simp
  intro hbx
  replace E := hid (E.out.keptG hk (by simp))
  replace B1 := hid (B1.out.kept hk (by simp))
  replace B2 := hid (B2.out.kept hk (by simp))
  replace B3 := hid hbx
  replace N := hid (N.out.kz hs)
  replace N' := hid (N'.out.kz hs)
  replace R3 := hid (R3.out.kz hs)
  clear hk hs hbx
  refine WE.done ?_
  have r0 := B3.out.cell (o := 0) (v := .bool g3) rfl
  have r1 := B3.out.cell (o := 1) (v := .slice A3 n3 c3) rfl
  go_wp2
  exact bodyPost_ret (v := .agg #[.bool g3, .slice A3 n3 c3]) (by simp [results, Try.results12, go_sem, r0, r1]) rfl ⟨_, rfl, by rw [← M.gl_two (g, l) (g', l')]; exact IsZ.mk HS3.out R3.out, E.out⟩

set_option maxHeartbeats 1000000 in
theorem gAll_w {w : World} {v : Value} {ls : List (Bool × List Nat)} {K : Nat} (hl : ZList w v ls) (hs : ∀ x ∈ ls, x.2.length ≤ K) (hK : K ≤ 1000000) :
    Calls Try.prog 15 #[v] w (GivesZ w (M.gl ls : Int) K) := by
  obtain ⟨A, n, c, rfl⟩ := hl.shape
  have HL := hid hl
  have HS := hid hs
  have HK := hid hK
  clear hl hs hK
  go_enter Try.func15, Try.ntmps15
  go_upto_region 1 with (fail)
  have E := hid ((Ext.refl w).alloc' (.cells #[.bool false, .slice none 0 0] 24))
  have B1 : Hid (Box (w.alloc (.cells #[.bool false, .slice none 0 0] 24)) (w.heap.size) #[.bool false, .slice none 0 0] 24) := hid (Box.at_ (w := w) #[.bool false, .slice none 0 0] 24 (by simp))
  replace HL := hid (HL.out.up E.out)
  refine wp_region_T [(0, 0), (1, 1), (2, 4)] (by kernel_rfl) fun wd hb => ?_
  replace E := hid (E.out.trans hb)
  replace B1 := hid (B1.out.up hb)
  replace HL := hid (HL.out.up hb)
  clear hb
  refine WE.pure (d := some 3) rfl rfl (by rfl) (v := (.slice A n c)) (fun w' hk => ?_) ?_
  · go_simp
  simp only [Act.put, List.setIfInBounds_toArray, List.set_cons_zero, List.set_cons_succ]
  refine WE.call (d := some 4) rfl rfl (by rfl) (f := 28) (args := #[(.slice A n c)]) (by go_simp) ?_
  refine (common_w HL.out HS.out HK.out).mono ?_
  rintro e wn ⟨vx, rfl, hx, hb⟩
  obtain ⟨g3, A3, n3, c3, rfl, hs3, hr3⟩ := hx.form
  clear hx
  refine ⟨_, rfl, hb, ?_⟩
  replace E := hid (E.out.trans hb)
  replace B1 := hid (B1.out.up hb)
  replace HL := hid (HL.out.up hb)
  have HS3 := hid hs3
  have R3 := hid hr3
  clear hb hs3 hr3
  simp only [Act.put, List.setIfInBounds_toArray, List.set_cons_zero, List.set_cons_succ]
  clear HL
  refine WE.store2 (g := (w.heap.size)) (x := .bool g3) (y := .slice A3 n3 c3) (t := 24) rfl rfl (by rfl) (fun w hb => ?_) B1.out (by rfl) fun ws hk hs => ?_
  · have c0 := hb.cell (o := 0) (v := .bool false) rfl; have f0 := hb.free 0; have c1 := hb.cell (o := 1) (v := .slice none 0 0) rfl; have f1 := hb.free 1; go_simp
  intro hbx
  replace E := hid (E.out.keptG hk (by simp))
  replace B1 := hid hbx
  replace R3 := hid (R3.out.kz hs)
  clear hk hs hbx
  refine WE.done ?_
  have r0 := B1.out.cell (o := 0) (v := .bool g3) rfl
  have r1 := B1.out.cell (o := 1) (v := .slice A3 n3 c3) rfl
  go_wp2
  exact bodyPost_ret (v := .agg #[.bool g3, .slice A3 n3 c3]) (by simp [results, Try.results15, go_sem, r0, r1]) rfl ⟨_, rfl, IsZ.mk HS3.out R3.out, E.out⟩

theorem lcm_parts (a b : Int) : ((a.natAbs : Int)).fdiv ((Int.gcd a b : Nat) : Int) * (b.natAbs : Int) = (Int.lcm a b : Nat) := by
  rw [← Int.ofNat_fdiv, ← Int.natCast_mul]
  congr 1
  show a.natAbs / Nat.gcd a.natAbs b.natAbs * b.natAbs = a.natAbs * b.natAbs / Nat.gcd a.natAbs b.natAbs
  rw [Nat.mul_comm, ← Nat.mul_div_assoc _ (Nat.gcd_dvd_left _ _), Nat.mul_comm]

set_option maxHeartbeats 2000000 in
theorem gLcm_w {w : World} {u v : Value} {Z Y : Int} {j : Nat} (hu : Worth w u Z j) (hv : Worth w v Y j) (hj : j ≤ 1000000) (hj2 : j < 60) :
    Calls Try.prog 13 #[u, v] w (GivesZ w (Int.lcm Z Y : Nat) (max j 3 + 1 + j)) := by
  obtain ⟨g, A, n, c, l, rfl, hm, hlk, rfl⟩ := hu
  obtain ⟨g', A', n', c', l', rfl, hm', hlk', rfl⟩ := hv
  have N := hid hm
  have N' := hid hm'
  have HK := hid hlk
  have HK' := hid hlk'
  have HJ := hid hj
  clear hm hm' hlk hlk' hj
  have R := hid (show Worth w (.agg #[.bool g, .slice A n c]) (M.zv g l) j from ⟨g, A, n, c, l, rfl, N.out, HK.out, rfl⟩)
  have R' := hid (show Worth w (.agg #[.bool g', .slice A' n' c']) (M.zv g' l') j from ⟨g', A', n', c', l', rfl, N'.out, HK'.out, rfl⟩)
  have HJ2 := hid hj2
  clear hj2
  go_enter Try.func13, Try.ntmps13
  go_upto_region 1 with (fail)
  have E := hid ((((Ext.refl w).alloc' (.cells #[.bool g, .slice A n c] 24)).alloc' (.cells #[.bool g', .slice A' n' c'] 24)).alloc' (.cells #[.bool false, .slice none 0 0] 24))
  have B1 : Hid (Box (((w.alloc (.cells #[.bool g, .slice A n c] 24)).alloc (.cells #[.bool g', .slice A' n' c'] 24)).alloc (.cells #[.bool false, .slice none 0 0] 24)) (w.heap.size) #[.bool g, .slice A n c] 24) := hid (((Box.at_ (w := w) #[.bool g, .slice A n c] 24 (by simp)).alloc (.cells #[.bool g', .slice A' n' c'] 24)).alloc (.cells #[.bool false, .slice none 0 0] 24))
  have B2 : Hid (Box (((w.alloc (.cells #[.bool g, .slice A n c] 24)).alloc (.cells #[.bool g', .slice A' n' c'] 24)).alloc (.cells #[.bool false, .slice none 0 0] 24)) (w.heap.size + 1) #[.bool g', .slice A' n' c'] 24) := hid ((Box.at_ (w := (w.alloc (.cells #[.bool g, .slice A n c] 24))) #[.bool g', .slice A' n' c'] 24 (by simp)).alloc (.cells #[.bool false, .slice none 0 0] 24))
  have B3 : Hid (Box (((w.alloc (.cells #[.bool g, .slice A n c] 24)).alloc (.cells #[.bool g', .slice A' n' c'] 24)).alloc (.cells #[.bool false, .slice none 0 0] 24)) (w.heap.size + 2) #[.bool false, .slice none 0 0] 24) := hid (Box.at_ (w := ((w.alloc (.cells #[.bool g, .slice A n c] 24)).alloc (.cells #[.bool g', .slice A' n' c'] 24))) #[.bool false, .slice none 0 0] 24 (by simp))
  replace N := hid (N.out.up E.out)
  replace N' := hid (N'.out.up E.out)
  replace R := hid (R.out.up E.out)
  replace R' := hid (R'.out.up E.out)
  refine wp_region_X [] [(0, 0), (2, 0), (3, 0), (1, 6), (4, 2), (5, 2), (6, 2), (7, 0), (8, 0), (9, 5), (10, 3), (11, 3), (12, 4), (13, 4)] (fun _ => (24, #[.bool false, .slice none 0 0])) rfl (by kernel_rfl) (by intro j hj; simp [pend] at hj; rcases hj with rfl | rfl <;> exact ⟨_, rfl, rfl, rfl, fun w => by go_simp⟩) (fun _ _ d _ _ => by cases d <;> exact Iff.rfl) fun wd hb => ?_
  replace E := hid (E.out.trans hb)
  replace B1 := hid (B1.out.up hb)
  replace B2 := hid (B2.out.up hb)
  replace B3 := hid (B3.out.up hb)
  replace N := hid (N.out.up hb)
  replace N' := hid (N'.out.up hb)
  replace R := hid (R.out.up hb)
  replace R' := hid (R'.out.up hb)
  clear hb
  have EX := hid (Ext.refl wd)
  have HL1B1 := hid B1.out.lt
  have HL1B2 := hid B2.out.lt
  have HL1B3 := hid B3.out.lt
  have HW1 := hid (show w.heap.size ≤ wd.heap.size from E.out.size)
  refine WX.pure (d := some 8) rfl rfl (by rfl) (v := (.agg #[.bool g, .slice A n c])) (fun w' hk => ?_) ?_
  · have c0 := hk.cell (B1.out.cell (o := 0) (v := .bool g) rfl); have c1 := hk.cell (B1.out.cell (o := 1) (v := .slice A n c) rfl); go_simp
  simp only [Act.put, List.setIfInBounds_toArray, List.set_cons_zero, List.set_cons_succ]
  refine WX.pure (d := some 10) rfl rfl (by rfl) (v := (.agg #[.bool g, .slice A n c])) (fun w' hk => ?_) ?_
  · have c0 := hk.cell (B1.out.cell (o := 0) (v := .bool g) rfl); have c1 := hk.cell (B1.out.cell (o := 1) (v := .slice A n c) rfl); go_simp
  simp only [Act.put, List.setIfInBounds_toArray, List.set_cons_zero, List.set_cons_succ]
  refine WX.pure (d := some 11) rfl rfl (by rfl) (v := (.agg #[.bool g', .slice A' n' c'])) (fun w' hk => ?_) ?_
  · have c0 := hk.cell (B2.out.cell (o := 0) (v := .bool g') rfl); have c1 := hk.cell (B2.out.cell (o := 1) (v := .slice A' n' c') rfl); go_simp
  simp only [Act.put, List.setIfInBounds_toArray, List.set_cons_zero, List.set_cons_succ]
  refine WX.fork ?_ ?_
  · refine WX.callR (d := some 9) rfl rfl (by rfl) (f := 30) (args := #[(.agg #[.bool g, .slice A n c])]) (fun w => by go_simp) (fun wx hx0 => ?_)
    replace E := hid (E.out.trans hx0)
    replace EX := hid (EX.out.trans hx0)
    replace B1 := hid (B1.out.up hx0)
    replace B2 := hid (B2.out.up hx0)
    replace B3 := hid (B3.out.up hx0)
    replace N := hid (N.out.up hx0)
    replace N' := hid (N'.out.up hx0)
    replace R := hid (R.out.up hx0)
    replace R' := hid (R'.out.up hx0)
    clear hx0
    refine (abs_w R.out (by have := HJ.out; omega)).mono ?_
    rintro e wn ⟨vx, rfl, hx, hb⟩
    obtain ⟨g1, A1, n1, c1, rfl, hs1, hr1⟩ := hx.form
    clear hx
    refine ⟨_, rfl, hb, ?_⟩
    replace E := hid (E.out.trans hb)
    replace EX := hid (EX.out.trans hb)
    replace B1 := hid (B1.out.up hb)
    replace B2 := hid (B2.out.up hb)
    replace B3 := hid (B3.out.up hb)
    replace N := hid (N.out.up hb)
    replace N' := hid (N'.out.up hb)
    replace R := hid (R.out.up hb)
    replace R' := hid (R'.out.up hb)
    have HS1 := hid hs1
    have R1 := hid hr1
    clear hb hs1 hr1
    simp only [Act.put, List.setIfInBounds_toArray, List.set_cons_zero, List.set_cons_succ]
    refine WX.newR (d := some 12) (cs := #[.bool g, .slice A n c, .bool g', .slice A' n' c']) (t := 24) (v := fun g => (.slice (some ⟨g, 0, none⟩) 2 2)) rfl rfl (by rfl) (fun w => by go_simp) fun gL1 wv hx0 hbox hge => ?_
    have HNL1B1 := hid (show gL1 ≠ (w.heap.size) by have := B1.out.lt; omega)
    have HNL1B2 := hid (show gL1 ≠ (w.heap.size + 1) by have := B2.out.lt; omega)
    have HNL1B3 := hid (show gL1 ≠ (w.heap.size + 2) by have := B3.out.lt; omega)
    have HGL1 := hid (show w.heap.size ≤ gL1 by have := E.out.size; omega)
    have HBL1 := hid (show wd.heap.size ≤ gL1 by have := EX.out.size; omega)
    replace E := hid (E.out.trans hx0)
    replace EX := hid (EX.out.trans hx0)
    replace B1 := hid (B1.out.up hx0)
    replace B2 := hid (B2.out.up hx0)
    replace B3 := hid (B3.out.up hx0)
    replace N := hid (N.out.up hx0)
    replace N' := hid (N'.out.up hx0)
    replace R := hid (R.out.up hx0)
    replace R' := hid (R'.out.up hx0)
    replace R1 := hid (R1.out.up hx0)
    have L1 : Hid (Box wv gL1 #[.bool g, .slice A n c, .bool g', .slice A' n' c'] 24) := hid hbox
    clear hx0 hbox hge
    simp only [Act.put, List.setIfInBounds_toArray, List.set_cons_zero, List.set_cons_succ]
    refine WX.callR (d := some 13) rfl rfl (by rfl) (f := 28) (args := #[(.slice (some ⟨gL1, 0, none⟩) 2 2)]) (fun w => by go_simp) (fun wx hx0 => ?_)
    replace E := hid (E.out.trans hx0)
    replace EX := hid (EX.out.trans hx0)
    replace B1 := hid (B1.out.up hx0)
    replace B2 := hid (B2.out.up hx0)
    replace B3 := hid (B3.out.up hx0)
    replace L1 := hid (L1.out.up hx0)
    replace N := hid (N.out.up hx0)
    replace N' := hid (N'.out.up hx0)
    replace R := hid (R.out.up hx0)
    replace R' := hid (R'.out.up hx0)
    replace R1 := hid (R1.out.up hx0)
    clear hx0
    refine (common_w (ls := [(g, l), (g', l')]) (K := j) (L1.out.list2 N.out N'.out) (fun x hx => by simp at hx; rcases hx with rfl | rfl; exact HK.out; exact HK'.out) HJ.out).mono ?_
    rintro e wn ⟨vx, rfl, hx, hb⟩
    obtain ⟨g2, A2, n2, c2, rfl, hs2, hr2⟩ := hx.form
    clear hx
    refine ⟨_, rfl, hb, ?_⟩
    replace E := hid (E.out.trans hb)
    replace EX := hid (EX.out.trans hb)
    replace B1 := hid (B1.out.up hb)
    replace B2 := hid (B2.out.up hb)
    replace B3 := hid (B3.out.up hb)
    replace L1 := hid (L1.out.up hb)
    replace N := hid (N.out.up hb)
    replace N' := hid (N'.out.up hb)
    replace R := hid (R.out.up hb)
    replace R' := hid (R'.out.up hb)
    replace R1 := hid (R1.out.up hb)
    have HS2 := hid hs2
    have R2 := hid hr2
    clear hb hs2 hr2
    simp only [Act.put, List.setIfInBounds_toArray, List.set_cons_zero, List.set_cons_succ]
    clear L1
    refine WX.callR (d := some 14) rfl rfl (by rfl) (f := 29) (args := #[(.agg #[.bool g1, .slice A1 n1 c1]), (.agg #[.bool g2, .slice A2 n2 c2])]) (fun w => by go_simp) (fun wx hx0 => ?_)
    replace E := hid (E.out.trans hx0)
    replace EX := hid (EX.out.trans hx0)
    replace B1 := hid (B1.out.up hx0)
    replace B2 := hid (B2.out.up hx0)
    replace B3 := hid (B3.out.up hx0)
    replace N := hid (N.out.up hx0)
    replace N' := hid (N'.out.up hx0)
    replace R := hid (R.out.up hx0)
    replace R' := hid (R'.out.up hx0)
    replace R1 := hid (R1.out.up hx0)
    replace R2 := hid (R2.out.up hx0)
    clear hx0
    refine (floor_w (IsZ.mk HS1.out R1.out).worth (IsZ.to (IsZ.mk HS2.out R2.out) (by rw [M.gl_two])).worth (by have := HJ.out; omega) (by have := HJ.out; omega)).mono ?_
    rintro e wn ⟨vx, vy, rfl, hx, hy, hb⟩
    obtain ⟨g3, A3, n3, c3, rfl⟩ := hx.worth.shape
    obtain ⟨g4, A4, n4, c4, rfl⟩ := hy.worth.shape
    clear hy
    refine ⟨_, rfl, hb, ?_⟩
    replace E := hid (E.out.trans hb)
    replace EX := hid (EX.out.trans hb)
    replace B1 := hid (B1.out.up hb)
    replace B2 := hid (B2.out.up hb)
    replace B3 := hid (B3.out.up hb)
    replace N := hid (N.out.up hb)
    replace N' := hid (N'.out.up hb)
    replace R := hid (R.out.up hb)
    replace R' := hid (R'.out.up hb)
    replace R1 := hid (R1.out.up hb)
    replace R2 := hid (R2.out.up hb)
    have Q3 := hid hx
    clear hb hx
    simp only [Act.put, List.setIfInBounds_toArray, List.set_cons_zero, List.set_cons_succ]
    refine WX.pure (d := some 7) rfl rfl (by rfl) (v := (.tuple #[(.agg #[.bool g3, .slice A3 n3 c3]), (.agg #[.bool g4, .slice A4 n4 c4])])) (fun w' hk => ?_) ?_
    · go_simp
    simp only [Act.put, List.setIfInBounds_toArray, List.set_cons_zero, List.set_cons_succ]
    refine WX.pure (d := some 15) rfl rfl (by rfl) (v := (.agg #[.bool g3, .slice A3 n3 c3])) (fun w' hk => ?_) ?_
    · go_simp
    simp only [Act.put, List.setIfInBounds_toArray, List.set_cons_zero, List.set_cons_succ]
    refine WX.any (d := some 16) rfl rfl (by rfl) (v := (.agg #[.bool g4, .slice A4 n4 c4])) (fun w' hk => ?_) ?_
    · go_simp
    simp only [Act.put, List.setIfInBounds_toArray, List.set_cons_zero, List.set_cons_succ]
    refine WX.var (d := some 5) rfl fun gC1 wv hx0 hbox hge hng => ?_
    have HNC1B1 := hid (show gC1 ≠ (w.heap.size) by have := HL1B1.out; omega)
    have HNC1B2 := hid (show gC1 ≠ (w.heap.size + 1) by have := HL1B2.out; omega)
    have HNC1B3 := hid (show gC1 ≠ (w.heap.size + 2) by have := HL1B3.out; omega)
    have HGC1 := hid (show w.heap.size ≤ gC1 by have := HW1.out; omega)
    replace E := hid (E.out.trans hx0)
    replace EX := hid (EX.out.trans hx0)
    replace B1 := hid (B1.out.up hx0)
    replace B2 := hid (B2.out.up hx0)
    replace B3 := hid (B3.out.up hx0)
    replace N := hid (N.out.up hx0)
    replace N' := hid (N'.out.up hx0)
    replace R := hid (R.out.up hx0)
    replace R' := hid (R'.out.up hx0)
    replace R1 := hid (R1.out.up hx0)
    replace R2 := hid (R2.out.up hx0)
    replace Q3 := hid (Q3.out.up hx0)
    have C1 : Hid (Box wv gC1 #[.bool false, .slice none 0 0] 24) := hid hbox
    have HBC1 := hid hge
    clear hx0 hbox hge hng
    simp only [Act.put, List.setIfInBounds_toArray, List.set_cons_zero, List.set_cons_succ]
    refine WX.var (d := some 6) rfl fun gC2 wv hx0 hbox hge hng => ?_
    have HNC2B1 := hid (show gC2 ≠ (w.heap.size) by have := HL1B1.out; omega)
    have HNC2B2 := hid (show gC2 ≠ (w.heap.size + 1) by have := HL1B2.out; omega)
    have HNC2B3 := hid (show gC2 ≠ (w.heap.size + 2) by have := HL1B3.out; omega)
    have HNC2C1 := hid (show gC2 ≠ gC1 by intro e; exact hng (by simp [e]))
    have HGC2 := hid (show w.heap.size ≤ gC2 by have := HW1.out; omega)
    replace E := hid (E.out.trans hx0)
    replace EX := hid (EX.out.trans hx0)
    replace B1 := hid (B1.out.up hx0)
    replace B2 := hid (B2.out.up hx0)
    replace B3 := hid (B3.out.up hx0)
    replace C1 := hid (C1.out.up hx0)
    replace N := hid (N.out.up hx0)
    replace N' := hid (N'.out.up hx0)
    replace R := hid (R.out.up hx0)
    replace R' := hid (R'.out.up hx0)
    replace R1 := hid (R1.out.up hx0)
    replace R2 := hid (R2.out.up hx0)
    replace Q3 := hid (Q3.out.up hx0)
    have C2 : Hid (Box wv gC2 #[.bool false, .slice none 0 0] 24) := hid hbox
    have HBC2 := hid hge
    clear hx0 hbox hge hng
    simp only [Act.put, List.setIfInBounds_toArray, List.set_cons_zero, List.set_cons_succ]
    clear EX
    refine WX.store2 (g := gC1) (x := .bool g3) (y := .slice A3 n3 c3) (t := 24) rfl rfl (by rfl) (fun w hb => ?_) C1.out (by rfl) (.inr HBC1.out) fun ws hk hs => ?_
    · have c0 := hb.cell (o := 0) (v := .bool false) rfl; have f0 := hb.free 0; have c1 := hb.cell (o := 1) (v := .slice none 0 0) rfl; have f1 := hb.free 1; go_simp
    intro hbx
    replace E := hid (E.out.keptG hk HGC1.out)
    replace B1 := hid (B1.out.kept hk (by simpa using HNC1B1.out.symm))
    replace B2 := hid (B2.out.kept hk (by simpa using HNC1B2.out.symm))
    replace B3 := hid (B3.out.kept hk (by simpa using HNC1B3.out.symm))
    replace C1 := hid hbx
    replace C2 := hid (C2.out.kept hk (by simpa using HNC2C1.out))
    replace N := hid (N.out.kz hs)
    replace N' := hid (N'.out.kz hs)
    replace R := hid (R.out.kz hs)
    replace R' := hid (R'.out.kz hs)
    replace R1 := hid (R1.out.kz hs)
    replace R2 := hid (R2.out.kz hs)
    replace Q3 := hid (Q3.out.kz hs)
    clear hk hs hbx
    refine WX.store2 (g := gC2) (x := .bool g4) (y := .slice A4 n4 c4) (t := 24) rfl rfl (by rfl) (fun w hb => ?_) C2.out (by rfl) (.inr HBC2.out) fun ws hk hs => ?_
    · have c0 := hb.cell (o := 0) (v := .bool false) rfl; have f0 := hb.free 0; have c1 := hb.cell (o := 1) (v := .slice none 0 0) rfl; have f1 := hb.free 1; go_simp
    intro hbx
    replace E := hid (E.out.keptG hk HGC2.out)
    replace B1 := hid (B1.out.kept hk (by simpa using HNC2B1.out.symm))
    replace B2 := hid (B2.out.kept hk (by simpa using HNC2B2.out.symm))
    replace B3 := hid (B3.out.kept hk (by simpa using HNC2B3.out.symm))
    replace C1 := hid (C1.out.kept hk (by simpa using HNC2C1.out.symm))
    replace C2 := hid hbx
    replace N := hid (N.out.kz hs)
    replace N' := hid (N'.out.kz hs)
    replace R := hid (R.out.kz hs)
    replace R' := hid (R'.out.kz hs)
    replace R1 := hid (R1.out.kz hs)
    replace R2 := hid (R2.out.kz hs)
    replace Q3 := hid (Q3.out.kz hs)
    clear hk hs hbx
    refine WX.done ?_
    go_upto_region 2 with (fail)
    refine wp_region_E [(0, 0), (1, 0), (2, 1), (3, 1), (4, 4)] (fun _ => (0, #[])) rfl (by kernel_rfl) (by intro j hj; cases hj) (fun _ _ d _ _ => by cases d <;> exact Iff.rfl) fun wd hb => ?_
    replace E := hid (E.out.trans hb)
    replace B1 := hid (B1.out.up hb)
    replace B2 := hid (B2.out.up hb)
    replace B3 := hid (B3.out.up hb)
    replace C1 := hid (C1.out.up hb)
    replace C2 := hid (C2.out.up hb)
    replace N := hid (N.out.up hb)
    replace N' := hid (N'.out.up hb)
    replace R := hid (R.out.up hb)
    replace R' := hid (R'.out.up hb)
    replace R1 := hid (R1.out.up hb)
    replace R2 := hid (R2.out.up hb)
    replace Q3 := hid (Q3.out.up hb)
    clear hb
    refine WE.pure (d := some 17) rfl rfl (by rfl) (v := (.agg #[.bool g3, .slice A3 n3 c3])) (fun w' hk => ?_) ?_
    · have c0 := hk.cell (C1.out.cell (o := 0) (v := .bool g3) rfl); have c1 := hk.cell (C1.out.cell (o := 1) (v := .slice A3 n3 c3) rfl); go_simp
    simp only [Act.put, List.setIfInBounds_toArray, List.set_cons_zero, List.set_cons_succ]
    refine WE.pure (d := some 18) rfl rfl (by rfl) (v := (.agg #[.bool g', .slice A' n' c'])) (fun w' hk => ?_) ?_
    · have c0 := hk.cell (B2.out.cell (o := 0) (v := .bool g') rfl); have c1 := hk.cell (B2.out.cell (o := 1) (v := .slice A' n' c') rfl); go_simp
    simp only [Act.put, List.setIfInBounds_toArray, List.set_cons_zero, List.set_cons_succ]
    refine WE.call (d := some 19) rfl rfl (by rfl) (f := 30) (args := #[(.agg #[.bool g', .slice A' n' c'])]) (by go_simp) ?_
    refine (abs_w R'.out (by have := HJ.out; omega)).mono ?_
    rintro e wn ⟨vx, rfl, hx, hb⟩
    obtain ⟨g5, A5, n5, c5, rfl, hs5, hr5⟩ := hx.form
    clear hx
    refine ⟨_, rfl, hb, ?_⟩
    replace E := hid (E.out.trans hb)
    replace B1 := hid (B1.out.up hb)
    replace B2 := hid (B2.out.up hb)
    replace B3 := hid (B3.out.up hb)
    replace C1 := hid (C1.out.up hb)
    replace C2 := hid (C2.out.up hb)
    replace N := hid (N.out.up hb)
    replace N' := hid (N'.out.up hb)
    replace R := hid (R.out.up hb)
    replace R' := hid (R'.out.up hb)
    replace R1 := hid (R1.out.up hb)
    replace R2 := hid (R2.out.up hb)
    replace Q3 := hid (Q3.out.up hb)
    have HS5 := hid hs5
    have R5 := hid hr5
    clear hb hs5 hr5
    simp only [Act.put, List.setIfInBounds_toArray, List.set_cons_zero, List.set_cons_succ]
    refine WE.call (d := some 20) rfl rfl (by rfl) (f := 31) (args := #[(.agg #[.bool g3, .slice A3 n3 c3]), (.agg #[.bool g5, .slice A5 n5 c5])]) (by go_simp) ?_
    refine (mul_w Q3.out.worth (IsZ.mk HS5.out R5.out).worth (by have := HJ.out; omega) (by have := HJ.out; omega) (by have := HJ2.out; omega)).mono ?_
    rintro e wn ⟨vx, rfl, hx, hb⟩
    obtain ⟨g6, A6, n6, c6, rfl⟩ := hx.worth.shape
    refine ⟨_, rfl, hb, ?_⟩
    replace E := hid (E.out.trans hb)
    replace B1 := hid (B1.out.up hb)
    replace B2 := hid (B2.out.up hb)
    replace B3 := hid (B3.out.up hb)
    replace C1 := hid (C1.out.up hb)
    replace C2 := hid (C2.out.up hb)
    replace N := hid (N.out.up hb)
    replace N' := hid (N'.out.up hb)
    replace R := hid (R.out.up hb)
    replace R' := hid (R'.out.up hb)
    replace R1 := hid (R1.out.up hb)
    replace R2 := hid (R2.out.up hb)
    replace Q3 := hid (Q3.out.up hb)
    replace R5 := hid (R5.out.up hb)
    have Q6 := hid hx
    clear hb hx
    simp only [Act.put, List.setIfInBounds_toArray, List.set_cons_zero, List.set_cons_succ]
    refine WE.store2 (g := (w.heap.size + 2)) (x := .bool g6) (y := .slice A6 n6 c6) (t := 24) rfl rfl (by rfl) (fun w hb => ?_) B3.out (by rfl) fun ws hk hs => ?_
    · have c0 := hb.cell (o := 0) (v := .bool false) rfl; have f0 := hb.free 0; have c1 := hb.cell (o := 1) (v := .slice none 0 0) rfl; have f1 := hb.free 1; go_simp
    intro hbx
    replace E := hid (E.out.keptG hk (by simp))
    replace B1 := hid (B1.out.kept hk (by simp))
    replace B2 := hid (B2.out.kept hk (by simp))
    replace B3 := hid hbx
    replace C1 := hid (C1.out.kept hk (by simpa using HNC1B3.out))
    replace C2 := hid (C2.out.kept hk (by simpa using HNC2B3.out))
    replace N := hid (N.out.kz hs)
    replace N' := hid (N'.out.kz hs)
    replace R := hid (R.out.kz hs)
    replace R' := hid (R'.out.kz hs)
    replace R1 := hid (R1.out.kz hs)
    replace R2 := hid (R2.out.kz hs)
    replace Q3 := hid (Q3.out.kz hs)
    replace R5 := hid (R5.out.kz hs)
    replace Q6 := hid (Q6.out.kz hs)
    clear hk hs hbx
    refine WE.done ?_
    have r0 := B3.out.cell (o := 0) (v := .bool g6) rfl
    have r1 := B3.out.cell (o := 1) (v := .slice A6 n6 c6) rfl
    go_wp2
    exact bodyPost_ret (v := .agg #[.bool g6, .slice A6 n6 c6]) (by simp [results, Try.results13, go_sem, r0, r1]) rfl ⟨_, rfl, IsZ.to Q6.out (lcm_parts _ _), E.out⟩
  · refine WX.newR (d := some 12) (cs := #[.bool g, .slice A n c, .bool g', .slice A' n' c']) (t := 24) (v := fun g => (.slice (some ⟨g, 0, none⟩) 2 2)) rfl rfl (by rfl) (fun w => by go_simp) fun gL1 wv hx0 hbox hge => ?_
    have HNL1B1 := hid (show gL1 ≠ (w.heap.size) by have := B1.out.lt; omega)
    have HNL1B2 := hid (show gL1 ≠ (w.heap.size + 1) by have := B2.out.lt; omega)
    have HNL1B3 := hid (show gL1 ≠ (w.heap.size + 2) by have := B3.out.lt; omega)
    have HGL1 := hid (show w.heap.size ≤ gL1 by have := E.out.size; omega)
    have HBL1 := hid (show wd.heap.size ≤ gL1 by have := EX.out.size; omega)
    replace E := hid (E.out.trans hx0)
    replace EX := hid (EX.out.trans hx0)
    replace B1 := hid (B1.out.up hx0)
    replace B2 := hid (B2.out.up hx0)
    replace B3 := hid (B3.out.up hx0)
    replace N := hid (N.out.up hx0)
    replace N' := hid (N'.out.up hx0)
    replace R := hid (R.out.up hx0)
    replace R' := hid (R'.out.up hx0)
    have L1 : Hid (Box wv gL1 #[.bool g, .slice A n c, .bool g', .slice A' n' c'] 24) := hid hbox
    clear hx0 hbox hge
    simp only [Act.put, List.setIfInBounds_toArray, List.set_cons_zero, List.set_cons_succ]
    refine WX.callR (d := some 9) rfl rfl (by rfl) (f := 30) (args := #[(.agg #[.bool g, .slice A n c])]) (fun w => by go_simp) (fun wx hx0 => ?_)
    replace E := hid (E.out.trans hx0)
    replace EX := hid (EX.out.trans hx0)
    replace B1 := hid (B1.out.up hx0)
    replace B2 := hid (B2.out.up hx0)
    replace B3 := hid (B3.out.up hx0)
    replace L1 := hid (L1.out.up hx0)
    replace N := hid (N.out.up hx0)
    replace N' := hid (N'.out.up hx0)
    replace R := hid (R.out.up hx0)
    replace R' := hid (R'.out.up hx0)
    clear hx0
    refine (abs_w R.out (by have := HJ.out; omega)).mono ?_
    rintro e wn ⟨vx, rfl, hx, hb⟩
    obtain ⟨g1, A1, n1, c1, rfl, hs1, hr1⟩ := hx.form
    clear hx
    refine ⟨_, rfl, hb, ?_⟩
    replace E := hid (E.out.trans hb)
    replace EX := hid (EX.out.trans hb)
    replace B1 := hid (B1.out.up hb)
    replace B2 := hid (B2.out.up hb)
    replace B3 := hid (B3.out.up hb)
    replace L1 := hid (L1.out.up hb)
    replace N := hid (N.out.up hb)
    replace N' := hid (N'.out.up hb)
    replace R := hid (R.out.up hb)
    replace R' := hid (R'.out.up hb)
    have HS1 := hid hs1
    have R1 := hid hr1
    clear hb hs1 hr1
    simp only [Act.put, List.setIfInBounds_toArray, List.set_cons_zero, List.set_cons_succ]
    refine WX.callR (d := some 13) rfl rfl (by rfl) (f := 28) (args := #[(.slice (some ⟨gL1, 0, none⟩) 2 2)]) (fun w => by go_simp) (fun wx hx0 => ?_)
    replace E := hid (E.out.trans hx0)
    replace EX := hid (EX.out.trans hx0)
    replace B1 := hid (B1.out.up hx0)
    replace B2 := hid (B2.out.up hx0)
    replace B3 := hid (B3.out.up hx0)
    replace L1 := hid (L1.out.up hx0)
    replace N := hid (N.out.up hx0)
    replace N' := hid (N'.out.up hx0)
    replace R := hid (R.out.up hx0)
    replace R' := hid (R'.out.up hx0)
    replace R1 := hid (R1.out.up hx0)
    clear hx0
    refine (common_w (ls := [(g, l), (g', l')]) (K := j) (L1.out.list2 N.out N'.out) (fun x hx => by simp at hx; rcases hx with rfl | rfl; exact HK.out; exact HK'.out) HJ.out).mono ?_
    rintro e wn ⟨vx, rfl, hx, hb⟩
    obtain ⟨g2, A2, n2, c2, rfl, hs2, hr2⟩ := hx.form
    clear hx
    refine ⟨_, rfl, hb, ?_⟩
    replace E := hid (E.out.trans hb)
    replace EX := hid (EX.out.trans hb)
    replace B1 := hid (B1.out.up hb)
    replace B2 := hid (B2.out.up hb)
    replace B3 := hid (B3.out.up hb)
    replace L1 := hid (L1.out.up hb)
    replace N := hid (N.out.up hb)
    replace N' := hid (N'.out.up hb)
    replace R := hid (R.out.up hb)
    replace R' := hid (R'.out.up hb)
    replace R1 := hid (R1.out.up hb)
    have HS2 := hid hs2
    have R2 := hid hr2
    clear hb hs2 hr2
    simp only [Act.put, List.setIfInBounds_toArray, List.set_cons_zero, List.set_cons_succ]
    clear L1
    refine WX.callR (d := some 14) rfl rfl (by rfl) (f := 29) (args := #[(.agg #[.bool g1, .slice A1 n1 c1]), (.agg #[.bool g2, .slice A2 n2 c2])]) (fun w => by go_simp) (fun wx hx0 => ?_)
    replace E := hid (E.out.trans hx0)
    replace EX := hid (EX.out.trans hx0)
    replace B1 := hid (B1.out.up hx0)
    replace B2 := hid (B2.out.up hx0)
    replace B3 := hid (B3.out.up hx0)
    replace N := hid (N.out.up hx0)
    replace N' := hid (N'.out.up hx0)
    replace R := hid (R.out.up hx0)
    replace R' := hid (R'.out.up hx0)
    replace R1 := hid (R1.out.up hx0)
    replace R2 := hid (R2.out.up hx0)
    clear hx0
    refine (floor_w (IsZ.mk HS1.out R1.out).worth (IsZ.to (IsZ.mk HS2.out R2.out) (by rw [M.gl_two])).worth (by have := HJ.out; omega) (by have := HJ.out; omega)).mono ?_
    rintro e wn ⟨vx, vy, rfl, hx, hy, hb⟩
    obtain ⟨g3, A3, n3, c3, rfl⟩ := hx.worth.shape
    obtain ⟨g4, A4, n4, c4, rfl⟩ := hy.worth.shape
    clear hy
    refine ⟨_, rfl, hb, ?_⟩
    replace E := hid (E.out.trans hb)
    replace EX := hid (EX.out.trans hb)
    replace B1 := hid (B1.out.up hb)
    replace B2 := hid (B2.out.up hb)
    replace B3 := hid (B3.out.up hb)
    replace N := hid (N.out.up hb)
    replace N' := hid (N'.out.up hb)
    replace R := hid (R.out.up hb)
    replace R' := hid (R'.out.up hb)
    replace R1 := hid (R1.out.up hb)
    replace R2 := hid (R2.out.up hb)
    have Q3 := hid hx
    clear hb hx
    simp only [Act.put, List.setIfInBounds_toArray, List.set_cons_zero, List.set_cons_succ]
    refine WX.pure (d := some 7) rfl rfl (by rfl) (v := (.tuple #[(.agg #[.bool g3, .slice A3 n3 c3]), (.agg #[.bool g4, .slice A4 n4 c4])])) (fun w' hk => ?_) ?_
    · go_simp
    simp only [Act.put, List.setIfInBounds_toArray, List.set_cons_zero, List.set_cons_succ]
    refine WX.pure (d := some 15) rfl rfl (by rfl) (v := (.agg #[.bool g3, .slice A3 n3 c3])) (fun w' hk => ?_) ?_
    · go_simp
    simp only [Act.put, List.setIfInBounds_toArray, List.set_cons_zero, List.set_cons_succ]
    refine WX.any (d := some 16) rfl rfl (by rfl) (v := (.agg #[.bool g4, .slice A4 n4 c4])) (fun w' hk => ?_) ?_
    · go_simp
    simp only [Act.put, List.setIfInBounds_toArray, List.set_cons_zero, List.set_cons_succ]
    refine WX.var (d := some 5) rfl fun gC1 wv hx0 hbox hge hng => ?_
    have HNC1B1 := hid (show gC1 ≠ (w.heap.size) by have := HL1B1.out; omega)
    have HNC1B2 := hid (show gC1 ≠ (w.heap.size + 1) by have := HL1B2.out; omega)
    have HNC1B3 := hid (show gC1 ≠ (w.heap.size + 2) by have := HL1B3.out; omega)
    have HGC1 := hid (show w.heap.size ≤ gC1 by have := HW1.out; omega)
    replace E := hid (E.out.trans hx0)
    replace EX := hid (EX.out.trans hx0)
    replace B1 := hid (B1.out.up hx0)
    replace B2 := hid (B2.out.up hx0)
    replace B3 := hid (B3.out.up hx0)
    replace N := hid (N.out.up hx0)
    replace N' := hid (N'.out.up hx0)
    replace R := hid (R.out.up hx0)
    replace R' := hid (R'.out.up hx0)
    replace R1 := hid (R1.out.up hx0)
    replace R2 := hid (R2.out.up hx0)
    replace Q3 := hid (Q3.out.up hx0)
    have C1 : Hid (Box wv gC1 #[.bool false, .slice none 0 0] 24) := hid hbox
    have HBC1 := hid hge
    clear hx0 hbox hge hng
    simp only [Act.put, List.setIfInBounds_toArray, List.set_cons_zero, List.set_cons_succ]
    refine WX.var (d := some 6) rfl fun gC2 wv hx0 hbox hge hng => ?_
    have HNC2B1 := hid (show gC2 ≠ (w.heap.size) by have := HL1B1.out; omega)
    have HNC2B2 := hid (show gC2 ≠ (w.heap.size + 1) by have := HL1B2.out; omega)
    have HNC2B3 := hid (show gC2 ≠ (w.heap.size + 2) by have := HL1B3.out; omega)
    have HNC2C1 := hid (show gC2 ≠ gC1 by intro e; exact hng (by simp [e]))
    have HGC2 := hid (show w.heap.size ≤ gC2 by have := HW1.out; omega)
    replace E := hid (E.out.trans hx0)
    replace EX := hid (EX.out.trans hx0)
    replace B1 := hid (B1.out.up hx0)
    replace B2 := hid (B2.out.up hx0)
    replace B3 := hid (B3.out.up hx0)
    replace C1 := hid (C1.out.up hx0)
    replace N := hid (N.out.up hx0)
    replace N' := hid (N'.out.up hx0)
    replace R := hid (R.out.up hx0)
    replace R' := hid (R'.out.up hx0)
    replace R1 := hid (R1.out.up hx0)
    replace R2 := hid (R2.out.up hx0)
    replace Q3 := hid (Q3.out.up hx0)
    have C2 : Hid (Box wv gC2 #[.bool false, .slice none 0 0] 24) := hid hbox
    have HBC2 := hid hge
    clear hx0 hbox hge hng
    simp only [Act.put, List.setIfInBounds_toArray, List.set_cons_zero, List.set_cons_succ]
    clear EX
    refine WX.store2 (g := gC1) (x := .bool g3) (y := .slice A3 n3 c3) (t := 24) rfl rfl (by rfl) (fun w hb => ?_) C1.out (by rfl) (.inr HBC1.out) fun ws hk hs => ?_
    · have c0 := hb.cell (o := 0) (v := .bool false) rfl; have f0 := hb.free 0; have c1 := hb.cell (o := 1) (v := .slice none 0 0) rfl; have f1 := hb.free 1; go_simp
    intro hbx
    replace E := hid (E.out.keptG hk HGC1.out)
    replace B1 := hid (B1.out.kept hk (by simpa using HNC1B1.out.symm))
    replace B2 := hid (B2.out.kept hk (by simpa using HNC1B2.out.symm))
    replace B3 := hid (B3.out.kept hk (by simpa using HNC1B3.out.symm))
    replace C1 := hid hbx
    replace C2 := hid (C2.out.kept hk (by simpa using HNC2C1.out))
    replace N := hid (N.out.kz hs)
    replace N' := hid (N'.out.kz hs)
    replace R := hid (R.out.kz hs)
    replace R' := hid (R'.out.kz hs)
    replace R1 := hid (R1.out.kz hs)
    replace R2 := hid (R2.out.kz hs)
    replace Q3 := hid (Q3.out.kz hs)
    clear hk hs hbx
    refine WX.store2 (g := gC2) (x := .bool g4) (y := .slice A4 n4 c4) (t := 24) rfl rfl (by rfl) (fun w hb => ?_) C2.out (by rfl) (.inr HBC2.out) fun ws hk hs => ?_
    · have c0 := hb.cell (o := 0) (v := .bool false) rfl; have f0 := hb.free 0; have c1 := hb.cell (o := 1) (v := .slice none 0 0) rfl; have f1 := hb.free 1; go_simp
    intro hbx
    replace E := hid (E.out.keptG hk HGC2.out)
    replace B1 := hid (B1.out.kept hk (by simpa using HNC2B1.out.symm))
    replace B2 := hid (B2.out.kept hk (by simpa using HNC2B2.out.symm))
    replace B3 := hid (B3.out.kept hk (by simpa using HNC2B3.out.symm))
    replace C1 := hid (C1.out.kept hk (by simpa using HNC2C1.out.symm))
    replace C2 := hid hbx
    replace N := hid (N.out.kz hs)
    replace N' := hid (N'.out.kz hs)
    replace R := hid (R.out.kz hs)
    replace R' := hid (R'.out.kz hs)
    replace R1 := hid (R1.out.kz hs)
    replace R2 := hid (R2.out.kz hs)
    replace Q3 := hid (Q3.out.kz hs)
    clear hk hs hbx
    refine WX.done ?_
    go_upto_region 2 with (fail)
    refine wp_region_E [(0, 0), (1, 0), (2, 1), (3, 1), (4, 4)] (fun _ => (0, #[])) rfl (by kernel_rfl) (by intro j hj; cases hj) (fun _ _ d _ _ => by cases d <;> exact Iff.rfl) fun wd hb => ?_
    replace E := hid (E.out.trans hb)
    replace B1 := hid (B1.out.up hb)
    replace B2 := hid (B2.out.up hb)
    replace B3 := hid (B3.out.up hb)
    replace C1 := hid (C1.out.up hb)
    replace C2 := hid (C2.out.up hb)
    replace N := hid (N.out.up hb)
    replace N' := hid (N'.out.up hb)
    replace R := hid (R.out.up hb)
    replace R' := hid (R'.out.up hb)
    replace R1 := hid (R1.out.up hb)
    replace R2 := hid (R2.out.up hb)
    replace Q3 := hid (Q3.out.up hb)
    clear hb
    refine WE.pure (d := some 17) rfl rfl (by rfl) (v := (.agg #[.bool g3, .slice A3 n3 c3])) (fun w' hk => ?_) ?_
    · have c0 := hk.cell (C1.out.cell (o := 0) (v := .bool g3) rfl); have c1 := hk.cell (C1.out.cell (o := 1) (v := .slice A3 n3 c3) rfl); go_simp
    simp only [Act.put, List.setIfInBounds_toArray, List.set_cons_zero, List.set_cons_succ]
    refine WE.pure (d := some 18) rfl rfl (by rfl) (v := (.agg #[.bool g', .slice A' n' c'])) (fun w' hk => ?_) ?_
    · have c0 := hk.cell (B2.out.cell (o := 0) (v := .bool g') rfl); have c1 := hk.cell (B2.out.cell (o := 1) (v := .slice A' n' c') rfl); go_simp
    simp only [Act.put, List.setIfInBounds_toArray, List.set_cons_zero, List.set_cons_succ]
    refine WE.call (d := some 19) rfl rfl (by rfl) (f := 30) (args := #[(.agg #[.bool g', .slice A' n' c'])]) (by go_simp) ?_
    refine (abs_w R'.out (by have := HJ.out; omega)).mono ?_
    rintro e wn ⟨vx, rfl, hx, hb⟩
    obtain ⟨g5, A5, n5, c5, rfl, hs5, hr5⟩ := hx.form
    clear hx
    refine ⟨_, rfl, hb, ?_⟩
    replace E := hid (E.out.trans hb)
    replace B1 := hid (B1.out.up hb)
    replace B2 := hid (B2.out.up hb)
    replace B3 := hid (B3.out.up hb)
    replace C1 := hid (C1.out.up hb)
    replace C2 := hid (C2.out.up hb)
    replace N := hid (N.out.up hb)
    replace N' := hid (N'.out.up hb)
    replace R := hid (R.out.up hb)
    replace R' := hid (R'.out.up hb)
    replace R1 := hid (R1.out.up hb)
    replace R2 := hid (R2.out.up hb)
    replace Q3 := hid (Q3.out.up hb)
    have HS5 := hid hs5
    have R5 := hid hr5
    clear hb hs5 hr5
    simp only [Act.put, List.setIfInBounds_toArray, List.set_cons_zero, List.set_cons_succ]
    refine WE.call (d := some 20) rfl rfl (by rfl) (f := 31) (args := #[(.agg #[.bool g3, .slice A3 n3 c3]), (.agg #[.bool g5, .slice A5 n5 c5])]) (by go_simp) ?_
    refine (mul_w Q3.out.worth (IsZ.mk HS5.out R5.out).worth (by have := HJ.out; omega) (by have := HJ.out; omega) (by have := HJ2.out; omega)).mono ?_
    rintro e wn ⟨vx, rfl, hx, hb⟩
    obtain ⟨g6, A6, n6, c6, rfl⟩ := hx.worth.shape
    refine ⟨_, rfl, hb, ?_⟩
    replace E := hid (E.out.trans hb)
    replace B1 := hid (B1.out.up hb)
    replace B2 := hid (B2.out.up hb)
    replace B3 := hid (B3.out.up hb)
    replace C1 := hid (C1.out.up hb)
    replace C2 := hid (C2.out.up hb)
    replace N := hid (N.out.up hb)
    replace N' := hid (N'.out.up hb)
    replace R := hid (R.out.up hb)
    replace R' := hid (R'.out.up hb)
    replace R1 := hid (R1.out.up hb)
    replace R2 := hid (R2.out.up hb)
    replace Q3 := hid (Q3.out.up hb)
    replace R5 := hid (R5.out.up hb)
    have Q6 := hid hx
    clear hb hx
    simp only [Act.put, List.setIfInBounds_toArray, List.set_cons_zero, List.set_cons_succ]
    refine WE.store2 (g := (w.heap.size + 2)) (x := .bool g6) (y := .slice A6 n6 c6) (t := 24) rfl rfl (by rfl) (fun w hb => ?_) B3.out (by rfl) fun ws hk hs => ?_
    · have c0 := hb.cell (o := 0) (v := .bool false) rfl; have f0 := hb.free 0; have c1 := hb.cell (o := 1) (v := .slice none 0 0) rfl; have f1 := hb.free 1; go_simp
    intro hbx
    replace E := hid (E.out.keptG hk (by simp))
    replace B1 := hid (B1.out.kept hk (by simp))
    replace B2 := hid (B2.out.kept hk (by simp))
    replace B3 := hid hbx
    replace C1 := hid (C1.out.kept hk (by simpa using HNC1B3.out))
    replace C2 := hid (C2.out.kept hk (by simpa using HNC2B3.out))
    replace N := hid (N.out.kz hs)
    replace N' := hid (N'.out.kz hs)
    replace R := hid (R.out.kz hs)
    replace R' := hid (R'.out.kz hs)
    replace R1 := hid (R1.out.kz hs)
    replace R2 := hid (R2.out.kz hs)
    replace Q3 := hid (Q3.out.kz hs)
    replace R5 := hid (R5.out.kz hs)
    replace Q6 := hid (Q6.out.kz hs)
    clear hk hs hbx
    refine WE.done ?_
    have r0 := B3.out.cell (o := 0) (v := .bool g6) rfl
    have r1 := B3.out.cell (o := 1) (v := .slice A6 n6 c6) rfl
    go_wp2
    exact bodyPost_ret (v := .agg #[.bool g6, .slice A6 n6 c6]) (by simp [results, Try.results13, go_sem, r0, r1]) rfl ⟨_, rfl, IsZ.to Q6.out (lcm_parts _ _), E.out⟩

end Go.Proofs.Ytljjijcmoafndaa
