/-
  The reference's texts of integers.
-/
import Derived.Test.YthlafkbldlmmaaaDoorTRNatl
import Derived.Test.YthlafkbldlmmaaaDoorRZA
namespace Go.Proofs.YthlafkbldlmmaaaDoor
open Go.RowKit
set_option linter.unusedSimpArgs false
set_option linter.unusedVariables false

theorem rText_any {w : World} {v : Value} {l : List Nat} (hv : Num w w.heap.size v l) (hle : l.length ≤ 1000000) : Calls Tryd.prog 14 #[v] w (GivesT w (Lib.decDigits (M.nv l))) := by
  have h1 := M.isNat_iff.1 (M.isNat_limbs (M.nv l))
  have h := rText_m (m := M.limbs (M.nv l)) hv (M.limbs_nv l) h1.1 h1.2 (by rw [M.limbs_nv]; unfold M.nat; split; exact hle; simp)
  rw [M.val_limbs] at h
  exact h
theorem rText_N {w : World} {v : Value} {N k : Nat} (hv : IsN w v N k) (hk : k ≤ 1000000) : Calls Tryd.prog 14 #[v] w (GivesT w (Lib.decDigits N)) := by
  have h := rText_any hv.1 (Nat.le_trans hv.2 hk)
  rw [M.nv_limbs] at h
  exact h
theorem rnatural_N (l : List UInt8) (hd : l.all M.digit = true) (hl : l.length ≤ 1000000) (w : World) : Calls Tryd.prog 28 #[str l] w (GivesN w (M.num l) (M.limbs (M.num l)).length) :=
  (rnatural_n l hd hl w).mono fun _ _ ⟨v, he, hn, hx⟩ => ⟨v, he, ⟨hn, Nat.le_refl _⟩, hx⟩

set_option maxHeartbeats 1000000 in
theorem rPrint_neg {w : World} {u : Value} {Z : Int} {j : Nat} (hu : Worth w u Z j) (hj : j ≤ 1000000) (hz : decide (Z < 0) = true) :
    Calls Tryd.prog 12 #[u] w (GivesT w (M.print Z)) := by
  obtain ⟨g, A, n, c, rfl⟩ := hu.shape
  have R := hid hu
  have HJ := hid hj
  have HZ := hid hz
  clear hu hj hz
  go_enter Tryd.func12, Tryd.ntmps12
  go_upto_region 1 with (fail)
  have E := hid ((Ext.refl w).alloc' (.cells #[.bool g, .slice A n c] 24))
  have B1 : Hid (Box (w.alloc (.cells #[.bool g, .slice A n c] 24)) (w.heap.size) #[.bool g, .slice A n c] 24) := hid (Box.at_ (w := w) #[.bool g, .slice A n c] 24 (by simp))
  replace R := hid (R.out.up E.out)
  refine wp_region_T [(0, 0), (1, 1), (2, 1), (3, 4)] (by kernel_rfl) fun wd hb => ?_
  replace E := hid (E.out.trans hb)
  replace B1 := hid (B1.out.up hb)
  replace R := hid (R.out.up hb)
  clear hb
  refine WE.pure (d := some 4) rfl rfl (by rfl) (v := (.agg #[.bool g, .slice A n c])) (fun w' hk => ?_) ?_
  · have c0 := hk.cell (B1.out.cell (o := 0) (v := .bool g) rfl); have c1 := hk.cell (B1.out.cell (o := 1) (v := .slice A n c) rfl); go_simp
  simp only [Act.put, List.setIfInBounds_toArray, List.set_cons_zero, List.set_cons_succ]
  refine WE.call (d := some 5) rfl rfl (by rfl) (f := 32) (args := #[(.agg #[.bool g, .slice A n c])]) (by go_simp) ?_
  refine (rMay_w R.out).mono ?_
  rintro e wn ⟨vx, rfl, hx, hb⟩
  obtain ⟨g1, A1, n1, c1, rfl, hs1, hr1⟩ := hx.form
  clear hx
  refine ⟨_, rfl, hb, ?_⟩
  replace E := hid (E.out.trans hb)
  replace B1 := hid (B1.out.up hb)
  replace R := hid (R.out.up hb)
  have HS1 := hid hs1
  have R1 := hid hr1
  clear hb hs1 hr1
  simp only [Act.put, List.setIfInBounds_toArray, List.set_cons_zero, List.set_cons_succ]
  refine WE.new (d := some 3) (cs := #[.bool false, .slice none 0 0]) (t := 24) (v := fun g => (.pointer (some ⟨g, 0, none⟩))) rfl rfl (by rfl) (fun w => by go_simp) fun gB2 wv hx0 hbox hge => ?_
  have HNB2B1 := hid (show gB2 ≠ (w.heap.size) by have := B1.out.lt; omega)
  have HGB2 := hid (show w.heap.size ≤ gB2 by have := E.out.size; omega)
  replace E := hid (E.out.trans hx0)
  replace B1 := hid (B1.out.up hx0)
  replace R := hid (R.out.up hx0)
  replace R1 := hid (R1.out.up hx0)
  have B2 : Hid (Box wv gB2 #[.bool false, .slice none 0 0] 24) := hid hbox
  clear hx0 hbox hge
  simp only [Act.put, List.setIfInBounds_toArray, List.set_cons_zero, List.set_cons_succ]
  refine WE.store2 (g := gB2) (x := .bool g1) (y := .slice A1 n1 c1) (t := 24) rfl rfl (by rfl) (fun w hb => ?_) B2.out (by rfl) fun ws hk hs => ?_
  · have c0 := hb.cell (o := 0) (v := .bool false) rfl; have f0 := hb.free 0; have c1 := hb.cell (o := 1) (v := .slice none 0 0) rfl; have f1 := hb.free 1; go_simp
  intro hbx
  replace E := hid (E.out.keptG hk HGB2.out)
  replace B1 := hid (B1.out.kept hk (by simpa using HNB2B1.out.symm))
  replace B2 := hid hbx
  replace R := hid (R.out.kz hs)
  replace R1 := hid (R1.out.kz hs)
  clear hk hs hbx
  refine WE.done ?_
  go_upto_region 2 with (fail)
  refine wp_region_T [(0, 0), (1, 0)] (by kernel_rfl) fun wd hb => ?_
  replace E := hid (E.out.trans hb)
  replace B1 := hid (B1.out.up hb)
  replace B2 := hid (B2.out.up hb)
  replace R := hid (R.out.up hb)
  replace R1 := hid (R1.out.up hb)
  clear hb
  refine WE.pure (d := some 6) rfl rfl (by rfl) (v := (.pointer (some ⟨gB2, 0, none⟩))) (fun w' hk => ?_) ?_
  · go_simp
  simp only [Act.put, List.setIfInBounds_toArray, List.set_cons_zero, List.set_cons_succ]
  refine WE.pure (d := some 7) rfl rfl (by rfl) (v := (.bool true)) (fun w' hk => ?_) ?_
  · have c0 := hk.cell (B2.out.cell (o := 0) (v := .bool g1) rfl); have q : g1 = true := (by rw [HS1.out]; exact HZ.out); go_simp
  simp only [Act.put, List.setIfInBounds_toArray, List.set_cons_zero, List.set_cons_succ]
  refine WE.done ?_
  have HLN := hid (show (Lib.decDigits Z.natAbs).length ≤ 9 * j + 1 by rw [M.dec_length]; have h4 := M.dec_room (M.limbs Z.natAbs); rw [M.nv_limbs] at h4; exact Nat.le_trans h4 (by have : (M.limbs Z.natAbs).length ≤ j := R1.out.2; omega))
  go_upto_region 3 with (fail)
  refine wp_region_T [(0, 0), (1, 0), (2, 1), (3, 0), (4, 0), (5, 0)] (by kernel_rfl) fun wd hb => ?_
  replace E := hid (E.out.trans hb)
  replace B1 := hid (B1.out.up hb)
  replace B2 := hid (B2.out.up hb)
  replace R := hid (R.out.up hb)
  replace R1 := hid (R1.out.up hb)
  clear hb
  refine WE.pure (d := some 8) rfl rfl (by rfl) (v := (.pointer (some ⟨gB2, 1, none⟩))) (fun w' hk => ?_) ?_
  · go_simp
  simp only [Act.put, List.setIfInBounds_toArray, List.set_cons_zero, List.set_cons_succ]
  refine WE.pure (d := some 9) rfl rfl (by rfl) (v := (.slice A1 n1 c1)) (fun w' hk => ?_) ?_
  · have c1 := hk.cell (B2.out.cell (o := 1) (v := .slice A1 n1 c1) rfl); go_simp
  simp only [Act.put, List.setIfInBounds_toArray, List.set_cons_zero, List.set_cons_succ]
  refine WE.call (d := some 10) rfl rfl (by rfl) (f := 14) (args := #[(.slice A1 n1 c1)]) (by go_simp) ?_
  refine (rText_N R1.out HJ.out).mono ?_
  rintro e wn ⟨rfl, hb⟩
  refine ⟨_, rfl, hb, ?_⟩
  replace E := hid (E.out.trans hb)
  replace B1 := hid (B1.out.up hb)
  replace B2 := hid (B2.out.up hb)
  replace R := hid (R.out.up hb)
  replace R1 := hid (R1.out.up hb)
  clear hb
  simp only [Act.put, List.setIfInBounds_toArray, List.set_cons_zero, List.set_cons_succ]
  refine WE.pure (d := some 11) rfl rfl (by rfl) (v := str (40 :: 45 :: 32 :: Lib.decDigits Z.natAbs)) (fun w' hk => ?_) ?_
  · go_simp
    rw [if_neg (by have := HLN.out; have := HJ.out; omega)]
    exact congrArg (fun x => Result.ok (Next.value (Value.string x)) w') (str_cat [40, 45, 32] (Lib.decDigits Z.natAbs))
  simp only [Act.put, List.setIfInBounds_toArray, List.set_cons_zero, List.set_cons_succ]
  refine WE.pure (d := some 12) rfl rfl (by rfl) (v := str (40 :: 45 :: 32 :: (Lib.decDigits Z.natAbs ++ [41]))) (fun w' hk => ?_) ?_
  · go_simp
    rw [if_neg (by have := HLN.out; have := HJ.out; omega)]
    exact congrArg (fun x => Result.ok (Next.value (Value.string x)) w') (str_cat (40 :: 45 :: 32 :: Lib.decDigits Z.natAbs) [41])
  simp only [Act.put, List.setIfInBounds_toArray, List.set_cons_zero, List.set_cons_succ]
  refine WE.pure (d := some 2) rfl rfl (by rfl) (v := (str (40 :: 45 :: 32 :: (Lib.decDigits Z.natAbs ++ [41])))) (fun w' hk => ?_) ?_
  · go_simp
  simp only [Act.put, List.setIfInBounds_toArray, List.set_cons_zero, List.set_cons_succ]
  refine WE.done ?_
  go_wp2
  go_ret
  refine ⟨?_, E.out⟩
  rw [M.print, if_pos (of_decide_eq_true HZ.out)]; rfl

set_option maxHeartbeats 1000000 in
theorem rPrint_pos {w : World} {u : Value} {Z : Int} {j : Nat} (hu : Worth w u Z j) (hj : j ≤ 1000000) (hz : decide (Z < 0) = false) :
    Calls Tryd.prog 12 #[u] w (GivesT w (M.print Z)) := by
  obtain ⟨g, A, n, c, rfl⟩ := hu.shape
  have R := hid hu
  have HJ := hid hj
  have HZ := hid hz
  clear hu hj hz
  go_enter Tryd.func12, Tryd.ntmps12
  go_upto_region 1 with (fail)
  have E := hid ((Ext.refl w).alloc' (.cells #[.bool g, .slice A n c] 24))
  have B1 : Hid (Box (w.alloc (.cells #[.bool g, .slice A n c] 24)) (w.heap.size) #[.bool g, .slice A n c] 24) := hid (Box.at_ (w := w) #[.bool g, .slice A n c] 24 (by simp))
  replace R := hid (R.out.up E.out)
  refine wp_region_T [(0, 0), (1, 1), (2, 1), (3, 4)] (by kernel_rfl) fun wd hb => ?_
  replace E := hid (E.out.trans hb)
  replace B1 := hid (B1.out.up hb)
  replace R := hid (R.out.up hb)
  clear hb
  refine WE.pure (d := some 4) rfl rfl (by rfl) (v := (.agg #[.bool g, .slice A n c])) (fun w' hk => ?_) ?_
  · have c0 := hk.cell (B1.out.cell (o := 0) (v := .bool g) rfl); have c1 := hk.cell (B1.out.cell (o := 1) (v := .slice A n c) rfl); go_simp
  simp only [Act.put, List.setIfInBounds_toArray, List.set_cons_zero, List.set_cons_succ]
  refine WE.call (d := some 5) rfl rfl (by rfl) (f := 32) (args := #[(.agg #[.bool g, .slice A n c])]) (by go_simp) ?_
  refine (rMay_w R.out).mono ?_
  rintro e wn ⟨vx, rfl, hx, hb⟩
  obtain ⟨g1, A1, n1, c1, rfl, hs1, hr1⟩ := hx.form
  clear hx
  refine ⟨_, rfl, hb, ?_⟩
  replace E := hid (E.out.trans hb)
  replace B1 := hid (B1.out.up hb)
  replace R := hid (R.out.up hb)
  have HS1 := hid hs1
  have R1 := hid hr1
  clear hb hs1 hr1
  simp only [Act.put, List.setIfInBounds_toArray, List.set_cons_zero, List.set_cons_succ]
  refine WE.new (d := some 3) (cs := #[.bool false, .slice none 0 0]) (t := 24) (v := fun g => (.pointer (some ⟨g, 0, none⟩))) rfl rfl (by rfl) (fun w => by go_simp) fun gB2 wv hx0 hbox hge => ?_
  have HNB2B1 := hid (show gB2 ≠ (w.heap.size) by have := B1.out.lt; omega)
  have HGB2 := hid (show w.heap.size ≤ gB2 by have := E.out.size; omega)
  replace E := hid (E.out.trans hx0)
  replace B1 := hid (B1.out.up hx0)
  replace R := hid (R.out.up hx0)
  replace R1 := hid (R1.out.up hx0)
  have B2 : Hid (Box wv gB2 #[.bool false, .slice none 0 0] 24) := hid hbox
  clear hx0 hbox hge
  simp only [Act.put, List.setIfInBounds_toArray, List.set_cons_zero, List.set_cons_succ]
  refine WE.store2 (g := gB2) (x := .bool g1) (y := .slice A1 n1 c1) (t := 24) rfl rfl (by rfl) (fun w hb => ?_) B2.out (by rfl) fun ws hk hs => ?_
  · have c0 := hb.cell (o := 0) (v := .bool false) rfl; have f0 := hb.free 0; have c1 := hb.cell (o := 1) (v := .slice none 0 0) rfl; have f1 := hb.free 1; go_simp
  intro hbx
  replace E := hid (E.out.keptG hk HGB2.out)
  replace B1 := hid (B1.out.kept hk (by simpa using HNB2B1.out.symm))
  replace B2 := hid hbx
  replace R := hid (R.out.kz hs)
  replace R1 := hid (R1.out.kz hs)
  clear hk hs hbx
  refine WE.done ?_
  go_upto_region 2 with (fail)
  refine wp_region_T [(0, 0), (1, 0)] (by kernel_rfl) fun wd hb => ?_
  replace E := hid (E.out.trans hb)
  replace B1 := hid (B1.out.up hb)
  replace B2 := hid (B2.out.up hb)
  replace R := hid (R.out.up hb)
  replace R1 := hid (R1.out.up hb)
  clear hb
  refine WE.pure (d := some 6) rfl rfl (by rfl) (v := (.pointer (some ⟨gB2, 0, none⟩))) (fun w' hk => ?_) ?_
  · go_simp
  simp only [Act.put, List.setIfInBounds_toArray, List.set_cons_zero, List.set_cons_succ]
  refine WE.pure (d := some 7) rfl rfl (by rfl) (v := (.bool false)) (fun w' hk => ?_) ?_
  · have c0 := hk.cell (B2.out.cell (o := 0) (v := .bool g1) rfl); have q : g1 = false := (by rw [HS1.out]; exact HZ.out); go_simp
  simp only [Act.put, List.setIfInBounds_toArray, List.set_cons_zero, List.set_cons_succ]
  refine WE.done ?_
  go_upto_region 4 with (fail)
  refine wp_region_T [(0, 0), (1, 0), (2, 1), (3, 0)] (by kernel_rfl) fun wd hb => ?_
  replace E := hid (E.out.trans hb)
  replace B1 := hid (B1.out.up hb)
  replace B2 := hid (B2.out.up hb)
  replace R := hid (R.out.up hb)
  replace R1 := hid (R1.out.up hb)
  clear hb
  refine WE.pure (d := some 13) rfl rfl (by rfl) (v := (.pointer (some ⟨gB2, 1, none⟩))) (fun w' hk => ?_) ?_
  · go_simp
  simp only [Act.put, List.setIfInBounds_toArray, List.set_cons_zero, List.set_cons_succ]
  refine WE.pure (d := some 14) rfl rfl (by rfl) (v := (.slice A1 n1 c1)) (fun w' hk => ?_) ?_
  · have c1 := hk.cell (B2.out.cell (o := 1) (v := .slice A1 n1 c1) rfl); go_simp
  simp only [Act.put, List.setIfInBounds_toArray, List.set_cons_zero, List.set_cons_succ]
  refine WE.call (d := some 15) rfl rfl (by rfl) (f := 14) (args := #[(.slice A1 n1 c1)]) (by go_simp) ?_
  refine (rText_N R1.out HJ.out).mono ?_
  rintro e wn ⟨rfl, hb⟩
  refine ⟨_, rfl, hb, ?_⟩
  replace E := hid (E.out.trans hb)
  replace B1 := hid (B1.out.up hb)
  replace B2 := hid (B2.out.up hb)
  replace R := hid (R.out.up hb)
  replace R1 := hid (R1.out.up hb)
  clear hb
  simp only [Act.put, List.setIfInBounds_toArray, List.set_cons_zero, List.set_cons_succ]
  refine WE.pure (d := some 2) rfl rfl (by rfl) (v := (str (Lib.decDigits Z.natAbs))) (fun w' hk => ?_) ?_
  · go_simp
  simp only [Act.put, List.setIfInBounds_toArray, List.set_cons_zero, List.set_cons_succ]
  refine WE.done ?_
  go_wp2
  go_ret
  refine ⟨?_, E.out⟩
  rw [M.print, if_neg (of_decide_eq_false HZ.out)]; rfl

theorem rPrint_w {w : World} {u : Value} {Z : Int} {j : Nat} (hu : Worth w u Z j) (hj : j ≤ 1000000) : Calls Tryd.prog 12 #[u] w (GivesT w (M.print Z)) := by
  cases hz : decide (Z < 0)
  · exact rPrint_pos hu hj hz
  · exact rPrint_neg hu hj hz

end Go.Proofs.YthlafkbldlmmaaaDoor
