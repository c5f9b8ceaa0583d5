/-
  Contracts of package digits: Parse and Print.
-/
import Derived.Test.YthlafkbldlmmaaaDoorTRow
import Derived.Test.YthlafkbldlmmaaaDoorZFaceA
namespace Go.Proofs.YthlafkbldlmmaaaDoor
open Go.RowKit
set_option linter.unusedSimpArgs false
set_option linter.unusedVariables false

namespace M
def bad (l : List UInt8) : Bool := !numeral (inside l).1 || ((inside l).2 && (inside l).1 == [48])
/-- What Parse tells is wrong: 0, 10, 11. -/
def perr (l : List UInt8) : Int := if bad l = true then 10 else if 360 < (inside l).1.length then 11 else 0
/-- What Parse tells. -/
def pval (l : List UInt8) : Int := if bad l = true ∨ 360 < (inside l).1.length then 0 else if (inside l).2 = true then -(num (inside l).1 : Int) else (num (inside l).1 : Int)
/-- What Print tells. -/
def print (Z : Int) : List UInt8 := if Z < 0 then [40, 45, 32] ++ (Go.Lib.decDigits Z.natAbs ++ [41]) else Go.Lib.decDigits Z.natAbs
theorem numeral_pos {d : List UInt8} (h : numeral d = true) (hne : (d == [48]) = false) : 0 < num d := by
  rcases d with _ | ⟨b, r⟩
  · simp [numeral] at h
  · by_cases hb : b.toNat = 48
    · obtain rfl : b = 48 := UInt8.toNat_inj.1 hb
      have : r = [] := by simpa [numeral] using h
      subst this
      simp at hne
    · simp only [numeral, if_neg hb] at h
      rw [List.all_cons, Bool.and_eq_true] at h
      exact num_pos hb h.1
end M
def GivesP (w : World) (Z : Int) (k : Nat) (n : Int) (e : Ending) (w' : World) : Prop := ∃ v, e = .returned (.tuple #[v, .int .i64 n]) ∧ IsZ w' v Z k ∧ Ext w w'
theorem digitsNat_N {w : World} {v : Value} {N k : Nat} (hv : IsN w v N k) (hk : k ≤ 1000000) (ht : Tab w) : Calls Tryd.prog 13 #[v] w (GivesT w (Lib.decDigits N)) := by
  have h := digitsNat_n hv.1 (Nat.le_trans hv.2 hk) ht
  rw [M.nv_limbs] at h
  exact h
theorem Box.texts {w : World} {g : Nat} {t : TypeId} {xs : List (List UInt8)} (h : Box w g (xs.map str).toArray t) : ∀ (j : Nat) x, xs[j]? = some x → w.cell? ⟨g, 0 + j, none⟩ = some (str x) := by
  intro j x hx
  rw [Nat.zero_add]
  exact h.cell (o := j) (by simp [hx])
theorem IsZ.nil {w : World} : IsZ w (.agg #[.bool false, .slice none 0 0]) 0 0 := by
  refine ⟨none, 0, 0, rfl, ?_, ?_⟩
  · rw [show (0 : Int).natAbs = 0 from rfl, M.limbs_zero]; exact Num.nil _ _
  · rw [show (0 : Int).natAbs = 0 from rfl, M.limbs_zero]; simp

set_option maxHeartbeats 1000000 in
theorem parse_no_t {l d : List UInt8} (hl : l.length ≤ 1000000000000) (hn : d.length ≤ 1000000000000) (hin : ∀ w, Calls Tryd.prog 25 #[str l] w fun e w' => e = .returned (.tuple #[str d, .bool true]) ∧ w' = w) (hnu : M.numeral d = false) (w : World) :
    Calls Tryd.prog 9 #[str l] w (GivesP w 0 0 10) := by
  have HL := hid hl
  have HN := hid hn
  have HNU := hid hnu
  clear hl hn hnu
  go_enter Tryd.func9, Tryd.ntmps9
  go_upto_region 1 with (fail)
  have E := hid ((Ext.refl w).alloc' (.cells #[.bool false, .slice none 0 0] 24))
  have B1 : Hid (Box (w.alloc (.cells #[.bool false, .slice none 0 0] 24)) (w.heap.size) #[.bool false, .slice none 0 0] 24) := hid (Box.at_ (w := w) #[.bool false, .slice none 0 0] 24 (by simp))
  refine wp_region_T [(0, 0), (1, 1), (2, 0), (3, 0), (4, 0), (5, 0), (6, 0)] (by kernel_rfl) fun wd hb => ?_
  replace E := hid (E.out.trans hb)
  replace B1 := hid (B1.out.up hb)
  clear hb
  refine WE.pure (d := some 7) rfl rfl (by rfl) (v := (str l)) (fun w' hk => ?_) ?_
  · go_simp
  simp only [Act.put, List.setIfInBounds_toArray, List.set_cons_zero, List.set_cons_succ]
  refine WE.call (d := some 8) rfl rfl (by rfl) (f := 25) (args := #[(str l)]) (by go_simp) ?_
  refine (hin _).mono ?_
  rintro e wq ⟨rfl, rfl⟩
  refine ⟨_, rfl, Ext.refl _, ?_⟩
  simp only [Act.put, List.setIfInBounds_toArray, List.set_cons_zero, List.set_cons_succ]
  refine WE.pure (d := some 6) rfl rfl (by rfl) (v := (.tuple #[(str d), (.bool true)])) (fun w' hk => ?_) ?_
  · go_simp
  simp only [Act.put, List.setIfInBounds_toArray, List.set_cons_zero, List.set_cons_succ]
  refine WE.pure (d := some 9) rfl rfl (by rfl) (v := (str d)) (fun w' hk => ?_) ?_
  · go_simp
  simp only [Act.put, List.setIfInBounds_toArray, List.set_cons_zero, List.set_cons_succ]
  refine WE.pure (d := some 10) rfl rfl (by rfl) (v := (.bool true)) (fun w' hk => ?_) ?_
  · go_simp
  simp only [Act.put, List.setIfInBounds_toArray, List.set_cons_zero, List.set_cons_succ]
  refine WE.pure (d := some 4) rfl rfl (by rfl) (v := (str d)) (fun w' hk => ?_) ?_
  · go_simp
  simp only [Act.put, List.setIfInBounds_toArray, List.set_cons_zero, List.set_cons_succ]
  refine WE.pure (d := some 5) rfl rfl (by rfl) (v := (.bool true)) (fun w' hk => ?_) ?_
  · go_simp
  simp only [Act.put, List.setIfInBounds_toArray, List.set_cons_zero, List.set_cons_succ]
  refine WE.done ?_
  go_upto_region 2 with (fail)
  refine wp_region_T [(0, 0), (1, 1), (2, 0), (3, 0), (4, 0), (5, 0), (6, 0), (7, 0), (8, 0), (9, 0), (10, 0)] (by kernel_rfl) fun wd hb => ?_
  replace E := hid (E.out.trans hb)
  replace B1 := hid (B1.out.up hb)
  clear hb
  refine WE.pure (d := some 12) rfl rfl (by rfl) (v := (str d)) (fun w' hk => ?_) ?_
  · go_simp
  simp only [Act.put, List.setIfInBounds_toArray, List.set_cons_zero, List.set_cons_succ]
  refine WE.call (d := some 13) rfl rfl (by rfl) (f := 15) (args := #[(str d)]) (by go_simp) ?_
  refine (numeral_n d _ HN.out).mono ?_
  rw [HNU.out]
  rintro e wq ⟨rfl, rfl⟩
  refine ⟨_, rfl, Ext.refl _, ?_⟩
  simp only [Act.put, List.setIfInBounds_toArray, List.set_cons_zero, List.set_cons_succ]
  refine WE.pure (d := some 14) rfl rfl (by rfl) (v := (.bool true)) (fun w' hk => ?_) ?_
  · go_simp
  simp only [Act.put, List.setIfInBounds_toArray, List.set_cons_zero, List.set_cons_succ]
  refine WE.pure (d := some 15) rfl rfl (by rfl) (v := (.bool true)) (fun w' hk => ?_) ?_
  · go_simp
  simp only [Act.put, List.setIfInBounds_toArray, List.set_cons_zero, List.set_cons_succ]
  refine WE.skip (d := some 16) rfl rfl (by rfl) ?_
  simp only [Act.put, List.setIfInBounds_toArray, List.set_cons_zero, List.set_cons_succ]
  refine WE.skip (d := some 17) rfl rfl (by rfl) ?_
  simp only [Act.put, List.setIfInBounds_toArray, List.set_cons_zero, List.set_cons_succ]
  refine WE.skip (d := some 18) rfl rfl (by rfl) ?_
  simp only [Act.put, List.setIfInBounds_toArray, List.set_cons_zero, List.set_cons_succ]
  refine WE.skip (d := some 19) rfl rfl (by rfl) ?_
  simp only [Act.put, List.setIfInBounds_toArray, List.set_cons_zero, List.set_cons_succ]
  refine WE.skip (d := some 20) rfl rfl (by rfl) ?_
  simp only [Act.put, List.setIfInBounds_toArray, List.set_cons_zero, List.set_cons_succ]
  refine WE.pure (d := some 21) rfl rfl (by rfl) (v := (.bool true)) (fun w' hk => ?_) ?_
  · go_simp
  simp only [Act.put, List.setIfInBounds_toArray, List.set_cons_zero, List.set_cons_succ]
  refine WE.pure (d := some 11) rfl rfl (by rfl) (v := (.bool true)) (fun w' hk => ?_) ?_
  · go_simp
  simp only [Act.put, List.setIfInBounds_toArray, List.set_cons_zero, List.set_cons_succ]
  refine WE.done ?_
  go_upto_region 3 with (fail)
  refine wp_region_T [(0, 0), (1, 4), (2, 0)] (by kernel_rfl) fun wd hb => ?_
  replace E := hid (E.out.trans hb)
  replace B1 := hid (B1.out.up hb)
  clear hb
  refine WE.pure (d := some 22) rfl rfl (by rfl) (v := (.agg #[.bool false, .slice none 0 0])) (fun w' hk => ?_) ?_
  · go_simp
  simp only [Act.put, List.setIfInBounds_toArray, List.set_cons_zero, List.set_cons_succ]
  refine WE.store2 (g := (w.heap.size)) (x := .bool false) (y := .slice none 0 0) (t := 24) rfl rfl (by rfl) (fun w hb => ?_) B1.out (by rfl) fun ws hk hs => ?_
  · have c0 := hb.cell (o := 0) (v := .bool false) rfl; have f0 := hb.free 0; have c1 := hb.cell (o := 1) (v := .slice none 0 0) rfl; have f1 := hb.free 1; go_simp
  intro hbx
  replace E := hid (E.out.keptG hk (by simp))
  replace B1 := hid hbx
  clear hk hs hbx
  refine WE.pure (d := some 3) rfl rfl (by rfl) (v := (.int .i64 (10))) (fun w' hk => ?_) ?_
  · go_simp
  simp only [Act.put, List.setIfInBounds_toArray, List.set_cons_zero, List.set_cons_succ]
  refine WE.done ?_
  have r0 := B1.out.cell (o := 0) (v := .bool false) rfl
  have r1 := B1.out.cell (o := 1) (v := .slice none 0 0) rfl
  go_wp2
  exact bodyPost_ret (v := .tuple #[.agg #[.bool false, .slice none 0 0], .int .i64 10]) (by simp [results, Tryd.results9, go_sem, r0, r1]) rfl ⟨_, rfl, IsZ.nil, E.out⟩

set_option maxHeartbeats 1000000 in
theorem parse_zero {l d : List UInt8} (hl : l.length ≤ 1000000000000) (hn : d.length ≤ 1000000000000) (hin : ∀ w, Calls Tryd.prog 25 #[str l] w fun e w' => e = .returned (.tuple #[str d, .bool true]) ∧ w' = w) (hnu : M.numeral d = true) (hz : (d == [48]) = true) (w : World) :
    Calls Tryd.prog 9 #[str l] w (GivesP w 0 0 10) := by
  have HL := hid hl
  have HN := hid hn
  have HNU := hid hnu
  have HZ := hid hz
  clear hl hn hnu hz
  go_enter Tryd.func9, Tryd.ntmps9
  go_upto_region 1 with (fail)
  have E := hid ((Ext.refl w).alloc' (.cells #[.bool false, .slice none 0 0] 24))
  have B1 : Hid (Box (w.alloc (.cells #[.bool false, .slice none 0 0] 24)) (w.heap.size) #[.bool false, .slice none 0 0] 24) := hid (Box.at_ (w := w) #[.bool false, .slice none 0 0] 24 (by simp))
  refine wp_region_T [(0, 0), (1, 1), (2, 0), (3, 0), (4, 0), (5, 0), (6, 0)] (by kernel_rfl) fun wd hb => ?_
  replace E := hid (E.out.trans hb)
  replace B1 := hid (B1.out.up hb)
  clear hb
  refine WE.pure (d := some 7) rfl rfl (by rfl) (v := (str l)) (fun w' hk => ?_) ?_
  · go_simp
  simp only [Act.put, List.setIfInBounds_toArray, List.set_cons_zero, List.set_cons_succ]
  refine WE.call (d := some 8) rfl rfl (by rfl) (f := 25) (args := #[(str l)]) (by go_simp) ?_
  refine (hin _).mono ?_
  rintro e wq ⟨rfl, rfl⟩
  refine ⟨_, rfl, Ext.refl _, ?_⟩
  simp only [Act.put, List.setIfInBounds_toArray, List.set_cons_zero, List.set_cons_succ]
  refine WE.pure (d := some 6) rfl rfl (by rfl) (v := (.tuple #[(str d), (.bool true)])) (fun w' hk => ?_) ?_
  · go_simp
  simp only [Act.put, List.setIfInBounds_toArray, List.set_cons_zero, List.set_cons_succ]
  refine WE.pure (d := some 9) rfl rfl (by rfl) (v := (str d)) (fun w' hk => ?_) ?_
  · go_simp
  simp only [Act.put, List.setIfInBounds_toArray, List.set_cons_zero, List.set_cons_succ]
  refine WE.pure (d := some 10) rfl rfl (by rfl) (v := (.bool true)) (fun w' hk => ?_) ?_
  · go_simp
  simp only [Act.put, List.setIfInBounds_toArray, List.set_cons_zero, List.set_cons_succ]
  refine WE.pure (d := some 4) rfl rfl (by rfl) (v := (str d)) (fun w' hk => ?_) ?_
  · go_simp
  simp only [Act.put, List.setIfInBounds_toArray, List.set_cons_zero, List.set_cons_succ]
  refine WE.pure (d := some 5) rfl rfl (by rfl) (v := (.bool true)) (fun w' hk => ?_) ?_
  · go_simp
  simp only [Act.put, List.setIfInBounds_toArray, List.set_cons_zero, List.set_cons_succ]
  refine WE.done ?_
  go_upto_region 2 with (fail)
  refine wp_region_T [(0, 0), (1, 1), (2, 0), (3, 0), (4, 0), (5, 0), (6, 0), (7, 0), (8, 0), (9, 0), (10, 0)] (by kernel_rfl) fun wd hb => ?_
  replace E := hid (E.out.trans hb)
  replace B1 := hid (B1.out.up hb)
  clear hb
  refine WE.pure (d := some 12) rfl rfl (by rfl) (v := (str d)) (fun w' hk => ?_) ?_
  · go_simp
  simp only [Act.put, List.setIfInBounds_toArray, List.set_cons_zero, List.set_cons_succ]
  refine WE.call (d := some 13) rfl rfl (by rfl) (f := 15) (args := #[(str d)]) (by go_simp) ?_
  refine (numeral_n d _ HN.out).mono ?_
  rw [HNU.out]
  rintro e wq ⟨rfl, rfl⟩
  refine ⟨_, rfl, Ext.refl _, ?_⟩
  simp only [Act.put, List.setIfInBounds_toArray, List.set_cons_zero, List.set_cons_succ]
  refine WE.pure (d := some 14) rfl rfl (by rfl) (v := (.bool false)) (fun w' hk => ?_) ?_
  · go_simp
  simp only [Act.put, List.setIfInBounds_toArray, List.set_cons_zero, List.set_cons_succ]
  refine WE.pure (d := some 15) rfl rfl (by rfl) (v := (.bool false)) (fun w' hk => ?_) ?_
  · go_simp
  simp only [Act.put, List.setIfInBounds_toArray, List.set_cons_zero, List.set_cons_succ]
  refine WE.pure (d := some 16) rfl rfl (by rfl) (v := (.bool true)) (fun w' hk => ?_) ?_
  · go_simp
  simp only [Act.put, List.setIfInBounds_toArray, List.set_cons_zero, List.set_cons_succ]
  refine WE.pure (d := some 17) rfl rfl (by rfl) (v := (.bool true)) (fun w' hk => ?_) ?_
  · go_simp
  simp only [Act.put, List.setIfInBounds_toArray, List.set_cons_zero, List.set_cons_succ]
  refine WE.pure (d := some 18) rfl rfl (by rfl) (v := (str d)) (fun w' hk => ?_) ?_
  · go_simp
  simp only [Act.put, List.setIfInBounds_toArray, List.set_cons_zero, List.set_cons_succ]
  refine WE.pure (d := some 19) rfl rfl (by rfl) (v := (.bool true)) (fun w' hk => ?_) ?_
  · have q := HZ.out; go_simp
  simp only [Act.put, List.setIfInBounds_toArray, List.set_cons_zero, List.set_cons_succ]
  refine WE.pure (d := some 20) rfl rfl (by rfl) (v := (.bool true)) (fun w' hk => ?_) ?_
  · go_simp
  simp only [Act.put, List.setIfInBounds_toArray, List.set_cons_zero, List.set_cons_succ]
  refine WE.pure (d := some 21) rfl rfl (by rfl) (v := (.bool true)) (fun w' hk => ?_) ?_
  · go_simp
  simp only [Act.put, List.setIfInBounds_toArray, List.set_cons_zero, List.set_cons_succ]
  refine WE.pure (d := some 11) rfl rfl (by rfl) (v := (.bool true)) (fun w' hk => ?_) ?_
  · go_simp
  simp only [Act.put, List.setIfInBounds_toArray, List.set_cons_zero, List.set_cons_succ]
  refine WE.done ?_
  go_upto_region 3 with (fail)
  refine wp_region_T [(0, 0), (1, 4), (2, 0)] (by kernel_rfl) fun wd hb => ?_
  replace E := hid (E.out.trans hb)
  replace B1 := hid (B1.out.up hb)
  clear hb
  refine WE.pure (d := some 22) rfl rfl (by rfl) (v := (.agg #[.bool false, .slice none 0 0])) (fun w' hk => ?_) ?_
  · go_simp
  simp only [Act.put, List.setIfInBounds_toArray, List.set_cons_zero, List.set_cons_succ]
  refine WE.store2 (g := (w.heap.size)) (x := .bool false) (y := .slice none 0 0) (t := 24) rfl rfl (by rfl) (fun w hb => ?_) B1.out (by rfl) fun ws hk hs => ?_
  · have c0 := hb.cell (o := 0) (v := .bool false) rfl; have f0 := hb.free 0; have c1 := hb.cell (o := 1) (v := .slice none 0 0) rfl; have f1 := hb.free 1; go_simp
  intro hbx
  replace E := hid (E.out.keptG hk (by simp))
  replace B1 := hid hbx
  clear hk hs hbx
  refine WE.pure (d := some 3) rfl rfl (by rfl) (v := (.int .i64 (10))) (fun w' hk => ?_) ?_
  · go_simp
  simp only [Act.put, List.setIfInBounds_toArray, List.set_cons_zero, List.set_cons_succ]
  refine WE.done ?_
  have r0 := B1.out.cell (o := 0) (v := .bool false) rfl
  have r1 := B1.out.cell (o := 1) (v := .slice none 0 0) rfl
  go_wp2
  exact bodyPost_ret (v := .tuple #[.agg #[.bool false, .slice none 0 0], .int .i64 10]) (by simp [results, Tryd.results9, go_sem, r0, r1]) rfl ⟨_, rfl, IsZ.nil, E.out⟩

set_option maxHeartbeats 1000000 in
theorem parse_big_t {l d : List UInt8} (hl : l.length ≤ 1000000000000) (hn : d.length ≤ 1000000000000) (hin : ∀ w, Calls Tryd.prog 25 #[str l] w fun e w' => e = .returned (.tuple #[str d, .bool true]) ∧ w' = w) (hnu : M.numeral d = true) (hz : (d == [48]) = false) (hb : decide (360 < (d.length : Int)) = true) (w : World) :
    Calls Tryd.prog 9 #[str l] w (GivesP w 0 0 11) := by
  have HL := hid hl
  have HN := hid hn
  have HNU := hid hnu
  have HZ := hid hz
  have HB := hid hb
  clear hl hn hnu hz hb
  go_enter Tryd.func9, Tryd.ntmps9
  go_upto_region 1 with (fail)
  have E := hid ((Ext.refl w).alloc' (.cells #[.bool false, .slice none 0 0] 24))
  have B1 : Hid (Box (w.alloc (.cells #[.bool false, .slice none 0 0] 24)) (w.heap.size) #[.bool false, .slice none 0 0] 24) := hid (Box.at_ (w := w) #[.bool false, .slice none 0 0] 24 (by simp))
  refine wp_region_T [(0, 0), (1, 1), (2, 0), (3, 0), (4, 0), (5, 0), (6, 0)] (by kernel_rfl) fun wd hb => ?_
  replace E := hid (E.out.trans hb)
  replace B1 := hid (B1.out.up hb)
  clear hb
  refine WE.pure (d := some 7) rfl rfl (by rfl) (v := (str l)) (fun w' hk => ?_) ?_
  · go_simp
  simp only [Act.put, List.setIfInBounds_toArray, List.set_cons_zero, List.set_cons_succ]
  refine WE.call (d := some 8) rfl rfl (by rfl) (f := 25) (args := #[(str l)]) (by go_simp) ?_
  refine (hin _).mono ?_
  rintro e wq ⟨rfl, rfl⟩
  refine ⟨_, rfl, Ext.refl _, ?_⟩
  simp only [Act.put, List.setIfInBounds_toArray, List.set_cons_zero, List.set_cons_succ]
  refine WE.pure (d := some 6) rfl rfl (by rfl) (v := (.tuple #[(str d), (.bool true)])) (fun w' hk => ?_) ?_
  · go_simp
  simp only [Act.put, List.setIfInBounds_toArray, List.set_cons_zero, List.set_cons_succ]
  refine WE.pure (d := some 9) rfl rfl (by rfl) (v := (str d)) (fun w' hk => ?_) ?_
  · go_simp
  simp only [Act.put, List.setIfInBounds_toArray, List.set_cons_zero, List.set_cons_succ]
  refine WE.pure (d := some 10) rfl rfl (by rfl) (v := (.bool true)) (fun w' hk => ?_) ?_
  · go_simp
  simp only [Act.put, List.setIfInBounds_toArray, List.set_cons_zero, List.set_cons_succ]
  refine WE.pure (d := some 4) rfl rfl (by rfl) (v := (str d)) (fun w' hk => ?_) ?_
  · go_simp
  simp only [Act.put, List.setIfInBounds_toArray, List.set_cons_zero, List.set_cons_succ]
  refine WE.pure (d := some 5) rfl rfl (by rfl) (v := (.bool true)) (fun w' hk => ?_) ?_
  · go_simp
  simp only [Act.put, List.setIfInBounds_toArray, List.set_cons_zero, List.set_cons_succ]
  refine WE.done ?_
  go_upto_region 2 with (fail)
  refine wp_region_T [(0, 0), (1, 1), (2, 0), (3, 0), (4, 0), (5, 0), (6, 0), (7, 0), (8, 0), (9, 0), (10, 0)] (by kernel_rfl) fun wd hb => ?_
  replace E := hid (E.out.trans hb)
  replace B1 := hid (B1.out.up hb)
  clear hb
  refine WE.pure (d := some 12) rfl rfl (by rfl) (v := (str d)) (fun w' hk => ?_) ?_
  · go_simp
  simp only [Act.put, List.setIfInBounds_toArray, List.set_cons_zero, List.set_cons_succ]
  refine WE.call (d := some 13) rfl rfl (by rfl) (f := 15) (args := #[(str d)]) (by go_simp) ?_
  refine (numeral_n d _ HN.out).mono ?_
  rw [HNU.out]
  rintro e wq ⟨rfl, rfl⟩
  refine ⟨_, rfl, Ext.refl _, ?_⟩
  simp only [Act.put, List.setIfInBounds_toArray, List.set_cons_zero, List.set_cons_succ]
  refine WE.pure (d := some 14) rfl rfl (by rfl) (v := (.bool false)) (fun w' hk => ?_) ?_
  · go_simp
  simp only [Act.put, List.setIfInBounds_toArray, List.set_cons_zero, List.set_cons_succ]
  refine WE.pure (d := some 15) rfl rfl (by rfl) (v := (.bool false)) (fun w' hk => ?_) ?_
  · go_simp
  simp only [Act.put, List.setIfInBounds_toArray, List.set_cons_zero, List.set_cons_succ]
  refine WE.pure (d := some 16) rfl rfl (by rfl) (v := (.bool true)) (fun w' hk => ?_) ?_
  · go_simp
  simp only [Act.put, List.setIfInBounds_toArray, List.set_cons_zero, List.set_cons_succ]
  refine WE.pure (d := some 17) rfl rfl (by rfl) (v := (.bool true)) (fun w' hk => ?_) ?_
  · go_simp
  simp only [Act.put, List.setIfInBounds_toArray, List.set_cons_zero, List.set_cons_succ]
  refine WE.pure (d := some 18) rfl rfl (by rfl) (v := (str d)) (fun w' hk => ?_) ?_
  · go_simp
  simp only [Act.put, List.setIfInBounds_toArray, List.set_cons_zero, List.set_cons_succ]
  refine WE.pure (d := some 19) rfl rfl (by rfl) (v := (.bool false)) (fun w' hk => ?_) ?_
  · have q := HZ.out; go_simp
  simp only [Act.put, List.setIfInBounds_toArray, List.set_cons_zero, List.set_cons_succ]
  refine WE.pure (d := some 20) rfl rfl (by rfl) (v := (.bool false)) (fun w' hk => ?_) ?_
  · go_simp
  simp only [Act.put, List.setIfInBounds_toArray, List.set_cons_zero, List.set_cons_succ]
  refine WE.pure (d := some 21) rfl rfl (by rfl) (v := (.bool false)) (fun w' hk => ?_) ?_
  · go_simp
  simp only [Act.put, List.setIfInBounds_toArray, List.set_cons_zero, List.set_cons_succ]
  refine WE.pure (d := some 11) rfl rfl (by rfl) (v := (.bool false)) (fun w' hk => ?_) ?_
  · go_simp
  simp only [Act.put, List.setIfInBounds_toArray, List.set_cons_zero, List.set_cons_succ]
  refine WE.done ?_
  go_upto_region 4 with (fail)
  refine wp_region_T [(0, 0), (1, 0), (2, 0), (3, 0)] (by kernel_rfl) fun wd hb => ?_
  replace E := hid (E.out.trans hb)
  replace B1 := hid (B1.out.up hb)
  clear hb
  refine WE.pure (d := some 24) rfl rfl (by rfl) (v := (str d)) (fun w' hk => ?_) ?_
  · go_simp
  simp only [Act.put, List.setIfInBounds_toArray, List.set_cons_zero, List.set_cons_succ]
  refine WE.pure (d := some 25) rfl rfl (by rfl) (v := (.int .i64 (d.length : Int))) (fun w' hk => ?_) ?_
  · go_simp
  simp only [Act.put, List.setIfInBounds_toArray, List.set_cons_zero, List.set_cons_succ]
  refine WE.pure (d := some 26) rfl rfl (by rfl) (v := (.bool true)) (fun w' hk => ?_) ?_
  · have q : decide (360 < (d.length : Int)) = true := HB.out; go_simp
  simp only [Act.put, List.setIfInBounds_toArray, List.set_cons_zero, List.set_cons_succ]
  refine WE.pure (d := some 23) rfl rfl (by rfl) (v := (.bool true)) (fun w' hk => ?_) ?_
  · go_simp
  simp only [Act.put, List.setIfInBounds_toArray, List.set_cons_zero, List.set_cons_succ]
  refine WE.done ?_
  go_upto_region 5 with (fail)
  refine wp_region_T [(0, 0), (1, 4), (2, 0)] (by kernel_rfl) fun wd hb => ?_
  replace E := hid (E.out.trans hb)
  replace B1 := hid (B1.out.up hb)
  clear hb
  refine WE.pure (d := some 27) rfl rfl (by rfl) (v := (.agg #[.bool false, .slice none 0 0])) (fun w' hk => ?_) ?_
  · go_simp
  simp only [Act.put, List.setIfInBounds_toArray, List.set_cons_zero, List.set_cons_succ]
  refine WE.store2 (g := (w.heap.size)) (x := .bool false) (y := .slice none 0 0) (t := 24) rfl rfl (by rfl) (fun w hb => ?_) B1.out (by rfl) fun ws hk hs => ?_
  · have c0 := hb.cell (o := 0) (v := .bool false) rfl; have f0 := hb.free 0; have c1 := hb.cell (o := 1) (v := .slice none 0 0) rfl; have f1 := hb.free 1; go_simp
  intro hbx
  replace E := hid (E.out.keptG hk (by simp))
  replace B1 := hid hbx
  clear hk hs hbx
  refine WE.pure (d := some 3) rfl rfl (by rfl) (v := (.int .i64 (11))) (fun w' hk => ?_) ?_
  · go_simp
  simp only [Act.put, List.setIfInBounds_toArray, List.set_cons_zero, List.set_cons_succ]
  refine WE.done ?_
  have r0 := B1.out.cell (o := 0) (v := .bool false) rfl
  have r1 := B1.out.cell (o := 1) (v := .slice none 0 0) rfl
  go_wp2
  exact bodyPost_ret (v := .tuple #[.agg #[.bool false, .slice none 0 0], .int .i64 11]) (by simp [results, Tryd.results9, go_sem, r0, r1]) rfl ⟨_, rfl, IsZ.nil, E.out⟩

set_option maxHeartbeats 1000000 in
theorem parse_good_t {l d : List UInt8} (hl : l.length ≤ 1000000000000) (hn : d.length ≤ 1000000000000) (hin : ∀ w, Calls Tryd.prog 25 #[str l] w fun e w' => e = .returned (.tuple #[str d, .bool true]) ∧ w' = w) (hnu : M.numeral d = true) (hz : (d == [48]) = false) (hb : decide (360 < (d.length : Int)) = false) (w : World) :
    Calls Tryd.prog 9 #[str l] w (GivesP w (-(M.num d : Int)) 40 0) := by
  have HL := hid hl
  have HN := hid hn
  have HNU := hid hnu
  have HZ := hid hz
  have HB := hid hb
  clear hl hn hnu hz hb
  go_enter Tryd.func9, Tryd.ntmps9
  go_upto_region 1 with (fail)
  have E := hid ((Ext.refl w).alloc' (.cells #[.bool false, .slice none 0 0] 24))
  have B1 : Hid (Box (w.alloc (.cells #[.bool false, .slice none 0 0] 24)) (w.heap.size) #[.bool false, .slice none 0 0] 24) := hid (Box.at_ (w := w) #[.bool false, .slice none 0 0] 24 (by simp))
  refine wp_region_T [(0, 0), (1, 1), (2, 0), (3, 0), (4, 0), (5, 0), (6, 0)] (by kernel_rfl) fun wd hb => ?_
  replace E := hid (E.out.trans hb)
  replace B1 := hid (B1.out.up hb)
  clear hb
  refine WE.pure (d := some 7) rfl rfl (by rfl) (v := (str l)) (fun w' hk => ?_) ?_
  · go_simp
  simp only [Act.put, List.setIfInBounds_toArray, List.set_cons_zero, List.set_cons_succ]
  refine WE.call (d := some 8) rfl rfl (by rfl) (f := 25) (args := #[(str l)]) (by go_simp) ?_
  refine (hin _).mono ?_
  rintro e wq ⟨rfl, rfl⟩
  refine ⟨_, rfl, Ext.refl _, ?_⟩
  simp only [Act.put, List.setIfInBounds_toArray, List.set_cons_zero, List.set_cons_succ]
  refine WE.pure (d := some 6) rfl rfl (by rfl) (v := (.tuple #[(str d), (.bool true)])) (fun w' hk => ?_) ?_
  · go_simp
  simp only [Act.put, List.setIfInBounds_toArray, List.set_cons_zero, List.set_cons_succ]
  refine WE.pure (d := some 9) rfl rfl (by rfl) (v := (str d)) (fun w' hk => ?_) ?_
  · go_simp
  simp only [Act.put, List.setIfInBounds_toArray, List.set_cons_zero, List.set_cons_succ]
  refine WE.pure (d := some 10) rfl rfl (by rfl) (v := (.bool true)) (fun w' hk => ?_) ?_
  · go_simp
  simp only [Act.put, List.setIfInBounds_toArray, List.set_cons_zero, List.set_cons_succ]
  refine WE.pure (d := some 4) rfl rfl (by rfl) (v := (str d)) (fun w' hk => ?_) ?_
  · go_simp
  simp only [Act.put, List.setIfInBounds_toArray, List.set_cons_zero, List.set_cons_succ]
  refine WE.pure (d := some 5) rfl rfl (by rfl) (v := (.bool true)) (fun w' hk => ?_) ?_
  · go_simp
  simp only [Act.put, List.setIfInBounds_toArray, List.set_cons_zero, List.set_cons_succ]
  refine WE.done ?_
  go_upto_region 2 with (fail)
  refine wp_region_T [(0, 0), (1, 1), (2, 0), (3, 0), (4, 0), (5, 0), (6, 0), (7, 0), (8, 0), (9, 0), (10, 0)] (by kernel_rfl) fun wd hb => ?_
  replace E := hid (E.out.trans hb)
  replace B1 := hid (B1.out.up hb)
  clear hb
  refine WE.pure (d := some 12) rfl rfl (by rfl) (v := (str d)) (fun w' hk => ?_) ?_
  · go_simp
  simp only [Act.put, List.setIfInBounds_toArray, List.set_cons_zero, List.set_cons_succ]
  refine WE.call (d := some 13) rfl rfl (by rfl) (f := 15) (args := #[(str d)]) (by go_simp) ?_
  refine (numeral_n d _ HN.out).mono ?_
  rw [HNU.out]
  rintro e wq ⟨rfl, rfl⟩
  refine ⟨_, rfl, Ext.refl _, ?_⟩
  simp only [Act.put, List.setIfInBounds_toArray, List.set_cons_zero, List.set_cons_succ]
  refine WE.pure (d := some 14) rfl rfl (by rfl) (v := (.bool false)) (fun w' hk => ?_) ?_
  · go_simp
  simp only [Act.put, List.setIfInBounds_toArray, List.set_cons_zero, List.set_cons_succ]
  refine WE.pure (d := some 15) rfl rfl (by rfl) (v := (.bool false)) (fun w' hk => ?_) ?_
  · go_simp
  simp only [Act.put, List.setIfInBounds_toArray, List.set_cons_zero, List.set_cons_succ]
  refine WE.pure (d := some 16) rfl rfl (by rfl) (v := (.bool true)) (fun w' hk => ?_) ?_
  · go_simp
  simp only [Act.put, List.setIfInBounds_toArray, List.set_cons_zero, List.set_cons_succ]
  refine WE.pure (d := some 17) rfl rfl (by rfl) (v := (.bool true)) (fun w' hk => ?_) ?_
  · go_simp
  simp only [Act.put, List.setIfInBounds_toArray, List.set_cons_zero, List.set_cons_succ]
  refine WE.pure (d := some 18) rfl rfl (by rfl) (v := (str d)) (fun w' hk => ?_) ?_
  · go_simp
  simp only [Act.put, List.setIfInBounds_toArray, List.set_cons_zero, List.set_cons_succ]
  refine WE.pure (d := some 19) rfl rfl (by rfl) (v := (.bool false)) (fun w' hk => ?_) ?_
  · have q := HZ.out; go_simp
  simp only [Act.put, List.setIfInBounds_toArray, List.set_cons_zero, List.set_cons_succ]
  refine WE.pure (d := some 20) rfl rfl (by rfl) (v := (.bool false)) (fun w' hk => ?_) ?_
  · go_simp
  simp only [Act.put, List.setIfInBounds_toArray, List.set_cons_zero, List.set_cons_succ]
  refine WE.pure (d := some 21) rfl rfl (by rfl) (v := (.bool false)) (fun w' hk => ?_) ?_
  · go_simp
  simp only [Act.put, List.setIfInBounds_toArray, List.set_cons_zero, List.set_cons_succ]
  refine WE.pure (d := some 11) rfl rfl (by rfl) (v := (.bool false)) (fun w' hk => ?_) ?_
  · go_simp
  simp only [Act.put, List.setIfInBounds_toArray, List.set_cons_zero, List.set_cons_succ]
  refine WE.done ?_
  go_upto_region 4 with (fail)
  refine wp_region_T [(0, 0), (1, 0), (2, 0), (3, 0)] (by kernel_rfl) fun wd hb => ?_
  replace E := hid (E.out.trans hb)
  replace B1 := hid (B1.out.up hb)
  clear hb
  refine WE.pure (d := some 24) rfl rfl (by rfl) (v := (str d)) (fun w' hk => ?_) ?_
  · go_simp
  simp only [Act.put, List.setIfInBounds_toArray, List.set_cons_zero, List.set_cons_succ]
  refine WE.pure (d := some 25) rfl rfl (by rfl) (v := (.int .i64 (d.length : Int))) (fun w' hk => ?_) ?_
  · go_simp
  simp only [Act.put, List.setIfInBounds_toArray, List.set_cons_zero, List.set_cons_succ]
  refine WE.pure (d := some 26) rfl rfl (by rfl) (v := (.bool false)) (fun w' hk => ?_) ?_
  · have q : decide (360 < (d.length : Int)) = false := HB.out; go_simp
  simp only [Act.put, List.setIfInBounds_toArray, List.set_cons_zero, List.set_cons_succ]
  refine WE.pure (d := some 23) rfl rfl (by rfl) (v := (.bool false)) (fun w' hk => ?_) ?_
  · go_simp
  simp only [Act.put, List.setIfInBounds_toArray, List.set_cons_zero, List.set_cons_succ]
  refine WE.done ?_
  go_upto_region 6 with (fail)
  refine wp_region_T [(0, 0), (1, 0), (2, 1), (3, 0), (4, 4), (5, 0)] (by kernel_rfl) fun wd hb => ?_
  replace E := hid (E.out.trans hb)
  replace B1 := hid (B1.out.up hb)
  clear hb
  refine WE.pure (d := some 28) rfl rfl (by rfl) (v := (.bool true)) (fun w' hk => ?_) ?_
  · go_simp
  simp only [Act.put, List.setIfInBounds_toArray, List.set_cons_zero, List.set_cons_succ]
  refine WE.pure (d := some 29) rfl rfl (by rfl) (v := (str d)) (fun w' hk => ?_) ?_
  · go_simp
  simp only [Act.put, List.setIfInBounds_toArray, List.set_cons_zero, List.set_cons_succ]
  refine WE.call (d := some 30) rfl rfl (by rfl) (f := 26) (args := #[(str d)]) (by go_simp) ?_
  refine (row_n HNU.out (by have := HB.out; simp at this; omega) _).mono ?_
  rintro e wn ⟨vx, rfl, hx, hb⟩
  obtain ⟨A1, n1, c1, rfl⟩ := hx.1.slice
  refine ⟨_, rfl, hb, ?_⟩
  replace E := hid (E.out.trans hb)
  replace B1 := hid (B1.out.up hb)
  have R1 := hid hx
  clear hb hx
  simp only [Act.put, List.setIfInBounds_toArray, List.set_cons_zero, List.set_cons_succ]
  refine WE.pure (d := some 31) rfl rfl (by rfl) (v := (.agg #[.bool true, .slice A1 n1 c1])) (fun w' hk => ?_) ?_
  · go_simp
  simp only [Act.put, List.setIfInBounds_toArray, List.set_cons_zero, List.set_cons_succ]
  refine WE.store2 (g := (w.heap.size)) (x := .bool true) (y := .slice A1 n1 c1) (t := 24) rfl rfl (by rfl) (fun w hb => ?_) B1.out (by rfl) fun ws hk hs => ?_
  · have c0 := hb.cell (o := 0) (v := .bool false) rfl; have f0 := hb.free 0; have c1 := hb.cell (o := 1) (v := .slice none 0 0) rfl; have f1 := hb.free 1; go_simp
  intro hbx
  replace E := hid (E.out.keptG hk (by simp))
  replace B1 := hid hbx
  replace R1 := hid (R1.out.kz hs)
  clear hk hs hbx
  refine WE.pure (d := some 3) rfl rfl (by rfl) (v := (.int .i64 (0))) (fun w' hk => ?_) ?_
  · go_simp
  simp only [Act.put, List.setIfInBounds_toArray, List.set_cons_zero, List.set_cons_succ]
  refine WE.done ?_
  have r0 := B1.out.cell (o := 0) (v := .bool true) rfl
  have r1 := B1.out.cell (o := 1) (v := .slice A1 n1 c1) rfl
  go_wp2
  exact bodyPost_ret (v := .tuple #[.agg #[.bool true, .slice A1 n1 c1], .int .i64 0]) (by simp [results, Tryd.results9, go_sem, r0, r1]) rfl ⟨_, rfl, IsZ.mk (by have := M.numeral_pos HNU.out HZ.out; rw [eq_comm, decide_eq_true_eq]; omega) ((show IsN _ _ (-(M.num d : Int)).natAbs _ by rw [Int.natAbs_neg]; exact R1.out).wide (by have := HB.out; simp at this; omega)), E.out⟩

set_option maxHeartbeats 1000000 in
theorem parse_no_f {l d : List UInt8} (hl : l.length ≤ 1000000000000) (hn : d.length ≤ 1000000000000) (hin : ∀ w, Calls Tryd.prog 25 #[str l] w fun e w' => e = .returned (.tuple #[str d, .bool false]) ∧ w' = w) (hnu : M.numeral d = false) (w : World) :
    Calls Tryd.prog 9 #[str l] w (GivesP w 0 0 10) := by
  have HL := hid hl
  have HN := hid hn
  have HNU := hid hnu
  clear hl hn hnu
  go_enter Tryd.func9, Tryd.ntmps9
  go_upto_region 1 with (fail)
  have E := hid ((Ext.refl w).alloc' (.cells #[.bool false, .slice none 0 0] 24))
  have B1 : Hid (Box (w.alloc (.cells #[.bool false, .slice none 0 0] 24)) (w.heap.size) #[.bool false, .slice none 0 0] 24) := hid (Box.at_ (w := w) #[.bool false, .slice none 0 0] 24 (by simp))
  refine wp_region_T [(0, 0), (1, 1), (2, 0), (3, 0), (4, 0), (5, 0), (6, 0)] (by kernel_rfl) fun wd hb => ?_
  replace E := hid (E.out.trans hb)
  replace B1 := hid (B1.out.up hb)
  clear hb
  refine WE.pure (d := some 7) rfl rfl (by rfl) (v := (str l)) (fun w' hk => ?_) ?_
  · go_simp
  simp only [Act.put, List.setIfInBounds_toArray, List.set_cons_zero, List.set_cons_succ]
  refine WE.call (d := some 8) rfl rfl (by rfl) (f := 25) (args := #[(str l)]) (by go_simp) ?_
  refine (hin _).mono ?_
  rintro e wq ⟨rfl, rfl⟩
  refine ⟨_, rfl, Ext.refl _, ?_⟩
  simp only [Act.put, List.setIfInBounds_toArray, List.set_cons_zero, List.set_cons_succ]
  refine WE.pure (d := some 6) rfl rfl (by rfl) (v := (.tuple #[(str d), (.bool false)])) (fun w' hk => ?_) ?_
  · go_simp
  simp only [Act.put, List.setIfInBounds_toArray, List.set_cons_zero, List.set_cons_succ]
  refine WE.pure (d := some 9) rfl rfl (by rfl) (v := (str d)) (fun w' hk => ?_) ?_
  · go_simp
  simp only [Act.put, List.setIfInBounds_toArray, List.set_cons_zero, List.set_cons_succ]
  refine WE.pure (d := some 10) rfl rfl (by rfl) (v := (.bool false)) (fun w' hk => ?_) ?_
  · go_simp
  simp only [Act.put, List.setIfInBounds_toArray, List.set_cons_zero, List.set_cons_succ]
  refine WE.pure (d := some 4) rfl rfl (by rfl) (v := (str d)) (fun w' hk => ?_) ?_
  · go_simp
  simp only [Act.put, List.setIfInBounds_toArray, List.set_cons_zero, List.set_cons_succ]
  refine WE.pure (d := some 5) rfl rfl (by rfl) (v := (.bool false)) (fun w' hk => ?_) ?_
  · go_simp
  simp only [Act.put, List.setIfInBounds_toArray, List.set_cons_zero, List.set_cons_succ]
  refine WE.done ?_
  go_upto_region 2 with (fail)
  refine wp_region_T [(0, 0), (1, 1), (2, 0), (3, 0), (4, 0), (5, 0), (6, 0), (7, 0), (8, 0), (9, 0), (10, 0)] (by kernel_rfl) fun wd hb => ?_
  replace E := hid (E.out.trans hb)
  replace B1 := hid (B1.out.up hb)
  clear hb
  refine WE.pure (d := some 12) rfl rfl (by rfl) (v := (str d)) (fun w' hk => ?_) ?_
  · go_simp
  simp only [Act.put, List.setIfInBounds_toArray, List.set_cons_zero, List.set_cons_succ]
  refine WE.call (d := some 13) rfl rfl (by rfl) (f := 15) (args := #[(str d)]) (by go_simp) ?_
  refine (numeral_n d _ HN.out).mono ?_
  rw [HNU.out]
  rintro e wq ⟨rfl, rfl⟩
  refine ⟨_, rfl, Ext.refl _, ?_⟩
  simp only [Act.put, List.setIfInBounds_toArray, List.set_cons_zero, List.set_cons_succ]
  refine WE.pure (d := some 14) rfl rfl (by rfl) (v := (.bool true)) (fun w' hk => ?_) ?_
  · go_simp
  simp only [Act.put, List.setIfInBounds_toArray, List.set_cons_zero, List.set_cons_succ]
  refine WE.pure (d := some 15) rfl rfl (by rfl) (v := (.bool true)) (fun w' hk => ?_) ?_
  · go_simp
  simp only [Act.put, List.setIfInBounds_toArray, List.set_cons_zero, List.set_cons_succ]
  refine WE.skip (d := some 16) rfl rfl (by rfl) ?_
  simp only [Act.put, List.setIfInBounds_toArray, List.set_cons_zero, List.set_cons_succ]
  refine WE.skip (d := some 17) rfl rfl (by rfl) ?_
  simp only [Act.put, List.setIfInBounds_toArray, List.set_cons_zero, List.set_cons_succ]
  refine WE.skip (d := some 18) rfl rfl (by rfl) ?_
  simp only [Act.put, List.setIfInBounds_toArray, List.set_cons_zero, List.set_cons_succ]
  refine WE.skip (d := some 19) rfl rfl (by rfl) ?_
  simp only [Act.put, List.setIfInBounds_toArray, List.set_cons_zero, List.set_cons_succ]
  refine WE.skip (d := some 20) rfl rfl (by rfl) ?_
  simp only [Act.put, List.setIfInBounds_toArray, List.set_cons_zero, List.set_cons_succ]
  refine WE.pure (d := some 21) rfl rfl (by rfl) (v := (.bool true)) (fun w' hk => ?_) ?_
  · go_simp
  simp only [Act.put, List.setIfInBounds_toArray, List.set_cons_zero, List.set_cons_succ]
  refine WE.pure (d := some 11) rfl rfl (by rfl) (v := (.bool true)) (fun w' hk => ?_) ?_
  · go_simp
  simp only [Act.put, List.setIfInBounds_toArray, List.set_cons_zero, List.set_cons_succ]
  refine WE.done ?_
  go_upto_region 3 with (fail)
  refine wp_region_T [(0, 0), (1, 4), (2, 0)] (by kernel_rfl) fun wd hb => ?_
  replace E := hid (E.out.trans hb)
  replace B1 := hid (B1.out.up hb)
  clear hb
  refine WE.pure (d := some 22) rfl rfl (by rfl) (v := (.agg #[.bool false, .slice none 0 0])) (fun w' hk => ?_) ?_
  · go_simp
  simp only [Act.put, List.setIfInBounds_toArray, List.set_cons_zero, List.set_cons_succ]
  refine WE.store2 (g := (w.heap.size)) (x := .bool false) (y := .slice none 0 0) (t := 24) rfl rfl (by rfl) (fun w hb => ?_) B1.out (by rfl) fun ws hk hs => ?_
  · have c0 := hb.cell (o := 0) (v := .bool false) rfl; have f0 := hb.free 0; have c1 := hb.cell (o := 1) (v := .slice none 0 0) rfl; have f1 := hb.free 1; go_simp
  intro hbx
  replace E := hid (E.out.keptG hk (by simp))
  replace B1 := hid hbx
  clear hk hs hbx
  refine WE.pure (d := some 3) rfl rfl (by rfl) (v := (.int .i64 (10))) (fun w' hk => ?_) ?_
  · go_simp
  simp only [Act.put, List.setIfInBounds_toArray, List.set_cons_zero, List.set_cons_succ]
  refine WE.done ?_
  have r0 := B1.out.cell (o := 0) (v := .bool false) rfl
  have r1 := B1.out.cell (o := 1) (v := .slice none 0 0) rfl
  go_wp2
  exact bodyPost_ret (v := .tuple #[.agg #[.bool false, .slice none 0 0], .int .i64 10]) (by simp [results, Tryd.results9, go_sem, r0, r1]) rfl ⟨_, rfl, IsZ.nil, E.out⟩

set_option maxHeartbeats 1000000 in
theorem parse_big_f {l d : List UInt8} (hl : l.length ≤ 1000000000000) (hn : d.length ≤ 1000000000000) (hin : ∀ w, Calls Tryd.prog 25 #[str l] w fun e w' => e = .returned (.tuple #[str d, .bool false]) ∧ w' = w) (hnu : M.numeral d = true) (hb : decide (360 < (d.length : Int)) = true) (w : World) :
    Calls Tryd.prog 9 #[str l] w (GivesP w 0 0 11) := by
  have HL := hid hl
  have HN := hid hn
  have HNU := hid hnu
  have HB := hid hb
  clear hl hn hnu hb
  go_enter Tryd.func9, Tryd.ntmps9
  go_upto_region 1 with (fail)
  have E := hid ((Ext.refl w).alloc' (.cells #[.bool false, .slice none 0 0] 24))
  have B1 : Hid (Box (w.alloc (.cells #[.bool false, .slice none 0 0] 24)) (w.heap.size) #[.bool false, .slice none 0 0] 24) := hid (Box.at_ (w := w) #[.bool false, .slice none 0 0] 24 (by simp))
  refine wp_region_T [(0, 0), (1, 1), (2, 0), (3, 0), (4, 0), (5, 0), (6, 0)] (by kernel_rfl) fun wd hb => ?_
  replace E := hid (E.out.trans hb)
  replace B1 := hid (B1.out.up hb)
  clear hb
  refine WE.pure (d := some 7) rfl rfl (by rfl) (v := (str l)) (fun w' hk => ?_) ?_
  · go_simp
  simp only [Act.put, List.setIfInBounds_toArray, List.set_cons_zero, List.set_cons_succ]
  refine WE.call (d := some 8) rfl rfl (by rfl) (f := 25) (args := #[(str l)]) (by go_simp) ?_
  refine (hin _).mono ?_
  rintro e wq ⟨rfl, rfl⟩
  refine ⟨_, rfl, Ext.refl _, ?_⟩
  simp only [Act.put, List.setIfInBounds_toArray, List.set_cons_zero, List.set_cons_succ]
  refine WE.pure (d := some 6) rfl rfl (by rfl) (v := (.tuple #[(str d), (.bool false)])) (fun w' hk => ?_) ?_
  · go_simp
  simp only [Act.put, List.setIfInBounds_toArray, List.set_cons_zero, List.set_cons_succ]
  refine WE.pure (d := some 9) rfl rfl (by rfl) (v := (str d)) (fun w' hk => ?_) ?_
  · go_simp
  simp only [Act.put, List.setIfInBounds_toArray, List.set_cons_zero, List.set_cons_succ]
  refine WE.pure (d := some 10) rfl rfl (by rfl) (v := (.bool false)) (fun w' hk => ?_) ?_
  · go_simp
  simp only [Act.put, List.setIfInBounds_toArray, List.set_cons_zero, List.set_cons_succ]
  refine WE.pure (d := some 4) rfl rfl (by rfl) (v := (str d)) (fun w' hk => ?_) ?_
  · go_simp
  simp only [Act.put, List.setIfInBounds_toArray, List.set_cons_zero, List.set_cons_succ]
  refine WE.pure (d := some 5) rfl rfl (by rfl) (v := (.bool false)) (fun w' hk => ?_) ?_
  · go_simp
  simp only [Act.put, List.setIfInBounds_toArray, List.set_cons_zero, List.set_cons_succ]
  refine WE.done ?_
  go_upto_region 2 with (fail)
  refine wp_region_T [(0, 0), (1, 1), (2, 0), (3, 0), (4, 0), (5, 0), (6, 0), (7, 0), (8, 0), (9, 0), (10, 0)] (by kernel_rfl) fun wd hb => ?_
  replace E := hid (E.out.trans hb)
  replace B1 := hid (B1.out.up hb)
  clear hb
  refine WE.pure (d := some 12) rfl rfl (by rfl) (v := (str d)) (fun w' hk => ?_) ?_
  · go_simp
  simp only [Act.put, List.setIfInBounds_toArray, List.set_cons_zero, List.set_cons_succ]
  refine WE.call (d := some 13) rfl rfl (by rfl) (f := 15) (args := #[(str d)]) (by go_simp) ?_
  refine (numeral_n d _ HN.out).mono ?_
  rw [HNU.out]
  rintro e wq ⟨rfl, rfl⟩
  refine ⟨_, rfl, Ext.refl _, ?_⟩
  simp only [Act.put, List.setIfInBounds_toArray, List.set_cons_zero, List.set_cons_succ]
  refine WE.pure (d := some 14) rfl rfl (by rfl) (v := (.bool false)) (fun w' hk => ?_) ?_
  · go_simp
  simp only [Act.put, List.setIfInBounds_toArray, List.set_cons_zero, List.set_cons_succ]
  refine WE.pure (d := some 15) rfl rfl (by rfl) (v := (.bool false)) (fun w' hk => ?_) ?_
  · go_simp
  simp only [Act.put, List.setIfInBounds_toArray, List.set_cons_zero, List.set_cons_succ]
  refine WE.pure (d := some 16) rfl rfl (by rfl) (v := (.bool false)) (fun w' hk => ?_) ?_
  · go_simp
  simp only [Act.put, List.setIfInBounds_toArray, List.set_cons_zero, List.set_cons_succ]
  refine WE.pure (d := some 17) rfl rfl (by rfl) (v := (.bool false)) (fun w' hk => ?_) ?_
  · go_simp
  simp only [Act.put, List.setIfInBounds_toArray, List.set_cons_zero, List.set_cons_succ]
  refine WE.skip (d := some 18) rfl rfl (by rfl) ?_
  simp only [Act.put, List.setIfInBounds_toArray, List.set_cons_zero, List.set_cons_succ]
  refine WE.skip (d := some 19) rfl rfl (by rfl) ?_
  simp only [Act.put, List.setIfInBounds_toArray, List.set_cons_zero, List.set_cons_succ]
  refine WE.pure (d := some 20) rfl rfl (by rfl) (v := (.bool false)) (fun w' hk => ?_) ?_
  · go_simp
  simp only [Act.put, List.setIfInBounds_toArray, List.set_cons_zero, List.set_cons_succ]
  refine WE.pure (d := some 21) rfl rfl (by rfl) (v := (.bool false)) (fun w' hk => ?_) ?_
  · go_simp
  simp only [Act.put, List.setIfInBounds_toArray, List.set_cons_zero, List.set_cons_succ]
  refine WE.pure (d := some 11) rfl rfl (by rfl) (v := (.bool false)) (fun w' hk => ?_) ?_
  · go_simp
  simp only [Act.put, List.setIfInBounds_toArray, List.set_cons_zero, List.set_cons_succ]
  refine WE.done ?_
  go_upto_region 4 with (fail)
  refine wp_region_T [(0, 0), (1, 0), (2, 0), (3, 0)] (by kernel_rfl) fun wd hb => ?_
  replace E := hid (E.out.trans hb)
  replace B1 := hid (B1.out.up hb)
  clear hb
  refine WE.pure (d := some 24) rfl rfl (by rfl) (v := (str d)) (fun w' hk => ?_) ?_
  · go_simp
  simp only [Act.put, List.setIfInBounds_toArray, List.set_cons_zero, List.set_cons_succ]
  refine WE.pure (d := some 25) rfl rfl (by rfl) (v := (.int .i64 (d.length : Int))) (fun w' hk => ?_) ?_
  · go_simp
  simp only [Act.put, List.setIfInBounds_toArray, List.set_cons_zero, List.set_cons_succ]
  refine WE.pure (d := some 26) rfl rfl (by rfl) (v := (.bool true)) (fun w' hk => ?_) ?_
  · have q : decide (360 < (d.length : Int)) = true := HB.out; go_simp
  simp only [Act.put, List.setIfInBounds_toArray, List.set_cons_zero, List.set_cons_succ]
  refine WE.pure (d := some 23) rfl rfl (by rfl) (v := (.bool true)) (fun w' hk => ?_) ?_
  · go_simp
  simp only [Act.put, List.setIfInBounds_toArray, List.set_cons_zero, List.set_cons_succ]
  refine WE.done ?_
  go_upto_region 5 with (fail)
  refine wp_region_T [(0, 0), (1, 4), (2, 0)] (by kernel_rfl) fun wd hb => ?_
  replace E := hid (E.out.trans hb)
  replace B1 := hid (B1.out.up hb)
  clear hb
  refine WE.pure (d := some 27) rfl rfl (by rfl) (v := (.agg #[.bool false, .slice none 0 0])) (fun w' hk => ?_) ?_
  · go_simp
  simp only [Act.put, List.setIfInBounds_toArray, List.set_cons_zero, List.set_cons_succ]
  refine WE.store2 (g := (w.heap.size)) (x := .bool false) (y := .slice none 0 0) (t := 24) rfl rfl (by rfl) (fun w hb => ?_) B1.out (by rfl) fun ws hk hs => ?_
  · have c0 := hb.cell (o := 0) (v := .bool false) rfl; have f0 := hb.free 0; have c1 := hb.cell (o := 1) (v := .slice none 0 0) rfl; have f1 := hb.free 1; go_simp
  intro hbx
  replace E := hid (E.out.keptG hk (by simp))
  replace B1 := hid hbx
  clear hk hs hbx
  refine WE.pure (d := some 3) rfl rfl (by rfl) (v := (.int .i64 (11))) (fun w' hk => ?_) ?_
  · go_simp
  simp only [Act.put, List.setIfInBounds_toArray, List.set_cons_zero, List.set_cons_succ]
  refine WE.done ?_
  have r0 := B1.out.cell (o := 0) (v := .bool false) rfl
  have r1 := B1.out.cell (o := 1) (v := .slice none 0 0) rfl
  go_wp2
  exact bodyPost_ret (v := .tuple #[.agg #[.bool false, .slice none 0 0], .int .i64 11]) (by simp [results, Tryd.results9, go_sem, r0, r1]) rfl ⟨_, rfl, IsZ.nil, E.out⟩

set_option maxHeartbeats 1000000 in
theorem parse_good_f {l d : List UInt8} (hl : l.length ≤ 1000000000000) (hn : d.length ≤ 1000000000000) (hin : ∀ w, Calls Tryd.prog 25 #[str l] w fun e w' => e = .returned (.tuple #[str d, .bool false]) ∧ w' = w) (hnu : M.numeral d = true) (hb : decide (360 < (d.length : Int)) = false) (w : World) :
    Calls Tryd.prog 9 #[str l] w (GivesP w (M.num d : Int) 40 0) := by
  have HL := hid hl
  have HN := hid hn
  have HNU := hid hnu
  have HB := hid hb
  clear hl hn hnu hb
  go_enter Tryd.func9, Tryd.ntmps9
  go_upto_region 1 with (fail)
  have E := hid ((Ext.refl w).alloc' (.cells #[.bool false, .slice none 0 0] 24))
  have B1 : Hid (Box (w.alloc (.cells #[.bool false, .slice none 0 0] 24)) (w.heap.size) #[.bool false, .slice none 0 0] 24) := hid (Box.at_ (w := w) #[.bool false, .slice none 0 0] 24 (by simp))
  refine wp_region_T [(0, 0), (1, 1), (2, 0), (3, 0), (4, 0), (5, 0), (6, 0)] (by kernel_rfl) fun wd hb => ?_
  replace E := hid (E.out.trans hb)
  replace B1 := hid (B1.out.up hb)
  clear hb
  refine WE.pure (d := some 7) rfl rfl (by rfl) (v := (str l)) (fun w' hk => ?_) ?_
  · go_simp
  simp only [Act.put, List.setIfInBounds_toArray, List.set_cons_zero, List.set_cons_succ]
  refine WE.call (d := some 8) rfl rfl (by rfl) (f := 25) (args := #[(str l)]) (by go_simp) ?_
  refine (hin _).mono ?_
  rintro e wq ⟨rfl, rfl⟩
  refine ⟨_, rfl, Ext.refl _, ?_⟩
  simp only [Act.put, List.setIfInBounds_toArray, List.set_cons_zero, List.set_cons_succ]
  refine WE.pure (d := some 6) rfl rfl (by rfl) (v := (.tuple #[(str d), (.bool false)])) (fun w' hk => ?_) ?_
  · go_simp
  simp only [Act.put, List.setIfInBounds_toArray, List.set_cons_zero, List.set_cons_succ]
  refine WE.pure (d := some 9) rfl rfl (by rfl) (v := (str d)) (fun w' hk => ?_) ?_
  · go_simp
  simp only [Act.put, List.setIfInBounds_toArray, List.set_cons_zero, List.set_cons_succ]
  refine WE.pure (d := some 10) rfl rfl (by rfl) (v := (.bool false)) (fun w' hk => ?_) ?_
  · go_simp
  simp only [Act.put, List.setIfInBounds_toArray, List.set_cons_zero, List.set_cons_succ]
  refine WE.pure (d := some 4) rfl rfl (by rfl) (v := (str d)) (fun w' hk => ?_) ?_
  · go_simp
  simp only [Act.put, List.setIfInBounds_toArray, List.set_cons_zero, List.set_cons_succ]
  refine WE.pure (d := some 5) rfl rfl (by rfl) (v := (.bool false)) (fun w' hk => ?_) ?_
  · go_simp
  simp only [Act.put, List.setIfInBounds_toArray, List.set_cons_zero, List.set_cons_succ]
  refine WE.done ?_
  go_upto_region 2 with (fail)
  refine wp_region_T [(0, 0), (1, 1), (2, 0), (3, 0), (4, 0), (5, 0), (6, 0), (7, 0), (8, 0), (9, 0), (10, 0)] (by kernel_rfl) fun wd hb => ?_
  replace E := hid (E.out.trans hb)
  replace B1 := hid (B1.out.up hb)
  clear hb
  refine WE.pure (d := some 12) rfl rfl (by rfl) (v := (str d)) (fun w' hk => ?_) ?_
  · go_simp
  simp only [Act.put, List.setIfInBounds_toArray, List.set_cons_zero, List.set_cons_succ]
  refine WE.call (d := some 13) rfl rfl (by rfl) (f := 15) (args := #[(str d)]) (by go_simp) ?_
  refine (numeral_n d _ HN.out).mono ?_
  rw [HNU.out]
  rintro e wq ⟨rfl, rfl⟩
  refine ⟨_, rfl, Ext.refl _, ?_⟩
  simp only [Act.put, List.setIfInBounds_toArray, List.set_cons_zero, List.set_cons_succ]
  refine WE.pure (d := some 14) rfl rfl (by rfl) (v := (.bool false)) (fun w' hk => ?_) ?_
  · go_simp
  simp only [Act.put, List.setIfInBounds_toArray, List.set_cons_zero, List.set_cons_succ]
  refine WE.pure (d := some 15) rfl rfl (by rfl) (v := (.bool false)) (fun w' hk => ?_) ?_
  · go_simp
  simp only [Act.put, List.setIfInBounds_toArray, List.set_cons_zero, List.set_cons_succ]
  refine WE.pure (d := some 16) rfl rfl (by rfl) (v := (.bool false)) (fun w' hk => ?_) ?_
  · go_simp
  simp only [Act.put, List.setIfInBounds_toArray, List.set_cons_zero, List.set_cons_succ]
  refine WE.pure (d := some 17) rfl rfl (by rfl) (v := (.bool false)) (fun w' hk => ?_) ?_
  · go_simp
  simp only [Act.put, List.setIfInBounds_toArray, List.set_cons_zero, List.set_cons_succ]
  refine WE.skip (d := some 18) rfl rfl (by rfl) ?_
  simp only [Act.put, List.setIfInBounds_toArray, List.set_cons_zero, List.set_cons_succ]
  refine WE.skip (d := some 19) rfl rfl (by rfl) ?_
  simp only [Act.put, List.setIfInBounds_toArray, List.set_cons_zero, List.set_cons_succ]
  refine WE.pure (d := some 20) rfl rfl (by rfl) (v := (.bool false)) (fun w' hk => ?_) ?_
  · go_simp
  simp only [Act.put, List.setIfInBounds_toArray, List.set_cons_zero, List.set_cons_succ]
  refine WE.pure (d := some 21) rfl rfl (by rfl) (v := (.bool false)) (fun w' hk => ?_) ?_
  · go_simp
  simp only [Act.put, List.setIfInBounds_toArray, List.set_cons_zero, List.set_cons_succ]
  refine WE.pure (d := some 11) rfl rfl (by rfl) (v := (.bool false)) (fun w' hk => ?_) ?_
  · go_simp
  simp only [Act.put, List.setIfInBounds_toArray, List.set_cons_zero, List.set_cons_succ]
  refine WE.done ?_
  go_upto_region 4 with (fail)
  refine wp_region_T [(0, 0), (1, 0), (2, 0), (3, 0)] (by kernel_rfl) fun wd hb => ?_
  replace E := hid (E.out.trans hb)
  replace B1 := hid (B1.out.up hb)
  clear hb
  refine WE.pure (d := some 24) rfl rfl (by rfl) (v := (str d)) (fun w' hk => ?_) ?_
  · go_simp
  simp only [Act.put, List.setIfInBounds_toArray, List.set_cons_zero, List.set_cons_succ]
  refine WE.pure (d := some 25) rfl rfl (by rfl) (v := (.int .i64 (d.length : Int))) (fun w' hk => ?_) ?_
  · go_simp
  simp only [Act.put, List.setIfInBounds_toArray, List.set_cons_zero, List.set_cons_succ]
  refine WE.pure (d := some 26) rfl rfl (by rfl) (v := (.bool false)) (fun w' hk => ?_) ?_
  · have q : decide (360 < (d.length : Int)) = false := HB.out; go_simp
  simp only [Act.put, List.setIfInBounds_toArray, List.set_cons_zero, List.set_cons_succ]
  refine WE.pure (d := some 23) rfl rfl (by rfl) (v := (.bool false)) (fun w' hk => ?_) ?_
  · go_simp
  simp only [Act.put, List.setIfInBounds_toArray, List.set_cons_zero, List.set_cons_succ]
  refine WE.done ?_
  go_upto_region 6 with (fail)
  refine wp_region_T [(0, 0), (1, 0), (2, 1), (3, 0), (4, 4), (5, 0)] (by kernel_rfl) fun wd hb => ?_
  replace E := hid (E.out.trans hb)
  replace B1 := hid (B1.out.up hb)
  clear hb
  refine WE.pure (d := some 28) rfl rfl (by rfl) (v := (.bool false)) (fun w' hk => ?_) ?_
  · go_simp
  simp only [Act.put, List.setIfInBounds_toArray, List.set_cons_zero, List.set_cons_succ]
  refine WE.pure (d := some 29) rfl rfl (by rfl) (v := (str d)) (fun w' hk => ?_) ?_
  · go_simp
  simp only [Act.put, List.setIfInBounds_toArray, List.set_cons_zero, List.set_cons_succ]
  refine WE.call (d := some 30) rfl rfl (by rfl) (f := 26) (args := #[(str d)]) (by go_simp) ?_
  refine (row_n HNU.out (by have := HB.out; simp at this; omega) _).mono ?_
  rintro e wn ⟨vx, rfl, hx, hb⟩
  obtain ⟨A1, n1, c1, rfl⟩ := hx.1.slice
  refine ⟨_, rfl, hb, ?_⟩
  replace E := hid (E.out.trans hb)
  replace B1 := hid (B1.out.up hb)
  have R1 := hid hx
  clear hb hx
  simp only [Act.put, List.setIfInBounds_toArray, List.set_cons_zero, List.set_cons_succ]
  refine WE.pure (d := some 31) rfl rfl (by rfl) (v := (.agg #[.bool false, .slice A1 n1 c1])) (fun w' hk => ?_) ?_
  · go_simp
  simp only [Act.put, List.setIfInBounds_toArray, List.set_cons_zero, List.set_cons_succ]
  refine WE.store2 (g := (w.heap.size)) (x := .bool false) (y := .slice A1 n1 c1) (t := 24) rfl rfl (by rfl) (fun w hb => ?_) B1.out (by rfl) fun ws hk hs => ?_
  · have c0 := hb.cell (o := 0) (v := .bool false) rfl; have f0 := hb.free 0; have c1 := hb.cell (o := 1) (v := .slice none 0 0) rfl; have f1 := hb.free 1; go_simp
  intro hbx
  replace E := hid (E.out.keptG hk (by simp))
  replace B1 := hid hbx
  replace R1 := hid (R1.out.kz hs)
  clear hk hs hbx
  refine WE.pure (d := some 3) rfl rfl (by rfl) (v := (.int .i64 (0))) (fun w' hk => ?_) ?_
  · go_simp
  simp only [Act.put, List.setIfInBounds_toArray, List.set_cons_zero, List.set_cons_succ]
  refine WE.done ?_
  have r0 := B1.out.cell (o := 0) (v := .bool false) rfl
  have r1 := B1.out.cell (o := 1) (v := .slice A1 n1 c1) rfl
  go_wp2
  exact bodyPost_ret (v := .tuple #[.agg #[.bool false, .slice A1 n1 c1], .int .i64 0]) (by simp [results, Tryd.results9, go_sem, r0, r1]) rfl ⟨_, rfl, IsZ.mk (by rw [eq_comm, decide_eq_false_iff_not]; omega) ((show IsN _ _ (M.num d : Int).natAbs _ from R1.out).wide (by have := HB.out; simp at this; omega)), E.out⟩

theorem GivesP.to {w : World} {Z Y : Int} {j k : Nat} {n m : Int} (hZ : Z = Y) (hj : j ≤ k) (hn : n = m) : ∀ e w', GivesP w Z j n e w' → GivesP w Y k m e w' := by
  subst hZ hn
  rintro e w' ⟨v, h1, h2, h3⟩
  exact ⟨v, h1, h2.wide hj, h3⟩
theorem parse_n (l : List UInt8) (hl : l.length ≤ 1000000000000) (w : World) : Calls Tryd.prog 9 #[str l] w (GivesP w (M.pval l) 40 (M.perr l)) := by
  have hin := fun w => inside_n l w hl
  have hn := Nat.le_trans (M.inside_length l) hl
  unfold M.pval M.perr M.bad
  obtain ⟨d, hd⟩ : ∃ d, d = (M.inside l).1 := ⟨_, rfl⟩
  obtain ⟨g, hg⟩ : ∃ g, g = (M.inside l).2 := ⟨_, rfl⟩
  rw [← hd, ← hg]
  rw [← hd, ← hg] at hin
  rw [← hd] at hn
  clear hd hg
  cases hnu : M.numeral d
  · cases g
    · exact (parse_no_f hl hn hin hnu w).mono (GivesP.to (by simp) (by omega) (by simp))
    · exact (parse_no_t hl hn hin hnu w).mono (GivesP.to (by simp) (by omega) (by simp))
  · cases g
    · cases hb : decide (360 < (d.length : Int))
      · have hb' : ¬ 360 < d.length := by simp at hb; omega
        exact (parse_good_f hl hn hin hnu hb w).mono (GivesP.to (by simp [hb']) (by omega) (by simp [hb']))
      · have hb' : 360 < d.length := by simp at hb; omega
        exact (parse_big_f hl hn hin hnu hb w).mono (GivesP.to (by simp [hb']) (by omega) (by simp [hb']))
    · cases hz : (d == [48])
      · cases hb : decide (360 < (d.length : Int))
        · have hb' : ¬ 360 < d.length := by simp at hb; omega
          exact (parse_good_t hl hn hin hnu hz hb w).mono (GivesP.to (by simp [hb']) (by omega) (by simp [hb']))
        · have hb' : 360 < d.length := by simp at hb; omega
          exact (parse_big_t hl hn hin hnu hz hb w).mono (GivesP.to (by simp [hb']) (by omega) (by simp [hb']))
      · exact (parse_zero hl hn hin hnu hz w).mono (GivesP.to (by simp) (by omega) (by simp))

end Go.Proofs.YthlafkbldlmmaaaDoor
