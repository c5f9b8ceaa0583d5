/-
  DigitsTell, its walks.
-/
import Derived.Test.YthlafkbldlmmaaaDoorTLaid
import Derived.Test.YthlafkbldlmmaaaDoorTRPar
import Derived.Test.YthlafkbldlmmaaaDoorTRParB
import Derived.Test.YthlafkbldlmmaaaDoorRZA
namespace Go.Proofs.YthlafkbldlmmaaaDoor
open Go.ChangeShapes Go.WideShapes Go.ChangeAt Go.RowKit
set_option linter.unusedSimpArgs false
set_option linter.unusedVariables false

namespace M
theorem plain_all {l : List UInt8} {C : Int → Int → Prop} (hin : inside l = (l, false) ∨ l = [40, 45, 32, 41]) (h1 : numeral l = false → C 0 10) (h2 : numeral l = true → decide (360 < (l.length : Int)) = true → C 0 11) (h3 : numeral l = true → decide (360 < (l.length : Int)) = false → C (num l : Int) 0) : C (pval l) (perr l) := by
  cases hnu : numeral l
  · have h := h1 hnu
    rcases hin with hin | hin
    · have e1 : perr l = 10 := by simp [perr, bad, hin, hnu]
      have e2 : pval l = 0 := by simp [pval, bad, hin, hnu]
      rw [e1, e2]; exact h
    · subst hin; rw [short_bad.1, short_bad.2.1]; exact h
  · have hin : inside l = (l, false) := by
      rcases hin with hin | hin
      · exact hin
      · subst hin; rw [short_bad.2.2] at hnu; cases hnu
    cases hb : decide (360 < (l.length : Int))
    · have hb' : ¬ 360 < l.length := by simp at hb; omega
      have e1 : perr l = 0 := by simp [perr, bad, hin, hnu, hb']
      have e2 : pval l = (num l : Int) := by simp [pval, bad, hin, hnu, hb']
      rw [e1, e2]; exact h3 hnu hb
    · have hb' : 360 < l.length := by simp at hb; omega
      have e1 : perr l = 11 := by simp [perr, bad, hin, hnu, hb']
      have e2 : pval l = 0 := by simp [pval, bad, hin, hnu, hb']
      rw [e1, e2]; exact h2 hnu hb
theorem in_all {l d : List UInt8} {C : Int → Int → Prop} (hin : inside l = (d, true)) (h1 : numeral d = false → C 0 10) (h0 : numeral d = true → (d == [48]) = true → C 0 10) (h2 : numeral d = true → (d == [48]) = false → decide (360 < (d.length : Int)) = true → C 0 11) (h3 : numeral d = true → (d == [48]) = false → decide (360 < (d.length : Int)) = false → C (-(num d : Int)) 0) : C (pval l) (perr l) := by
  cases hnu : numeral d
  · have e1 : perr l = 10 := by simp [perr, bad, hin, hnu]
    have e2 : pval l = 0 := by simp [pval, bad, hin, hnu]
    rw [e1, e2]; exact h1 hnu
  · cases hz : (d == [48])
    · cases hb : decide (360 < (d.length : Int))
      · have hb' : ¬ 360 < d.length := by simp at hb; omega
        have e1 : perr l = 0 := by simp [perr, bad, hin, hnu, hb', hz]
        have e2 : pval l = -(num d : Int) := by simp [pval, bad, hin, hnu, hb', hz]
        rw [e1, e2]; exact h3 hnu hz hb
      · have hb' : 360 < d.length := by simp at hb; omega
        have e1 : perr l = 11 := by simp [perr, bad, hin, hnu, hb', hz]
        have e2 : pval l = 0 := by simp [pval, bad, hin, hnu, hb', hz]
        rw [e1, e2]; exact h2 hnu hz hb
    · have e1 : perr l = 10 := by simp [perr, bad, hin, hnu, hz]
      have e2 : pval l = 0 := by simp [pval, bad, hin, hnu, hz]
      rw [e1, e2]; exact h0 hnu hz
end M
theorem rparse_n (l : List UInt8) (hl : l.length ≤ 1000000) : ∃ k, ∀ w, Calls Tryd.prog 10 #[str l] w (GivesP w (M.pval l) k (M.perr l)) := by
  cases h1 : decide (4 < (l.length : Int))
  · have hin := M.inside_short (l := l) (by simp at h1; omega)
    exact ⟨_, fun w => M.plain_all (C := fun Z n => Calls Tryd.prog 10 #[str l] w (GivesP w Z (M.limbs (M.num l)).length n)) hin (fun h => rparse_a_no hl h1 h w) (fun h b => rparse_a_big hl h1 h b w) (fun h b => rparse_a_good hl h1 h b w)⟩
  · cases h2 : (l.take 3 == [40, 45, 32])
    · exact ⟨_, fun w => M.plain_all (C := fun Z n => Calls Tryd.prog 10 #[str l] w (GivesP w Z (M.limbs (M.num l)).length n)) (.inl (M.inside_pre h2)) (fun h => rparse_b_no hl h1 h2 h w) (fun h b => rparse_b_big hl h1 h2 h b w) (fun h b => rparse_b_good hl h1 h2 h b w)⟩
    · have h4 : 4 < l.length := by simp at h1; omega
      obtain ⟨ch, hc⟩ : ∃ ch, l[l.length - 1]? = some ch := ⟨_, List.getElem?_eq_getElem (by omega)⟩
      cases h3 : (ch.toNat == 41)
      · have hne : ch ≠ 41 := by intro e; subst e; simp at h3
        exact ⟨_, fun w => M.plain_all (C := fun Z n => Calls Tryd.prog 10 #[str l] w (GivesP w Z (M.limbs (M.num l)).length n)) (.inl (M.inside_suf hc hne)) (fun h => rparse_c_no hl h1 h2 hc h3 h w) (fun h b => rparse_c_big hl h1 h2 hc h3 h b w) (fun h b => rparse_c_good hl h1 h2 hc h3 h b w)⟩
      · have he : ch = 41 := UInt8.toNat_inj.1 (by simpa using h3)
        have hin := M.inside_yes (d := (l.drop 3).take (l.length - 1 - 3)) h4 (by simpa using h2) hc he rfl
        exact ⟨_, fun w => M.in_all (C := fun Z n => Calls Tryd.prog 10 #[str l] w (GivesP w Z (M.limbs (M.num ((l.drop 3).take (l.length - 1 - 3)))).length n)) hin (fun h => rparse_T_no hl h1 h2 hc h3 rfl h w) (fun h z => rparse_T_zero hl h1 h2 hc h3 rfl h z w) (fun h z b => rparse_T_big hl h1 h2 hc h3 rfl h z b w) (fun h z b => rparse_T_good hl h1 h2 hc h3 rfl h z b w)⟩

set_option maxRecDepth 100000 in
set_option maxHeartbeats 1000000 in
theorem digitsTell_skip0 (W : World) (ht : Tab W) (g : Bool) (A : Option Addr) (n c : Nat) (l : List Nat) (h : Num W W.heap.size (.slice A n c) l) (t : List UInt8) (f1 : Hid (decide (10 < (n : Int)) = true)) :
    Calls Tryd.prog 3 #[.agg #[.bool g, .slice A n c], str t] W (fun e w' => e = .returned (.bool true) ∧ Ext W w') := by
  have HT := hid ht
  have NA := hid h
  clear ht h
  go_enter Tryd.func3, Tryd.ntmps3
  go_upto_region 1 with (fail)
  have E := hid ((Ext.refl W).alloc' (.cells #[.bool g, .slice A n c] 24))
  have B : Hid (Box (W.alloc (.cells #[.bool g, .slice A n c] 24)) (W.heap.size) #[.bool g, .slice A n c] 24) := hid (Box.at_ (w := W) #[.bool g, .slice A n c] 24 (by simp))
  replace NA := hid (NA.out.up E.out)
  refine wp_region_T [(0, 1), (1, 0)] (by kernel_rfl) fun wd hb => ?_
  replace E := hid (E.out.trans hb)
  replace B := hid (B.out.up hb)
  replace NA := hid (NA.out.up hb)
  clear hb
  refine WE.call (d := some 9) rfl rfl (by rfl) (f := 8) (args := #[]) (by go_simp) ?_
  refine (known3 _ (HT.out.up E.out)).mono ?_
  rintro e wn ⟨rfl, hb⟩
  refine ⟨_, rfl, hb, ?_⟩
  replace E := hid (E.out.trans hb)
  replace B := hid (B.out.up hb)
  replace NA := hid (NA.out.up hb)
  clear hb
  simp only [Act.put, List.setIfInBounds_toArray, List.set_cons_zero, List.set_cons_succ]
  refine WE.pure (d := some 10) rfl rfl (by rfl) (v := (.bool false)) (fun w' hk => ?_) ?_
  · go_simp
  simp only [Act.put, List.setIfInBounds_toArray, List.set_cons_zero, List.set_cons_succ]
  refine WE.done ?_
  go_upto_region 3 with (fail)
  refine wp_region_T [(0, 0), (1, 0), (2, 0), (3, 0), (4, 0), (5, 0), (6, 0), (7, 0), (8, 0)] (by kernel_rfl) fun wd hb => ?_
  replace E := hid (E.out.trans hb)
  replace B := hid (B.out.up hb)
  replace NA := hid (NA.out.up hb)
  clear hb
  refine WE.pure (d := some 11) rfl rfl (by rfl) (v := (.pointer (some ⟨(W.heap.size), 1, none⟩))) (fun w' hk => ?_) ?_
  · go_simp
  simp only [Act.put, List.setIfInBounds_toArray, List.set_cons_zero, List.set_cons_succ]
  refine WE.pure (d := some 12) rfl rfl (by rfl) (v := (.slice A n c)) (fun w' hk => ?_) ?_
  · have c1 := hk.cell (B.out.cell (o := 1) (v := .slice A n c) rfl); go_simp
  simp only [Act.put, List.setIfInBounds_toArray, List.set_cons_zero, List.set_cons_succ]
  refine WE.pure (d := some 13) rfl rfl (by rfl) (v := (.int .i64 (n : Int))) (fun w' hk => ?_) ?_
  · go_simp
  simp only [Act.put, List.setIfInBounds_toArray, List.set_cons_zero, List.set_cons_succ]
  refine WE.pure (d := some 14) rfl rfl (by rfl) (v := (.bool true)) (fun w' hk => ?_) ?_
  · have q := f1.out; go_simp
  simp only [Act.put, List.setIfInBounds_toArray, List.set_cons_zero, List.set_cons_succ]
  refine WE.pure (d := some 15) rfl rfl (by rfl) (v := (.bool true)) (fun w' hk => ?_) ?_
  · go_simp
  simp only [Act.put, List.setIfInBounds_toArray, List.set_cons_zero, List.set_cons_succ]
  refine WE.skip (d := some 16) rfl rfl (by rfl) ?_
  simp only [Act.put, List.setIfInBounds_toArray, List.set_cons_zero, List.set_cons_succ]
  refine WE.skip (d := some 17) rfl rfl (by rfl) ?_
  simp only [Act.put, List.setIfInBounds_toArray, List.set_cons_zero, List.set_cons_succ]
  refine WE.skip (d := some 18) rfl rfl (by rfl) ?_
  simp only [Act.put, List.setIfInBounds_toArray, List.set_cons_zero, List.set_cons_succ]
  refine WE.pure (d := some 19) rfl rfl (by rfl) (v := (.bool true)) (fun w' hk => ?_) ?_
  · go_simp
  simp only [Act.put, List.setIfInBounds_toArray, List.set_cons_zero, List.set_cons_succ]
  refine WE.done ?_
  go_wp2
  go_ret
  exact ⟨rfl, E.out⟩

set_option maxRecDepth 100000 in
set_option maxHeartbeats 1000000 in
theorem digitsTell_skip1 (W : World) (ht : Tab W) (g : Bool) (A : Option Addr) (n c : Nat) (l : List Nat) (h : Num W W.heap.size (.slice A n c) l) (t : List UInt8) (f1 : Hid (decide (10 < (n : Int)) = false)) (f2 : Hid (decide (400 < (t.length : Int)) = true)) :
    Calls Tryd.prog 3 #[.agg #[.bool g, .slice A n c], str t] W (fun e w' => e = .returned (.bool true) ∧ Ext W w') := by
  have HT := hid ht
  have NA := hid h
  clear ht h
  go_enter Tryd.func3, Tryd.ntmps3
  go_upto_region 1 with (fail)
  have E := hid ((Ext.refl W).alloc' (.cells #[.bool g, .slice A n c] 24))
  have B : Hid (Box (W.alloc (.cells #[.bool g, .slice A n c] 24)) (W.heap.size) #[.bool g, .slice A n c] 24) := hid (Box.at_ (w := W) #[.bool g, .slice A n c] 24 (by simp))
  replace NA := hid (NA.out.up E.out)
  refine wp_region_T [(0, 1), (1, 0)] (by kernel_rfl) fun wd hb => ?_
  replace E := hid (E.out.trans hb)
  replace B := hid (B.out.up hb)
  replace NA := hid (NA.out.up hb)
  clear hb
  refine WE.call (d := some 9) rfl rfl (by rfl) (f := 8) (args := #[]) (by go_simp) ?_
  refine (known3 _ (HT.out.up E.out)).mono ?_
  rintro e wn ⟨rfl, hb⟩
  refine ⟨_, rfl, hb, ?_⟩
  replace E := hid (E.out.trans hb)
  replace B := hid (B.out.up hb)
  replace NA := hid (NA.out.up hb)
  clear hb
  simp only [Act.put, List.setIfInBounds_toArray, List.set_cons_zero, List.set_cons_succ]
  refine WE.pure (d := some 10) rfl rfl (by rfl) (v := (.bool false)) (fun w' hk => ?_) ?_
  · go_simp
  simp only [Act.put, List.setIfInBounds_toArray, List.set_cons_zero, List.set_cons_succ]
  refine WE.done ?_
  go_upto_region 3 with (fail)
  refine wp_region_T [(0, 0), (1, 0), (2, 0), (3, 0), (4, 0), (5, 0), (6, 0), (7, 0), (8, 0)] (by kernel_rfl) fun wd hb => ?_
  replace E := hid (E.out.trans hb)
  replace B := hid (B.out.up hb)
  replace NA := hid (NA.out.up hb)
  clear hb
  refine WE.pure (d := some 11) rfl rfl (by rfl) (v := (.pointer (some ⟨(W.heap.size), 1, none⟩))) (fun w' hk => ?_) ?_
  · go_simp
  simp only [Act.put, List.setIfInBounds_toArray, List.set_cons_zero, List.set_cons_succ]
  refine WE.pure (d := some 12) rfl rfl (by rfl) (v := (.slice A n c)) (fun w' hk => ?_) ?_
  · have c1 := hk.cell (B.out.cell (o := 1) (v := .slice A n c) rfl); go_simp
  simp only [Act.put, List.setIfInBounds_toArray, List.set_cons_zero, List.set_cons_succ]
  refine WE.pure (d := some 13) rfl rfl (by rfl) (v := (.int .i64 (n : Int))) (fun w' hk => ?_) ?_
  · go_simp
  simp only [Act.put, List.setIfInBounds_toArray, List.set_cons_zero, List.set_cons_succ]
  refine WE.pure (d := some 14) rfl rfl (by rfl) (v := (.bool false)) (fun w' hk => ?_) ?_
  · have q := f1.out; go_simp
  simp only [Act.put, List.setIfInBounds_toArray, List.set_cons_zero, List.set_cons_succ]
  refine WE.pure (d := some 15) rfl rfl (by rfl) (v := (.bool false)) (fun w' hk => ?_) ?_
  · go_simp
  simp only [Act.put, List.setIfInBounds_toArray, List.set_cons_zero, List.set_cons_succ]
  refine WE.pure (d := some 16) rfl rfl (by rfl) (v := (str t)) (fun w' hk => ?_) ?_
  · go_simp
  simp only [Act.put, List.setIfInBounds_toArray, List.set_cons_zero, List.set_cons_succ]
  refine WE.pure (d := some 17) rfl rfl (by rfl) (v := (.int .i64 (t.length : Int))) (fun w' hk => ?_) ?_
  · go_simp
  simp only [Act.put, List.setIfInBounds_toArray, List.set_cons_zero, List.set_cons_succ]
  refine WE.pure (d := some 18) rfl rfl (by rfl) (v := (.bool true)) (fun w' hk => ?_) ?_
  · have q := f2.out; go_simp
  simp only [Act.put, List.setIfInBounds_toArray, List.set_cons_zero, List.set_cons_succ]
  refine WE.pure (d := some 19) rfl rfl (by rfl) (v := (.bool true)) (fun w' hk => ?_) ?_
  · go_simp
  simp only [Act.put, List.setIfInBounds_toArray, List.set_cons_zero, List.set_cons_succ]
  refine WE.done ?_
  go_wp2
  go_ret
  exact ⟨rfl, E.out⟩

set_option maxRecDepth 100000 in
set_option maxHeartbeats 4000000 in
theorem digitsTell_main (W : World) (ht : Tab W) (g : Bool) (A : Option Addr) (n c : Nat) (l : List Nat) (h : Num W W.heap.size (.slice A n c) l) (t : List UInt8) (f1 : Hid (decide (10 < (n : Int)) = false)) (f2 : Hid (decide (400 < (t.length : Int)) = false)) (hll : l.length ≤ 10) (htl : t.length ≤ 400) (Z Y p : Int) (nb : Bool) (s1 s2 : List UInt8) (kr : Nat) (hz : Z = M.zv g l) (hy : M.pval t = Y) (hp : M.perr t = p) (hnb : M.numeral t = nb) (hs1 : M.print Z = s1) (hs2 : Lib.decDigits (M.nv l) = s2) (hrp : ∀ w, Calls Tryd.prog 10 #[str t] w (GivesP w Y kr p)) :
    Calls Tryd.prog 3 #[.agg #[.bool g, .slice A n c], str t] W (fun e w' => e = .returned (.bool true) ∧ Ext W w') := by
  have RW := hid (worth_of h hll hz)
  have HT := hid ht
  have NA := hid h
  clear ht h
  have HLL := hid hll
  have HTL := hid htl
  have HY := hid hy
  have HP := hid hp
  have HNB := hid hnb
  have HS1 := hid hs1
  have HS2 := hid hs2
  have HRP := hid hrp
  clear hll htl hy hp hnb hs1 hs2 hrp hz
  go_enter Tryd.func3, Tryd.ntmps3
  go_upto_region 1 with (fail)
  have E := hid ((Ext.refl W).alloc' (.cells #[.bool g, .slice A n c] 24))
  have B : Hid (Box (W.alloc (.cells #[.bool g, .slice A n c] 24)) (W.heap.size) #[.bool g, .slice A n c] 24) := hid (Box.at_ (w := W) #[.bool g, .slice A n c] 24 (by simp))
  replace NA := hid (NA.out.up E.out)
  replace RW := hid (RW.out.up E.out)
  refine wp_region_T [(0, 1), (1, 0)] (by kernel_rfl) fun wd hb => ?_
  replace E := hid (E.out.trans hb)
  replace B := hid (B.out.up hb)
  replace NA := hid (NA.out.up hb)
  replace RW := hid (RW.out.up hb)
  clear hb
  refine WE.call (d := some 9) rfl rfl (by rfl) (f := 8) (args := #[]) (by go_simp) ?_
  refine (known3 _ (HT.out.up E.out)).mono ?_
  rintro e wn ⟨rfl, hb⟩
  refine ⟨_, rfl, hb, ?_⟩
  replace E := hid (E.out.trans hb)
  replace B := hid (B.out.up hb)
  replace NA := hid (NA.out.up hb)
  replace RW := hid (RW.out.up hb)
  clear hb
  simp only [Act.put, List.setIfInBounds_toArray, List.set_cons_zero, List.set_cons_succ]
  refine WE.pure (d := some 10) rfl rfl (by rfl) (v := (.bool false)) (fun w' hk => ?_) ?_
  · go_simp
  simp only [Act.put, List.setIfInBounds_toArray, List.set_cons_zero, List.set_cons_succ]
  refine WE.done ?_
  go_upto_region 3 with (fail)
  refine wp_region_T [(0, 0), (1, 0), (2, 0), (3, 0), (4, 0), (5, 0), (6, 0), (7, 0), (8, 0)] (by kernel_rfl) fun wd hb => ?_
  replace E := hid (E.out.trans hb)
  replace B := hid (B.out.up hb)
  replace NA := hid (NA.out.up hb)
  replace RW := hid (RW.out.up hb)
  clear hb
  refine WE.pure (d := some 11) rfl rfl (by rfl) (v := (.pointer (some ⟨(W.heap.size), 1, none⟩))) (fun w' hk => ?_) ?_
  · go_simp
  simp only [Act.put, List.setIfInBounds_toArray, List.set_cons_zero, List.set_cons_succ]
  refine WE.pure (d := some 12) rfl rfl (by rfl) (v := (.slice A n c)) (fun w' hk => ?_) ?_
  · have c1 := hk.cell (B.out.cell (o := 1) (v := .slice A n c) rfl); go_simp
  simp only [Act.put, List.setIfInBounds_toArray, List.set_cons_zero, List.set_cons_succ]
  refine WE.pure (d := some 13) rfl rfl (by rfl) (v := (.int .i64 (n : Int))) (fun w' hk => ?_) ?_
  · go_simp
  simp only [Act.put, List.setIfInBounds_toArray, List.set_cons_zero, List.set_cons_succ]
  refine WE.pure (d := some 14) rfl rfl (by rfl) (v := (.bool false)) (fun w' hk => ?_) ?_
  · have q := f1.out; go_simp
  simp only [Act.put, List.setIfInBounds_toArray, List.set_cons_zero, List.set_cons_succ]
  refine WE.pure (d := some 15) rfl rfl (by rfl) (v := (.bool false)) (fun w' hk => ?_) ?_
  · go_simp
  simp only [Act.put, List.setIfInBounds_toArray, List.set_cons_zero, List.set_cons_succ]
  refine WE.pure (d := some 16) rfl rfl (by rfl) (v := (str t)) (fun w' hk => ?_) ?_
  · go_simp
  simp only [Act.put, List.setIfInBounds_toArray, List.set_cons_zero, List.set_cons_succ]
  refine WE.pure (d := some 17) rfl rfl (by rfl) (v := (.int .i64 (t.length : Int))) (fun w' hk => ?_) ?_
  · go_simp
  simp only [Act.put, List.setIfInBounds_toArray, List.set_cons_zero, List.set_cons_succ]
  refine WE.pure (d := some 18) rfl rfl (by rfl) (v := (.bool false)) (fun w' hk => ?_) ?_
  · have q := f2.out; go_simp
  simp only [Act.put, List.setIfInBounds_toArray, List.set_cons_zero, List.set_cons_succ]
  refine WE.pure (d := some 19) rfl rfl (by rfl) (v := (.bool false)) (fun w' hk => ?_) ?_
  · go_simp
  simp only [Act.put, List.setIfInBounds_toArray, List.set_cons_zero, List.set_cons_succ]
  refine WE.done ?_
  go_upto_region 5 with (fail)
  refine wp_region_T [(0, 0), (1, 1), (2, 0), (3, 0), (4, 0), (5, 1), (6, 4), (7, 0)] (by kernel_rfl) fun wd hb => ?_
  replace E := hid (E.out.trans hb)
  replace B := hid (B.out.up hb)
  replace NA := hid (NA.out.up hb)
  replace RW := hid (RW.out.up hb)
  clear hb
  refine WE.pure (d := some 21) rfl rfl (by rfl) (v := (str t)) (fun w' hk => ?_) ?_
  · go_simp
  simp only [Act.put, List.setIfInBounds_toArray, List.set_cons_zero, List.set_cons_succ]
  refine WE.call (d := some 22) rfl rfl (by rfl) (f := 9) (args := #[(str t)]) (by go_simp) ?_
  refine (parse_to (l := t) (by have := HTL.out; omega) _ HY.out HP.out).mono ?_
  rintro e wn ⟨vx, rfl, hx, hb⟩
  obtain ⟨g5, A5, n5, c5, rfl, hs5, hr5⟩ := hx.form
  clear hx
  refine ⟨_, rfl, hb, ?_⟩
  replace E := hid (E.out.trans hb)
  replace B := hid (B.out.up hb)
  replace NA := hid (NA.out.up hb)
  replace RW := hid (RW.out.up hb)
  have HS5 := hid hs5
  have R5 := hid hr5
  clear hb hs5 hr5
  simp only [Act.put, List.setIfInBounds_toArray, List.set_cons_zero, List.set_cons_succ]
  refine WE.pure (d := some 20) rfl rfl (by rfl) (v := (.tuple #[(.agg #[.bool g5, .slice A5 n5 c5]), (.int .i64 p)])) (fun w' hk => ?_) ?_
  · go_simp
  simp only [Act.put, List.setIfInBounds_toArray, List.set_cons_zero, List.set_cons_succ]
  refine WE.pure (d := some 23) rfl rfl (by rfl) (v := (.agg #[.bool g5, .slice A5 n5 c5])) (fun w' hk => ?_) ?_
  · go_simp
  simp only [Act.put, List.setIfInBounds_toArray, List.set_cons_zero, List.set_cons_succ]
  refine WE.pure (d := some 24) rfl rfl (by rfl) (v := (.int .i64 p)) (fun w' hk => ?_) ?_
  · go_simp
  simp only [Act.put, List.setIfInBounds_toArray, List.set_cons_zero, List.set_cons_succ]
  refine WE.new (d := some 5) (cs := #[.bool false, .slice none 0 0]) (t := 24) (v := fun g => (.pointer (some ⟨g, 0, none⟩))) rfl rfl (by rfl) (fun w => by go_simp) fun gN1 wv hx0 hbox hge => ?_
  have HNN1B := hid (show gN1 ≠ (W.heap.size) by have := B.out.lt; omega)
  have HGN1 := hid (show W.heap.size ≤ gN1 by have := E.out.size; omega)
  replace E := hid (E.out.trans hx0)
  replace B := hid (B.out.up hx0)
  replace NA := hid (NA.out.up hx0)
  replace RW := hid (RW.out.up hx0)
  replace R5 := hid (R5.out.up hx0)
  have N1 : Hid (Box wv gN1 #[.bool false, .slice none 0 0] 24) := hid hbox
  clear hx0 hbox hge
  simp only [Act.put, List.setIfInBounds_toArray, List.set_cons_zero, List.set_cons_succ]
  refine WE.store2 (g := gN1) (x := .bool g5) (y := .slice A5 n5 c5) (t := 24) rfl rfl (by rfl) (fun w hb => ?_) N1.out (by rfl) fun ws hk hs => ?_
  · have c0 := hb.cell (o := 0) (v := .bool false) rfl; have f0 := hb.free 0; have c1 := hb.cell (o := 1) (v := .slice none 0 0) rfl; have f1 := hb.free 1; go_simp
  intro hbx
  replace E := hid (E.out.keptG hk HGN1.out)
  replace B := hid (B.out.kept hk (by simpa using HNN1B.out.symm))
  replace N1 := hid hbx
  replace NA := hid (NA.out.kz hs)
  replace RW := hid (RW.out.kz hs)
  replace R5 := hid (R5.out.kz hs)
  clear hk hs hbx
  refine WE.pure (d := some 6) rfl rfl (by rfl) (v := (.int .i64 p)) (fun w' hk => ?_) ?_
  · go_simp
  simp only [Act.put, List.setIfInBounds_toArray, List.set_cons_zero, List.set_cons_succ]
  refine WE.done ?_
  go_upto_region 6 with (fail)
  refine wp_region_T [(0, 0), (1, 1), (2, 0), (3, 0), (4, 0), (5, 1), (6, 4), (7, 0)] (by kernel_rfl) fun wd hb => ?_
  replace E := hid (E.out.trans hb)
  replace B := hid (B.out.up hb)
  replace N1 := hid (N1.out.up hb)
  replace NA := hid (NA.out.up hb)
  replace RW := hid (RW.out.up hb)
  replace R5 := hid (R5.out.up hb)
  clear hb
  refine WE.pure (d := some 26) rfl rfl (by rfl) (v := (str t)) (fun w' hk => ?_) ?_
  · go_simp
  simp only [Act.put, List.setIfInBounds_toArray, List.set_cons_zero, List.set_cons_succ]
  refine WE.call (d := some 27) rfl rfl (by rfl) (f := 10) (args := #[(str t)]) (by go_simp) ?_
  refine (HRP.out _).mono ?_
  rintro e wn ⟨vx, rfl, hx, hb⟩
  obtain ⟨g6, A6, n6, c6, rfl, hs6, hr6⟩ := hx.form
  clear hx
  refine ⟨_, rfl, hb, ?_⟩
  replace E := hid (E.out.trans hb)
  replace B := hid (B.out.up hb)
  replace N1 := hid (N1.out.up hb)
  replace NA := hid (NA.out.up hb)
  replace RW := hid (RW.out.up hb)
  replace R5 := hid (R5.out.up hb)
  have HS6 := hid hs6
  have R6 := hid hr6
  clear hb hs6 hr6
  simp only [Act.put, List.setIfInBounds_toArray, List.set_cons_zero, List.set_cons_succ]
  refine WE.pure (d := some 25) rfl rfl (by rfl) (v := (.tuple #[(.agg #[.bool g6, .slice A6 n6 c6]), (.int .i64 p)])) (fun w' hk => ?_) ?_
  · go_simp
  simp only [Act.put, List.setIfInBounds_toArray, List.set_cons_zero, List.set_cons_succ]
  refine WE.pure (d := some 28) rfl rfl (by rfl) (v := (.agg #[.bool g6, .slice A6 n6 c6])) (fun w' hk => ?_) ?_
  · go_simp
  simp only [Act.put, List.setIfInBounds_toArray, List.set_cons_zero, List.set_cons_succ]
  refine WE.pure (d := some 29) rfl rfl (by rfl) (v := (.int .i64 p)) (fun w' hk => ?_) ?_
  · go_simp
  simp only [Act.put, List.setIfInBounds_toArray, List.set_cons_zero, List.set_cons_succ]
  refine WE.new (d := some 7) (cs := #[.bool false, .slice none 0 0]) (t := 24) (v := fun g => (.pointer (some ⟨g, 0, none⟩))) rfl rfl (by rfl) (fun w => by go_simp) fun gN2 wv hx0 hbox hge => ?_
  have HNN2B := hid (show gN2 ≠ (W.heap.size) by have := B.out.lt; omega)
  have HNN2N1 := hid (show gN2 ≠ gN1 by have := N1.out.lt; omega)
  have HGN2 := hid (show W.heap.size ≤ gN2 by have := E.out.size; omega)
  replace E := hid (E.out.trans hx0)
  replace B := hid (B.out.up hx0)
  replace N1 := hid (N1.out.up hx0)
  replace NA := hid (NA.out.up hx0)
  replace RW := hid (RW.out.up hx0)
  replace R5 := hid (R5.out.up hx0)
  replace R6 := hid (R6.out.up hx0)
  have N2 : Hid (Box wv gN2 #[.bool false, .slice none 0 0] 24) := hid hbox
  clear hx0 hbox hge
  simp only [Act.put, List.setIfInBounds_toArray, List.set_cons_zero, List.set_cons_succ]
  refine WE.store2 (g := gN2) (x := .bool g6) (y := .slice A6 n6 c6) (t := 24) rfl rfl (by rfl) (fun w hb => ?_) N2.out (by rfl) fun ws hk hs => ?_
  · have c0 := hb.cell (o := 0) (v := .bool false) rfl; have f0 := hb.free 0; have c1 := hb.cell (o := 1) (v := .slice none 0 0) rfl; have f1 := hb.free 1; go_simp
  intro hbx
  replace E := hid (E.out.keptG hk HGN2.out)
  replace B := hid (B.out.kept hk (by simpa using HNN2B.out.symm))
  replace N1 := hid (N1.out.kept hk (by simpa using HNN2N1.out.symm))
  replace N2 := hid hbx
  replace NA := hid (NA.out.kz hs)
  replace RW := hid (RW.out.kz hs)
  replace R5 := hid (R5.out.kz hs)
  replace R6 := hid (R6.out.kz hs)
  clear hk hs hbx
  refine WE.pure (d := some 8) rfl rfl (by rfl) (v := (.int .i64 p)) (fun w' hk => ?_) ?_
  · go_simp
  simp only [Act.put, List.setIfInBounds_toArray, List.set_cons_zero, List.set_cons_succ]
  refine WE.done ?_
  go_upto_region 7 with (fail)
  refine wp_region_E [(0, 0), (2, 0), (1, 1), (3, 1), (4, 0), (5, 0), (6, 0), (7, 0), (9, 0), (10, 0), (8, 1), (11, 1), (12, 0), (13, 0), (14, 0), (15, 0), (17, 0), (16, 1), (18, 1), (19, 0), (20, 0), (21, 0), (22, 0), (23, 0), (24, 1), (25, 0), (26, 0), (27, 0), (28, 0), (29, 0), (30, 0), (31, 0)] (fun _ => (0, #[])) rfl (by kernel_rfl) (by intro j hj; cases hj) (fun _ _ d _ _ => by cases d <;> exact Iff.rfl) fun wd hb => ?_
  replace E := hid (E.out.trans hb)
  replace B := hid (B.out.up hb)
  replace N1 := hid (N1.out.up hb)
  replace N2 := hid (N2.out.up hb)
  replace NA := hid (NA.out.up hb)
  replace RW := hid (RW.out.up hb)
  replace R5 := hid (R5.out.up hb)
  replace R6 := hid (R6.out.up hb)
  clear hb
  refine WE.pure (d := some 30) rfl rfl (by rfl) (v := (.agg #[.bool g, .slice A n c])) (fun w' hk => ?_) ?_
  · have c0 := hk.cell (B.out.cell (o := 0) (v := .bool g) rfl); have c1 := hk.cell (B.out.cell (o := 1) (v := .slice A n c) rfl); go_simp
  simp only [Act.put, List.setIfInBounds_toArray, List.set_cons_zero, List.set_cons_succ]
  refine WE.pure (d := some 32) rfl rfl (by rfl) (v := (.agg #[.bool g, .slice A n c])) (fun w' hk => ?_) ?_
  · have c0 := hk.cell (B.out.cell (o := 0) (v := .bool g) rfl); have c1 := hk.cell (B.out.cell (o := 1) (v := .slice A n c) rfl); go_simp
  simp only [Act.put, List.setIfInBounds_toArray, List.set_cons_zero, List.set_cons_succ]
  refine WE.call (d := some 31) rfl rfl (by rfl) (f := 11) (args := #[(.agg #[.bool g, .slice A n c])]) (by go_simp) ?_
  refine (print_to RW.out (by omega) (HT.out.up E.out) HS1.out).mono ?_
  rintro e wn ⟨rfl, hb⟩
  refine ⟨_, rfl, hb, ?_⟩
  replace E := hid (E.out.trans hb)
  replace B := hid (B.out.up hb)
  replace N1 := hid (N1.out.up hb)
  replace N2 := hid (N2.out.up hb)
  replace NA := hid (NA.out.up hb)
  replace RW := hid (RW.out.up hb)
  replace R5 := hid (R5.out.up hb)
  replace R6 := hid (R6.out.up hb)
  clear hb
  simp only [Act.put, List.setIfInBounds_toArray, List.set_cons_zero, List.set_cons_succ]
  refine WE.call (d := some 33) rfl rfl (by rfl) (f := 12) (args := #[(.agg #[.bool g, .slice A n c])]) (by go_simp) ?_
  refine (HS1.out ▸ rPrint_w RW.out (by omega)).mono ?_
  rintro e wn ⟨rfl, hb⟩
  refine ⟨_, rfl, hb, ?_⟩
  replace E := hid (E.out.trans hb)
  replace B := hid (B.out.up hb)
  replace N1 := hid (N1.out.up hb)
  replace N2 := hid (N2.out.up hb)
  replace NA := hid (NA.out.up hb)
  replace RW := hid (RW.out.up hb)
  replace R5 := hid (R5.out.up hb)
  replace R6 := hid (R6.out.up hb)
  clear hb
  simp only [Act.put, List.setIfInBounds_toArray, List.set_cons_zero, List.set_cons_succ]
  refine WE.pure (d := some 34) rfl rfl (by rfl) (v := (.bool true)) (fun w' hk => ?_) ?_
  · go_simp
  simp only [Act.put, List.setIfInBounds_toArray, List.set_cons_zero, List.set_cons_succ]
  refine WE.pure (d := some 35) rfl rfl (by rfl) (v := (.bool true)) (fun w' hk => ?_) ?_
  · go_simp
  simp only [Act.put, List.setIfInBounds_toArray, List.set_cons_zero, List.set_cons_succ]
  refine WE.pure (d := some 36) rfl rfl (by rfl) (v := (.pointer (some ⟨(W.heap.size), 1, none⟩))) (fun w' hk => ?_) ?_
  · go_simp
  simp only [Act.put, List.setIfInBounds_toArray, List.set_cons_zero, List.set_cons_succ]
  refine WE.pure (d := some 37) rfl rfl (by rfl) (v := (.slice A n c)) (fun w' hk => ?_) ?_
  · have c1 := hk.cell (B.out.cell (o := 1) (v := .slice A n c) rfl); go_simp
  simp only [Act.put, List.setIfInBounds_toArray, List.set_cons_zero, List.set_cons_succ]
  refine WE.pure (d := some 39) rfl rfl (by rfl) (v := (.pointer (some ⟨(W.heap.size), 1, none⟩))) (fun w' hk => ?_) ?_
  · go_simp
  simp only [Act.put, List.setIfInBounds_toArray, List.set_cons_zero, List.set_cons_succ]
  refine WE.pure (d := some 40) rfl rfl (by rfl) (v := (.slice A n c)) (fun w' hk => ?_) ?_
  · have c1 := hk.cell (B.out.cell (o := 1) (v := .slice A n c) rfl); go_simp
  simp only [Act.put, List.setIfInBounds_toArray, List.set_cons_zero, List.set_cons_succ]
  refine WE.call (d := some 38) rfl rfl (by rfl) (f := 13) (args := #[(.slice A n c)]) (by go_simp) ?_
  refine (digitsNat_to NA.out (by have := HLL.out; omega) (HT.out.up E.out) HS2.out).mono ?_
  rintro e wn ⟨rfl, hb⟩
  refine ⟨_, rfl, hb, ?_⟩
  replace E := hid (E.out.trans hb)
  replace B := hid (B.out.up hb)
  replace N1 := hid (N1.out.up hb)
  replace N2 := hid (N2.out.up hb)
  replace NA := hid (NA.out.up hb)
  replace RW := hid (RW.out.up hb)
  replace R5 := hid (R5.out.up hb)
  replace R6 := hid (R6.out.up hb)
  clear hb
  simp only [Act.put, List.setIfInBounds_toArray, List.set_cons_zero, List.set_cons_succ]
  refine WE.call (d := some 41) rfl rfl (by rfl) (f := 14) (args := #[(.slice A n c)]) (by go_simp) ?_
  refine (HS2.out ▸ rText_any NA.out (by have := HLL.out; omega)).mono ?_
  rintro e wn ⟨rfl, hb⟩
  refine ⟨_, rfl, hb, ?_⟩
  replace E := hid (E.out.trans hb)
  replace B := hid (B.out.up hb)
  replace N1 := hid (N1.out.up hb)
  replace N2 := hid (N2.out.up hb)
  replace NA := hid (NA.out.up hb)
  replace RW := hid (RW.out.up hb)
  replace R5 := hid (R5.out.up hb)
  replace R6 := hid (R6.out.up hb)
  clear hb
  simp only [Act.put, List.setIfInBounds_toArray, List.set_cons_zero, List.set_cons_succ]
  refine WE.pure (d := some 42) rfl rfl (by rfl) (v := (.bool true)) (fun w' hk => ?_) ?_
  · go_simp
  simp only [Act.put, List.setIfInBounds_toArray, List.set_cons_zero, List.set_cons_succ]
  refine WE.pure (d := some 43) rfl rfl (by rfl) (v := (.bool true)) (fun w' hk => ?_) ?_
  · go_simp
  simp only [Act.put, List.setIfInBounds_toArray, List.set_cons_zero, List.set_cons_succ]
  refine WE.pure (d := some 44) rfl rfl (by rfl) (v := (.bool true)) (fun w' hk => ?_) ?_
  · go_simp
  simp only [Act.put, List.setIfInBounds_toArray, List.set_cons_zero, List.set_cons_succ]
  refine WE.pure (d := some 45) rfl rfl (by rfl) (v := (str t)) (fun w' hk => ?_) ?_
  · go_simp
  simp only [Act.put, List.setIfInBounds_toArray, List.set_cons_zero, List.set_cons_succ]
  refine WE.pure (d := some 47) rfl rfl (by rfl) (v := (str t)) (fun w' hk => ?_) ?_
  · go_simp
  simp only [Act.put, List.setIfInBounds_toArray, List.set_cons_zero, List.set_cons_succ]
  refine WE.call (d := some 46) rfl rfl (by rfl) (f := 15) (args := #[(str t)]) (by go_simp) ?_
  refine (numeral_to t _ (by have := HTL.out; omega) HNB.out).mono ?_
  rintro e wq ⟨rfl, rfl⟩
  refine ⟨_, rfl, Ext.refl _, ?_⟩
  simp only [Act.put, List.setIfInBounds_toArray, List.set_cons_zero, List.set_cons_succ]
  refine WE.call (d := some 48) rfl rfl (by rfl) (f := 16) (args := #[(str t)]) (by go_simp) ?_
  refine (HNB.out ▸ rNumeral_n t _ (by have := HTL.out; omega)).mono ?_
  rintro e wq ⟨rfl, rfl⟩
  refine ⟨_, rfl, Ext.refl _, ?_⟩
  simp only [Act.put, List.setIfInBounds_toArray, List.set_cons_zero, List.set_cons_succ]
  refine WE.pure (d := some 49) rfl rfl (by rfl) (v := (.bool true)) (fun w' hk => ?_) ?_
  · go_simp
  simp only [Act.put, List.setIfInBounds_toArray, List.set_cons_zero, List.set_cons_succ]
  refine WE.pure (d := some 50) rfl rfl (by rfl) (v := (.bool true)) (fun w' hk => ?_) ?_
  · go_simp
  simp only [Act.put, List.setIfInBounds_toArray, List.set_cons_zero, List.set_cons_succ]
  refine WE.pure (d := some 51) rfl rfl (by rfl) (v := (.bool true)) (fun w' hk => ?_) ?_
  · go_simp
  simp only [Act.put, List.setIfInBounds_toArray, List.set_cons_zero, List.set_cons_succ]
  refine WE.pure (d := some 52) rfl rfl (by rfl) (v := (.agg #[.bool g5, .slice A5 n5 c5])) (fun w' hk => ?_) ?_
  · have c0 := hk.cell (N1.out.cell (o := 0) (v := .bool g5) rfl); have c1 := hk.cell (N1.out.cell (o := 1) (v := .slice A5 n5 c5) rfl); go_simp
  simp only [Act.put, List.setIfInBounds_toArray, List.set_cons_zero, List.set_cons_succ]
  refine WE.pure (d := some 53) rfl rfl (by rfl) (v := (.agg #[.bool g6, .slice A6 n6 c6])) (fun w' hk => ?_) ?_
  · have c0 := hk.cell (N2.out.cell (o := 0) (v := .bool g6) rfl); have c1 := hk.cell (N2.out.cell (o := 1) (v := .slice A6 n6 c6) rfl); go_simp
  simp only [Act.put, List.setIfInBounds_toArray, List.set_cons_zero, List.set_cons_succ]
  refine WE.call (d := some 54) rfl rfl (by rfl) (f := 17) (args := #[(.agg #[.bool g5, .slice A5 n5 c5]), (.agg #[.bool g6, .slice A6 n6 c6])]) (by go_simp) ?_
  refine (equal_z (IsZ.mk HS5.out R5.out) (IsZ.mk HS6.out R6.out)).mono ?_
  rintro e wn ⟨rfl, hb⟩
  refine ⟨_, rfl, hb, ?_⟩
  replace E := hid (E.out.trans hb)
  replace B := hid (B.out.up hb)
  replace N1 := hid (N1.out.up hb)
  replace N2 := hid (N2.out.up hb)
  replace NA := hid (NA.out.up hb)
  replace RW := hid (RW.out.up hb)
  replace R5 := hid (R5.out.up hb)
  replace R6 := hid (R6.out.up hb)
  clear hb
  simp only [Act.put, List.setIfInBounds_toArray, List.set_cons_zero, List.set_cons_succ]
  refine WE.pure (d := some 55) rfl rfl (by rfl) (v := (.bool true)) (fun w' hk => ?_) ?_
  · go_simp
  simp only [Act.put, List.setIfInBounds_toArray, List.set_cons_zero, List.set_cons_succ]
  refine WE.pure (d := some 56) rfl rfl (by rfl) (v := (.bool true)) (fun w' hk => ?_) ?_
  · go_simp
  simp only [Act.put, List.setIfInBounds_toArray, List.set_cons_zero, List.set_cons_succ]
  refine WE.pure (d := some 57) rfl rfl (by rfl) (v := (.int .i64 p)) (fun w' hk => ?_) ?_
  · go_simp
  simp only [Act.put, List.setIfInBounds_toArray, List.set_cons_zero, List.set_cons_succ]
  refine WE.pure (d := some 58) rfl rfl (by rfl) (v := (.int .i64 p)) (fun w' hk => ?_) ?_
  · go_simp
  simp only [Act.put, List.setIfInBounds_toArray, List.set_cons_zero, List.set_cons_succ]
  refine WE.pure (d := some 59) rfl rfl (by rfl) (v := (.bool true)) (fun w' hk => ?_) ?_
  · go_simp
  simp only [Act.put, List.setIfInBounds_toArray, List.set_cons_zero, List.set_cons_succ]
  refine WE.pure (d := some 60) rfl rfl (by rfl) (v := (.bool true)) (fun w' hk => ?_) ?_
  · go_simp
  simp only [Act.put, List.setIfInBounds_toArray, List.set_cons_zero, List.set_cons_succ]
  refine WE.pure (d := some 4) rfl rfl (by rfl) (v := (.bool true)) (fun w' hk => ?_) ?_
  · go_simp
  simp only [Act.put, List.setIfInBounds_toArray, List.set_cons_zero, List.set_cons_succ]
  refine WE.done ?_
  go_wp2
  go_ret
  exact ⟨rfl, E.out⟩

end Go.Proofs.YthlafkbldlmmaaaDoor
