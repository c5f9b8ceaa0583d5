/-
  Contracts of the inner methods of package whole, over numbers.
-/
import Derived.Test.YtaoboilkpgphaaaDoorZWords
import Derived.Test.YtaoboilkpgphaaaDoorJA
import Derived.Test.YtaoboilkpgphaaaDoorJM
import Derived.Test.YtaoboilkpgphaaaDoorJB
import Derived.Test.YtaoboilkpgphaaaDoorShelf
import Derived.Deep.DeepCutAuto
import Derived.Deep.CutBlock
import Derived.Lib.ItoaNum
import Derived.Laws.Bits64b
import Derived.Laws.Externs
import Derived.Laws.CopyOwn
import Derived.Test.YtaoboilkpgphaaaDoorJB
import Derived.Lib.SliceRun
import Derived.Deep.Cut
namespace Go.Proofs.YtaoboilkpgphaaaDoor
open Go.RowKit
set_option linter.unusedSimpArgs false
set_option linter.unusedVariables false

theorem wIs_f (w : World) (g : Bool) (A : Option Addr) (n c : Nat) (l : List Nat) (hm : Num w w.heap.size (.slice A n c) l) (hI : M.isNat l = false) :
 Calls Tryd.prog 55 #[.agg #[.bool g, .slice A n c]] w (GivesB w false) := by
 have HI := hid hI
 have HM := hid hm
 clear hI hm
 go_enter Tryd.func55, Tryd.ntmps55
 go_wp2_with fail
 refine (isNat_l (HM.out.up (Ext.alloc w _)) HI.out).mono ?_
 rintro e wq ⟨rfl, rfl⟩
 go_wp2
 go_ret
 exact ⟨rfl, Ext.alloc _ _⟩

theorem wIs_tzt (w : World) (A : Option Addr) (n c : Nat) (l : List Nat) (hm : Num w w.heap.size (.slice A n c) l) (hI : M.isNat l = true) (hn : n = 0) :
 Calls Tryd.prog 55 #[.agg #[.bool true, .slice A n c]] w (GivesB w false) := by
 have HI := hid hI
 have HM := hid hm
 clear hI hm
 subst hn
 go_enter Tryd.func55, Tryd.ntmps55
 go_wp2_with fail
 refine (isNat_l (HM.out.up (Ext.alloc w _)) HI.out).mono ?_
 rintro e wq ⟨rfl, rfl⟩
 go_wp2
 go_ret
 exact ⟨rfl, Ext.alloc _ _⟩

theorem wIs_tzf (w : World) (A : Option Addr) (n c : Nat) (l : List Nat) (hm : Num w w.heap.size (.slice A n c) l) (hI : M.isNat l = true) (hn : n = 0) :
 Calls Tryd.prog 55 #[.agg #[.bool false, .slice A n c]] w (GivesB w true) := by
 have HI := hid hI
 have HM := hid hm
 clear hI hm
 subst hn
 go_enter Tryd.func55, Tryd.ntmps55
 go_wp2_with fail
 refine (isNat_l (HM.out.up (Ext.alloc w _)) HI.out).mono ?_
 rintro e wq ⟨rfl, rfl⟩
 go_wp2
 go_ret
 exact ⟨rfl, Ext.alloc _ _⟩

theorem wIs_tpt (w : World) (A : Option Addr) (n c : Nat) (l : List Nat) (hm : Num w w.heap.size (.slice A n c) l) (hI : M.isNat l = true) (hn : 0 < n) :
 Calls Tryd.prog 55 #[.agg #[.bool true, .slice A n c]] w (GivesB w true) := by
 have HI := hid hI
 have HM := hid hm
 clear hI hm
 have hn1 : decide (0 < n) = true := by simpa using hn
 go_enter Tryd.func55, Tryd.ntmps55
 go_wp2_with fail
 refine (isNat_l (HM.out.up (Ext.alloc w _)) HI.out).mono ?_
 rintro e wq ⟨rfl, rfl⟩
 go_wp2
 go_ret
 exact ⟨rfl, Ext.alloc _ _⟩

theorem wIs_tpf (w : World) (A : Option Addr) (n c : Nat) (l : List Nat) (hm : Num w w.heap.size (.slice A n c) l) (hI : M.isNat l = true) (hn : 0 < n) :
 Calls Tryd.prog 55 #[.agg #[.bool false, .slice A n c]] w (GivesB w true) := by
 have HI := hid hI
 have HM := hid hm
 clear hI hm
 have hn1 : decide (0 < n) = true := by simpa using hn
 go_enter Tryd.func55, Tryd.ntmps55
 go_wp2_with fail
 refine (isNat_l (HM.out.up (Ext.alloc w _)) HI.out).mono ?_
 rintro e wq ⟨rfl, rfl⟩
 go_wp2
 go_ret
 exact ⟨rfl, Ext.alloc _ _⟩

theorem wIs_any {w : World} {g : Bool} {A : Option Addr} {n c : Nat} {l : List Nat} (hm : Num w w.heap.size (.slice A n c) l) {b : Bool} (hb : M.isZ g l = b) :
 Calls Tryd.prog 55 #[.agg #[.bool g, .slice A n c]] w (GivesB w b) := by
 have hn : n = l.length := by obtain ⟨_, _, _, e, h, _⟩ := hm; injection e with _ e2; rw [e2, h]
 subst hb
 cases hI : M.isNat l with
 | false =>
  have : M.isZ g l = false := by unfold M.isZ; rw [hI]; rfl
  rw [this]; exact wIs_f w g A n c l hm hI
 | true =>
  have e := M.isZ_empty (g := g) hI
  rw [e]
  rcases Nat.eq_zero_or_pos n with h0 | h0
  ·have : l = [] := List.eq_nil_of_length_eq_zero (by omega)
   subst this
   cases g
   ·exact wIs_tzf w A n c _ hm hI h0
   ·exact wIs_tzt w A n c _ hm hI h0
  ·have : l.isEmpty = false := by cases l <;> simp_all
   rw [this]
   cases g
   ·exact wIs_tpf w A n c _ hm hI h0
   ·exact wIs_tpt w A n c _ hm hI h0

set_option maxHeartbeats 1000000 in
theorem read_no {w : World} {g : Bool} {A : Option Addr} {n c k : Nat} {l : List Nat} (hm : Num w w.heap.size (.slice A n c) l) (hI : M.isZ g l = false) (hk : l.length ≤ k) :
 Calls Tryd.prog 91 #[.agg #[.bool g, .slice A n c]] w (GivesI w (M.zv g l) k) := by
 have R := hid hm
 have HI := hid hI
 clear hm hI hk
 go_enter Tryd.func91, Tryd.ntmps91
 go_upto_region 1 with (fail)
 obtain ⟨E, B1, B2⟩ := open2 w #[.bool g, .slice A n c] 24 #[.int .i64 0, .slice none 0 0] 109
 replace R := hid (R.out.up E.out)
 refine wp_region_S [(0, 0), (1, 1), (2, 0), (3, 0)] fun wd hb => ?_
 replace E := hid (E.out.trans hb)
 replace B1 := hid (B1.out.up hb)
 replace B2 := hid (B2.out.up hb)
 replace R := hid (R.out.up hb)
 clear hb
 refine WE.q 4 (.agg #[.bool g, .slice A n c]) rfl (fun w' hk => by have c0 := (B1.out.up hk).k 0; have c1 := (B1.out.up hk).k 1; go_simp) ?_
 simp only [Act.put, pA, pB, pC]
 refine WE.call (d := some 5) rfl rfl (by rfl) (f := 55) (args := #[(.agg #[.bool g, .slice A n c])]) (by go_simp) ?_
 refine (wIs_any R.out HI.out).mono ?_
 rintro e wn ⟨rfl, hb⟩
 refine ⟨_, rfl, hb, ?_⟩
 replace E := hid (E.out.trans hb)
 replace B2 := hid (B2.out.up hb)
 clear hb
 refine WE.p 6 (.bool true) ?_
 refine WE.p 3 (.bool true) ?_
 simp only [Act.put, pA, pB, pC]
 refine WE.done ?_
 go_upto_region 2 with (fail)
 refine wp_region_S [(0, 0), (1, 4)] fun wd hb => ?_
 replace E := hid (E.out.trans hb)
 replace B2 := hid (B2.out.up hb)
 clear hb
 refine WE.p 7 (.agg #[.int .i64 0, .slice none 0 0]) ?_
 simp only [Act.put, pA, pB, pC]
 refine WE.store2 (g := (w.heap.size + 1)) (x := .int .i64 0) (y := .slice none 0 0) (t := 109) rfl rfl (by rfl) (fun w hb => ?_) B2.out (by rfl) fun ws hk hs => ?_
 ·have c0 := hb.k 0; have f0 := hb.free 0; have c1 := hb.k 1; have f1 := hb.free 1; go_simp
 intro hbx
 replace E := hid (E.out.keptG hk (by simp))
 replace B2 := hid hbx
 clear hk hs hbx
 refine WE.done ?_
 have r0 := B2.out.cell (o := 0) (v := .int .i64 0) rfl
 have r1 := B2.out.cell (o := 1) (v := .slice none 0 0) rfl
 go_wp2
 exact bodyPost_ret (v := .agg #[.int .i64 0, .slice none 0 0]) (by simp [results, Tryd.results91, go_sem, r0, r1]) rfl ⟨_, rfl, InZ.mk (Z := M.zv g l) (by rw [M.zv_off HI.out]; rfl) (by rw [M.zv_off HI.out]; exact ⟨by rw [show (0 : Int).natAbs = 0 from rfl, M.limbs_zero]; exact Num.nil _ _, by rw [show (0 : Int).natAbs = 0 from rfl, M.limbs_zero]; simp⟩), E.out⟩

set_option maxHeartbeats 1000000 in
theorem read_neg {w : World} {A : Option Addr} {n c k : Nat} {l : List Nat} (hm : Num w w.heap.size (.slice A n c) l) (hI : M.isZ true l = true) (hk : l.length ≤ k) :
 Calls Tryd.prog 91 #[.agg #[.bool true, .slice A n c]] w (GivesI w (M.zv true l) k) := by
 have R := hid hm
 have HI := hid hI
 have HK := hid hk
 clear hm hI hk
 go_enter Tryd.func91, Tryd.ntmps91
 go_upto_region 1 with (fail)
 obtain ⟨E, B1, B2⟩ := open2 w #[.bool true, .slice A n c] 24 #[.int .i64 0, .slice none 0 0] 109
 replace R := hid (R.out.up E.out)
 refine wp_region_S [(0, 0), (1, 1), (2, 0), (3, 0)] fun wd hb => ?_
 replace E := hid (E.out.trans hb)
 replace B1 := hid (B1.out.up hb)
 replace B2 := hid (B2.out.up hb)
 replace R := hid (R.out.up hb)
 clear hb
 refine WE.q 4 (.agg #[.bool true, .slice A n c]) rfl (fun w' hk => by have c0 := (B1.out.up hk).k 0; have c1 := (B1.out.up hk).k 1; go_simp) ?_
 simp only [Act.put, pA, pB, pC]
 refine WE.call (d := some 5) rfl rfl (by rfl) (f := 55) (args := #[(.agg #[.bool true, .slice A n c])]) (by go_simp) ?_
 refine (wIs_any R.out HI.out).mono ?_
 rintro e wn ⟨rfl, hb⟩
 refine ⟨_, rfl, hb, ?_⟩
 replace E := hid (E.out.trans hb)
 replace B1 := hid (B1.out.up hb)
 replace B2 := hid (B2.out.up hb)
 replace R := hid (R.out.up hb)
 clear hb
 refine WE.p 6 (.bool false) ?_
 refine WE.p 3 (.bool false) ?_
 simp only [Act.put, pA, pB, pC]
 refine WE.done ?_
 go_upto_region 3 with (fail)
 refine wp_region_S [(0, 0), (1, 0), (2, 0)] fun wd hb => ?_
 replace E := hid (E.out.trans hb)
 replace B1 := hid (B1.out.up hb)
 replace B2 := hid (B2.out.up hb)
 replace R := hid (R.out.up hb)
 clear hb
 refine WE.p 9 (.pointer (some ⟨(w.heap.size), 0, none⟩)) ?_
 refine WE.q 10 (.bool true) rfl (fun w' hk => by have c0 := (B1.out.up hk).k 0; go_simp) ?_
 refine WE.p 8 (.bool true) ?_
 simp only [Act.put, pA, pB, pC]
 refine WE.done ?_
 go_upto_region 4 with (fail)
 refine wp_region_S [(0, 0), (1, 0), (2, 0), (3, 1), (4, 4)] fun wd hb => ?_
 replace E := hid (E.out.trans hb)
 replace B1 := hid (B1.out.up hb)
 replace B2 := hid (B2.out.up hb)
 replace R := hid (R.out.up hb)
 clear hb
 refine WE.p 11 (.agg #[.int .i64 (-1)]) ?_
 refine WE.p 12 (.pointer (some ⟨(w.heap.size), 1, none⟩)) ?_
 refine WE.q 13 (.slice A n c) rfl (fun w' hk => by have c1 := (B1.out.up hk).k 1; go_simp) ?_
 simp only [Act.put, pA, pB, pC]
 refine WE.call (d := some 14) rfl rfl (by rfl) (f := 99) (args := #[(.agg #[.int .i64 (-1)]), (.slice A n c)]) (by go_simp) ?_
 refine (signed_any _ (-1) _ _ _ R.out (Z := M.zv true l) (k := k) (hid (M.limbs_zv HI.out).symm) (hid fun h => by rw [M.zv_neg HI.out]; exact (Int.sign_eq_neg_one_of_neg (by have := M.isZ_pos HI.out; omega)).symm) HK).mono ?_
 rintro e wn ⟨vx, rfl, hx, hb⟩
 obtain ⟨s1, A1, n1, c1, rfl, hs1, hr1⟩ := hx.form
 clear hx
 refine ⟨_, rfl, hb, ?_⟩
 replace E := hid (E.out.trans hb)
 replace B2 := hid (B2.out.up hb)
 have HS1 := hid hs1
 have R1 := hid hr1
 clear hb hs1 hr1
 simp only [Act.put, pA, pB, pC]
 refine WE.store2 (g := (w.heap.size + 1)) (x := .int .i64 s1) (y := .slice A1 n1 c1) (t := 109) rfl rfl (by rfl) (fun w hb => ?_) B2.out (by rfl) fun ws hk hs => ?_
 ·have c0 := hb.k 0; have f0 := hb.free 0; have c1 := hb.k 1; have f1 := hb.free 1; go_simp
 intro hbx
 replace E := hid (E.out.keptG hk (by simp))
 replace B2 := hid hbx
 replace R1 := hid (R1.out.kz hs)
 clear hk hs hbx
 refine WE.done ?_
 have r0 := B2.out.cell (o := 0) (v := .int .i64 s1) rfl
 have r1 := B2.out.cell (o := 1) (v := .slice A1 n1 c1) rfl
 go_wp2
 exact bodyPost_ret (v := .agg #[.int .i64 s1, .slice A1 n1 c1]) (by simp [results, Tryd.results91, go_sem, r0, r1]) rfl ⟨_, rfl, InZ.mk HS1.out R1.out, E.out⟩

set_option maxHeartbeats 1000000 in
theorem read_pos {w : World} {A : Option Addr} {n c k : Nat} {l : List Nat} (hm : Num w w.heap.size (.slice A n c) l) (hI : M.isZ false l = true) (hk : l.length ≤ k) :
 Calls Tryd.prog 91 #[.agg #[.bool false, .slice A n c]] w (GivesI w (M.zv false l) k) := by
 have R := hid hm
 have HI := hid hI
 have HK := hid hk
 clear hm hI hk
 go_enter Tryd.func91, Tryd.ntmps91
 go_upto_region 1 with (fail)
 obtain ⟨E, B1, B2⟩ := open2 w #[.bool false, .slice A n c] 24 #[.int .i64 0, .slice none 0 0] 109
 replace R := hid (R.out.up E.out)
 refine wp_region_S [(0, 0), (1, 1), (2, 0), (3, 0)] fun wd hb => ?_
 replace E := hid (E.out.trans hb)
 replace B1 := hid (B1.out.up hb)
 replace B2 := hid (B2.out.up hb)
 replace R := hid (R.out.up hb)
 clear hb
 refine WE.q 4 (.agg #[.bool false, .slice A n c]) rfl (fun w' hk => by have c0 := (B1.out.up hk).k 0; have c1 := (B1.out.up hk).k 1; go_simp) ?_
 simp only [Act.put, pA, pB, pC]
 refine WE.call (d := some 5) rfl rfl (by rfl) (f := 55) (args := #[(.agg #[.bool false, .slice A n c])]) (by go_simp) ?_
 refine (wIs_any R.out HI.out).mono ?_
 rintro e wn ⟨rfl, hb⟩
 refine ⟨_, rfl, hb, ?_⟩
 replace E := hid (E.out.trans hb)
 replace B1 := hid (B1.out.up hb)
 replace B2 := hid (B2.out.up hb)
 replace R := hid (R.out.up hb)
 clear hb
 refine WE.p 6 (.bool false) ?_
 refine WE.p 3 (.bool false) ?_
 simp only [Act.put, pA, pB, pC]
 refine WE.done ?_
 go_upto_region 3 with (fail)
 refine wp_region_S [(0, 0), (1, 0), (2, 0)] fun wd hb => ?_
 replace E := hid (E.out.trans hb)
 replace B1 := hid (B1.out.up hb)
 replace B2 := hid (B2.out.up hb)
 replace R := hid (R.out.up hb)
 clear hb
 refine WE.p 9 (.pointer (some ⟨(w.heap.size), 0, none⟩)) ?_
 refine WE.q 10 (.bool false) rfl (fun w' hk => by have c0 := (B1.out.up hk).k 0; go_simp) ?_
 refine WE.p 8 (.bool false) ?_
 simp only [Act.put, pA, pB, pC]
 refine WE.done ?_
 go_upto_region 5 with (fail)
 refine wp_region_S [(0, 0), (1, 0), (2, 0), (3, 1), (4, 4)] fun wd hb => ?_
 replace E := hid (E.out.trans hb)
 replace B1 := hid (B1.out.up hb)
 replace B2 := hid (B2.out.up hb)
 replace R := hid (R.out.up hb)
 clear hb
 refine WE.p 15 (.agg #[.int .i64 (1)]) ?_
 refine WE.p 16 (.pointer (some ⟨(w.heap.size), 1, none⟩)) ?_
 refine WE.q 17 (.slice A n c) rfl (fun w' hk => by have c1 := (B1.out.up hk).k 1; go_simp) ?_
 simp only [Act.put, pA, pB, pC]
 refine WE.call (d := some 18) rfl rfl (by rfl) (f := 99) (args := #[(.agg #[.int .i64 (1)]), (.slice A n c)]) (by go_simp) ?_
 refine (signed_any _ 1 _ _ _ R.out (Z := M.zv false l) (k := k) (hid (M.limbs_zv HI.out).symm) (hid fun h => by rw [M.zv_pos HI.out] at h ⊢; exact (Int.sign_eq_one_of_pos (by omega)).symm) HK).mono ?_
 rintro e wn ⟨vx, rfl, hx, hb⟩
 obtain ⟨s1, A1, n1, c1, rfl, hs1, hr1⟩ := hx.form
 clear hx
 refine ⟨_, rfl, hb, ?_⟩
 replace E := hid (E.out.trans hb)
 replace B2 := hid (B2.out.up hb)
 have HS1 := hid hs1
 have R1 := hid hr1
 clear hb hs1 hr1
 simp only [Act.put, pA, pB, pC]
 refine WE.store2 (g := (w.heap.size + 1)) (x := .int .i64 s1) (y := .slice A1 n1 c1) (t := 109) rfl rfl (by rfl) (fun w hb => ?_) B2.out (by rfl) fun ws hk hs => ?_
 ·have c0 := hb.k 0; have f0 := hb.free 0; have c1 := hb.k 1; have f1 := hb.free 1; go_simp
 intro hbx
 replace E := hid (E.out.keptG hk (by simp))
 replace B2 := hid hbx
 replace R1 := hid (R1.out.kz hs)
 clear hk hs hbx
 refine WE.done ?_
 have r0 := B2.out.cell (o := 0) (v := .int .i64 s1) rfl
 have r1 := B2.out.cell (o := 1) (v := .slice A1 n1 c1) rfl
 go_wp2
 exact bodyPost_ret (v := .agg #[.int .i64 s1, .slice A1 n1 c1]) (by simp [results, Tryd.results91, go_sem, r0, r1]) rfl ⟨_, rfl, InZ.mk HS1.out R1.out, E.out⟩

theorem read_w {w : World} {v : Value} {Z : Int} {k : Nat} (hv : Worth w v Z k) : Calls Tryd.prog 91 #[v] w (GivesI w Z k) := by
 obtain ⟨g, A, n, c, l, rfl, hm, hk, rfl⟩ := hv
 cases hI : M.isZ g l with
 | false => exact read_no hm hI hk
 | true =>
  cases g
  ·exact read_pos hm hI hk
  ·exact read_neg hm hI hk

end Go.Proofs.YtaoboilkpgphaaaDoor
