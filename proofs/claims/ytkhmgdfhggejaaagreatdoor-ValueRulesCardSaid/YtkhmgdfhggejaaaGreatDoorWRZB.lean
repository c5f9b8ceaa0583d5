/-
  Contracts of the reference's integers, over what values are worth.
-/
import Derived.Test.YtkhmgdfhggejaaaGreatDoorWJRZ
namespace Go.Proofs.YtkhmgdfhggejaaaGreatDoor
open Go.RowKit
set_option linter.unusedSimpArgs false
set_option linter.unusedVariables false
set_option maxHeartbeats 1000000 in
theorem rCmp_tf {w : World} {u v : Value} {Z Y : Int} {j k : Nat} (hu : Worth w u Z j) (hv : Worth w v Y k) {z : Int} (ha : decide (Z < 0) = true) (hb : decide (Y < 0) = false) (hz : True) :
 Calls Tryz.prog 13 #[u, v] w (fun e w' => e = .returned (.int .i64 (-1)) ∧ Ext w w') := by
 obtain ⟨g, A, n, c, rfl⟩ := hu.shape
 obtain ⟨g', A', n', c', rfl⟩ := hv.shape
 have R := hid hu
 have R' := hid hv
 clear hu hv
 have HA := hid ha
 have HB := hid hb
 clear ha hb hz
 go_enter Tryz.func13, Tryz.ntmps13
 go_upto_region 1 with (fail)
 obtain ⟨E, B1, B2⟩ := open2 w #[.bool g, .slice A n c] 24 #[.bool g', .slice A' n' c'] 24
 replace R := hid (R.out.up E.out)
 replace R' := hid (R'.out.up E.out)
 refine wp_region_L [(0, 0), (2, 0), (1, 2), (3, 2), (4, 3), (5, 3), (6, 4), (7, 4)] 24 #[.bool false, .slice none 0 0] fun wd hb => ?_
 replace E := hid (E.out.trans hb)
 replace B1 := hid (B1.out.up hb)
 replace B2 := hid (B2.out.up hb)
 replace R := hid (R.out.up hb)
 replace R' := hid (R'.out.up hb)
 clear hb
 have HL1B1 := hid B1.out.lt
 have HL1B2 := hid B2.out.lt
 have HW1 := hid (show w.heap.size ≤ wd.heap.size from E.out.size)
 refine WE.q 7 (.agg #[.bool g, .slice A n c]) rfl (fun w' hk => by have c0 := (B1.out.up hk).k 0; have c1 := (B1.out.up hk).k 1; go_simp) ?_
 refine WE.q 9 (.agg #[.bool g', .slice A' n' c']) rfl (fun w' hk => by have c0 := (B2.out.up hk).k 0; have c1 := (B2.out.up hk).k 1; go_simp) ?_
 simp only [pX]
 refine WE.callR (d := some 8) rfl rfl (by rfl) (f := 36) (args := #[(.agg #[.bool g, .slice A n c])]) (fun w => by go_simp) (fun wx hx0 => ?_)
 replace E := hid (E.out.trans hx0)
 replace R := hid (R.out.up hx0)
 replace R' := hid (R'.out.up hx0)
 clear hx0
 refine (rMay_w R.out).mono ?_
 rintro e wn ⟨vx, rfl, hx, hb⟩
 obtain ⟨gg, A1, n1, c1, rfl, hs1, hr1⟩ := hx.form
 clear hx
 obtain rfl : gg = true := hs1.trans HA.out
 clear hs1
 refine ⟨_, rfl, hb, ?_⟩
 replace E := hid (E.out.trans hb)
 replace R' := hid (R'.out.up hb)
 clear hb hr1
 simp only [pX]
 refine WE.callR (d := some 10) rfl rfl (by rfl) (f := 36) (args := #[(.agg #[.bool g', .slice A' n' c'])]) (fun w => by go_simp) (fun wx hx0 => ?_)
 replace E := hid (E.out.trans hx0)
 replace R' := hid (R'.out.up hx0)
 clear hx0
 refine (rMay_w R'.out).mono ?_
 rintro e wn ⟨vx, rfl, hx, hb⟩
 obtain ⟨gg, A2, n2, c2, rfl, hs2, hr2⟩ := hx.form
 clear hx
 obtain rfl : gg = false := hs2.trans HB.out
 clear hs2
 refine ⟨_, rfl, hb, ?_⟩
 replace E := hid (E.out.trans hb)
 clear hb hr2
 simp only [pX]
 refine WE.var (d := some 5) rfl fun gC1 wv hx0 hbox hge hng => ?_
 have HGC1 := hid (show w.heap.size ≤ gC1 by have := HW1.out; omega)
 replace E := hid (E.out.trans hx0)
 have C1 : Hid (Box wv gC1 #[.bool false, .slice none 0 0] 24) := hid hbox
 clear hx0 hbox hge hng
 simp only [pX]
 refine WE.var (d := some 6) rfl fun gC2 wv hx0 hbox hge hng => ?_
 have HNC2C1 := hid (show gC2 ≠ gC1 by intro e; exact hng (by simp [e]))
 have HGC2 := hid (show w.heap.size ≤ gC2 by have := HW1.out; omega)
 replace E := hid (E.out.trans hx0)
 replace C1 := hid (C1.out.up hx0)
 have C2 : Hid (Box wv gC2 #[.bool false, .slice none 0 0] 24) := hid hbox
 clear hx0 hbox hge hng
 simp only [pX]
 refine WE.store2 (g := gC1) (x := .bool true) (y := .slice A1 n1 c1) (t := 24) rfl rfl (by rfl) (fun w hb => ?_) C1.out (by rfl) fun ws hk hs => ?_
 ·have c0 := hb.k 0; have f0 := hb.free 0; have c1 := hb.k 1; have f1 := hb.free 1; go_simp
 intro hbx
 replace E := hid (E.out.keptG hk HGC1.out)
 replace C1 := hid hbx
 replace C2 := hid (C2.out.kept hk (by simpa using HNC2C1.out))
 clear hk hs hbx
 refine WE.store2 (g := gC2) (x := .bool false) (y := .slice A2 n2 c2) (t := 24) rfl rfl (by rfl) (fun w hb => ?_) C2.out (by rfl) fun ws hk hs => ?_
 ·have c0 := hb.k 0; have f0 := hb.free 0; have c1 := hb.k 1; have f1 := hb.free 1; go_simp
 intro hbx
 replace E := hid (E.out.keptG hk HGC2.out)
 replace C1 := hid (C1.out.kept hk (by simpa using HNC2C1.out.symm))
 replace C2 := hid hbx
 clear hk hs hbx
 refine WE.done ?_
 go_upto_region 2 with (fail)
 refine wp_region_S [(0, 0), (1, 0), (2, 0), (3, 0), (4, 0), (5, 0), (6, 0), (7, 0)] fun wd hb => ?_
 replace E := hid (E.out.trans hb)
 replace C1 := hid (C1.out.up hb)
 replace C2 := hid (C2.out.up hb)
 clear hb
 refine WE.p 12 (.pointer (some ⟨gC1, 0, none⟩)) ?_
 refine WE.q 13 (.bool true) rfl (fun w' hk => by have c0 := (C1.out.up hk).k 0; go_simp) ?_
 refine WE.p 14 (.bool true) ?_
 refine WE.p 15 (.pointer (some ⟨gC2, 0, none⟩)) ?_
 refine WE.q 16 (.bool false) rfl (fun w' hk => by have c0 := (C2.out.up hk).k 0; go_simp) ?_
 refine WE.p 17 (.bool true) ?_
 simp only [pX]
 refine WE.p 18 (.bool true) ?_
 refine WE.p 11 (.bool true) ?_
 simp only [pX]
 refine WE.done ?_
 go_wp2
 go_ret
 exact ⟨rfl, E.out⟩
set_option maxHeartbeats 1000000 in
theorem rCmp_ft {w : World} {u v : Value} {Z Y : Int} {j k : Nat} (hu : Worth w u Z j) (hv : Worth w v Y k) {z : Int} (ha : decide (Z < 0) = false) (hb : decide (Y < 0) = true) (hz : True) :
 Calls Tryz.prog 13 #[u, v] w (fun e w' => e = .returned (.int .i64 1) ∧ Ext w w') := by
 obtain ⟨g, A, n, c, rfl⟩ := hu.shape
 obtain ⟨g', A', n', c', rfl⟩ := hv.shape
 have R := hid hu
 have R' := hid hv
 clear hu hv
 have HA := hid ha
 have HB := hid hb
 clear ha hb hz
 go_enter Tryz.func13, Tryz.ntmps13
 go_upto_region 1 with (fail)
 obtain ⟨E, B1, B2⟩ := open2 w #[.bool g, .slice A n c] 24 #[.bool g', .slice A' n' c'] 24
 replace R := hid (R.out.up E.out)
 replace R' := hid (R'.out.up E.out)
 refine wp_region_L [(0, 0), (2, 0), (1, 2), (3, 2), (4, 3), (5, 3), (6, 4), (7, 4)] 24 #[.bool false, .slice none 0 0] fun wd hb => ?_
 replace E := hid (E.out.trans hb)
 replace B1 := hid (B1.out.up hb)
 replace B2 := hid (B2.out.up hb)
 replace R := hid (R.out.up hb)
 replace R' := hid (R'.out.up hb)
 clear hb
 have HL1B1 := hid B1.out.lt
 have HL1B2 := hid B2.out.lt
 have HW1 := hid (show w.heap.size ≤ wd.heap.size from E.out.size)
 refine WE.q 7 (.agg #[.bool g, .slice A n c]) rfl (fun w' hk => by have c0 := (B1.out.up hk).k 0; have c1 := (B1.out.up hk).k 1; go_simp) ?_
 refine WE.q 9 (.agg #[.bool g', .slice A' n' c']) rfl (fun w' hk => by have c0 := (B2.out.up hk).k 0; have c1 := (B2.out.up hk).k 1; go_simp) ?_
 simp only [pX]
 refine WE.callR (d := some 8) rfl rfl (by rfl) (f := 36) (args := #[(.agg #[.bool g, .slice A n c])]) (fun w => by go_simp) (fun wx hx0 => ?_)
 replace E := hid (E.out.trans hx0)
 replace R := hid (R.out.up hx0)
 replace R' := hid (R'.out.up hx0)
 clear hx0
 refine (rMay_w R.out).mono ?_
 rintro e wn ⟨vx, rfl, hx, hb⟩
 obtain ⟨gg, A1, n1, c1, rfl, hs1, hr1⟩ := hx.form
 clear hx
 obtain rfl : gg = false := hs1.trans HA.out
 clear hs1
 refine ⟨_, rfl, hb, ?_⟩
 replace E := hid (E.out.trans hb)
 replace R' := hid (R'.out.up hb)
 clear hb hr1
 simp only [pX]
 refine WE.callR (d := some 10) rfl rfl (by rfl) (f := 36) (args := #[(.agg #[.bool g', .slice A' n' c'])]) (fun w => by go_simp) (fun wx hx0 => ?_)
 replace E := hid (E.out.trans hx0)
 replace R' := hid (R'.out.up hx0)
 clear hx0
 refine (rMay_w R'.out).mono ?_
 rintro e wn ⟨vx, rfl, hx, hb⟩
 obtain ⟨gg, A2, n2, c2, rfl, hs2, hr2⟩ := hx.form
 clear hx
 obtain rfl : gg = true := hs2.trans HB.out
 clear hs2
 refine ⟨_, rfl, hb, ?_⟩
 replace E := hid (E.out.trans hb)
 clear hb hr2
 simp only [pX]
 refine WE.var (d := some 5) rfl fun gC1 wv hx0 hbox hge hng => ?_
 have HGC1 := hid (show w.heap.size ≤ gC1 by have := HW1.out; omega)
 replace E := hid (E.out.trans hx0)
 have C1 : Hid (Box wv gC1 #[.bool false, .slice none 0 0] 24) := hid hbox
 clear hx0 hbox hge hng
 simp only [pX]
 refine WE.var (d := some 6) rfl fun gC2 wv hx0 hbox hge hng => ?_
 have HNC2C1 := hid (show gC2 ≠ gC1 by intro e; exact hng (by simp [e]))
 have HGC2 := hid (show w.heap.size ≤ gC2 by have := HW1.out; omega)
 replace E := hid (E.out.trans hx0)
 replace C1 := hid (C1.out.up hx0)
 have C2 : Hid (Box wv gC2 #[.bool false, .slice none 0 0] 24) := hid hbox
 clear hx0 hbox hge hng
 simp only [pX]
 refine WE.store2 (g := gC1) (x := .bool false) (y := .slice A1 n1 c1) (t := 24) rfl rfl (by rfl) (fun w hb => ?_) C1.out (by rfl) fun ws hk hs => ?_
 ·have c0 := hb.k 0; have f0 := hb.free 0; have c1 := hb.k 1; have f1 := hb.free 1; go_simp
 intro hbx
 replace E := hid (E.out.keptG hk HGC1.out)
 replace C1 := hid hbx
 replace C2 := hid (C2.out.kept hk (by simpa using HNC2C1.out))
 clear hk hs hbx
 refine WE.store2 (g := gC2) (x := .bool true) (y := .slice A2 n2 c2) (t := 24) rfl rfl (by rfl) (fun w hb => ?_) C2.out (by rfl) fun ws hk hs => ?_
 ·have c0 := hb.k 0; have f0 := hb.free 0; have c1 := hb.k 1; have f1 := hb.free 1; go_simp
 intro hbx
 replace E := hid (E.out.keptG hk HGC2.out)
 replace C1 := hid (C1.out.kept hk (by simpa using HNC2C1.out.symm))
 replace C2 := hid hbx
 clear hk hs hbx
 refine WE.done ?_
 go_upto_region 2 with (fail)
 refine wp_region_S [(0, 0), (1, 0), (2, 0), (3, 0), (4, 0), (5, 0), (6, 0), (7, 0)] fun wd hb => ?_
 replace E := hid (E.out.trans hb)
 replace C1 := hid (C1.out.up hb)
 replace C2 := hid (C2.out.up hb)
 clear hb
 refine WE.p 12 (.pointer (some ⟨gC1, 0, none⟩)) ?_
 refine WE.q 13 (.bool false) rfl (fun w' hk => by have c0 := (C1.out.up hk).k 0; go_simp) ?_
 refine WE.p 14 (.bool false) ?_
 refine WE.s 15 ?_
 refine WE.s 16 ?_
 refine WE.s 17 ?_
 simp only [pX]
 refine WE.p 18 (.bool false) ?_
 refine WE.p 11 (.bool false) ?_
 simp only [pX]
 refine WE.done ?_
 go_upto_region 4 with (fail)
 refine wp_region_S [(0, 0), (1, 0), (2, 0), (3, 0), (4, 0), (5, 0), (6, 0), (7, 0)] fun wd hb => ?_
 replace E := hid (E.out.trans hb)
 replace C1 := hid (C1.out.up hb)
 replace C2 := hid (C2.out.up hb)
 clear hb
 refine WE.p 20 (.pointer (some ⟨gC1, 0, none⟩)) ?_
 refine WE.q 21 (.bool false) rfl (fun w' hk => by have c0 := (C1.out.up hk).k 0; go_simp) ?_
 refine WE.p 22 (.bool true) ?_
 refine WE.p 23 (.bool true) ?_
 refine WE.p 24 (.pointer (some ⟨gC2, 0, none⟩)) ?_
 refine WE.q 25 (.bool true) rfl (fun w' hk => by have c0 := (C2.out.up hk).k 0; go_simp) ?_
 simp only [pX]
 refine WE.p 26 (.bool true) ?_
 refine WE.p 19 (.bool true) ?_
 simp only [pX]
 refine WE.done ?_
 go_wp2
 go_ret
 exact ⟨rfl, E.out⟩
set_option maxHeartbeats 1000000 in
theorem rCmp_tt {w : World} {u v : Value} {Z Y : Int} {j k : Nat} (hu : Worth w u Z j) (hv : Worth w v Y k) {z : Int} (ha : decide (Z < 0) = true) (hb : decide (Y < 0) = true) (hz : M.cmp Y.natAbs Z.natAbs = z) :
 Calls Tryz.prog 13 #[u, v] w (fun e w' => e = .returned (.int .i64 z) ∧ Ext w w') := by
 obtain ⟨g, A, n, c, rfl⟩ := hu.shape
 obtain ⟨g', A', n', c', rfl⟩ := hv.shape
 have R := hid hu
 have R' := hid hv
 clear hu hv
 have HA := hid ha
 have HB := hid hb
 have HZ := hid hz
 clear ha hb hz
 go_enter Tryz.func13, Tryz.ntmps13
 go_upto_region 1 with (fail)
 obtain ⟨E, B1, B2⟩ := open2 w #[.bool g, .slice A n c] 24 #[.bool g', .slice A' n' c'] 24
 replace R := hid (R.out.up E.out)
 replace R' := hid (R'.out.up E.out)
 refine wp_region_L [(0, 0), (2, 0), (1, 2), (3, 2), (4, 3), (5, 3), (6, 4), (7, 4)] 24 #[.bool false, .slice none 0 0] fun wd hb => ?_
 replace E := hid (E.out.trans hb)
 replace B1 := hid (B1.out.up hb)
 replace B2 := hid (B2.out.up hb)
 replace R := hid (R.out.up hb)
 replace R' := hid (R'.out.up hb)
 clear hb
 have HL1B1 := hid B1.out.lt
 have HL1B2 := hid B2.out.lt
 have HW1 := hid (show w.heap.size ≤ wd.heap.size from E.out.size)
 refine WE.q 7 (.agg #[.bool g, .slice A n c]) rfl (fun w' hk => by have c0 := (B1.out.up hk).k 0; have c1 := (B1.out.up hk).k 1; go_simp) ?_
 refine WE.q 9 (.agg #[.bool g', .slice A' n' c']) rfl (fun w' hk => by have c0 := (B2.out.up hk).k 0; have c1 := (B2.out.up hk).k 1; go_simp) ?_
 simp only [pX]
 refine WE.callR (d := some 8) rfl rfl (by rfl) (f := 36) (args := #[(.agg #[.bool g, .slice A n c])]) (fun w => by go_simp) (fun wx hx0 => ?_)
 replace E := hid (E.out.trans hx0)
 replace R := hid (R.out.up hx0)
 replace R' := hid (R'.out.up hx0)
 clear hx0
 refine (rMay_w R.out).mono ?_
 rintro e wn ⟨vx, rfl, hx, hb⟩
 obtain ⟨gg, A1, n1, c1, rfl, hs1, hr1⟩ := hx.form
 clear hx
 obtain rfl : gg = true := hs1.trans HA.out
 clear hs1
 refine ⟨_, rfl, hb, ?_⟩
 replace E := hid (E.out.trans hb)
 replace R' := hid (R'.out.up hb)
 have R1 := hid hr1
 clear hb hr1
 simp only [pX]
 refine WE.callR (d := some 10) rfl rfl (by rfl) (f := 36) (args := #[(.agg #[.bool g', .slice A' n' c'])]) (fun w => by go_simp) (fun wx hx0 => ?_)
 replace E := hid (E.out.trans hx0)
 replace R' := hid (R'.out.up hx0)
 replace R1 := hid (R1.out.up hx0)
 clear hx0
 refine (rMay_w R'.out).mono ?_
 rintro e wn ⟨vx, rfl, hx, hb⟩
 obtain ⟨gg, A2, n2, c2, rfl, hs2, hr2⟩ := hx.form
 clear hx
 obtain rfl : gg = true := hs2.trans HB.out
 clear hs2
 refine ⟨_, rfl, hb, ?_⟩
 replace E := hid (E.out.trans hb)
 replace R1 := hid (R1.out.up hb)
 have R2 := hid hr2
 clear hb hr2
 simp only [pX]
 refine WE.var (d := some 5) rfl fun gC1 wv hx0 hbox hge hng => ?_
 have HGC1 := hid (show w.heap.size ≤ gC1 by have := HW1.out; omega)
 replace E := hid (E.out.trans hx0)
 replace R1 := hid (R1.out.up hx0)
 replace R2 := hid (R2.out.up hx0)
 have C1 : Hid (Box wv gC1 #[.bool false, .slice none 0 0] 24) := hid hbox
 clear hx0 hbox hge hng
 simp only [pX]
 refine WE.var (d := some 6) rfl fun gC2 wv hx0 hbox hge hng => ?_
 have HNC2C1 := hid (show gC2 ≠ gC1 by intro e; exact hng (by simp [e]))
 have HGC2 := hid (show w.heap.size ≤ gC2 by have := HW1.out; omega)
 replace E := hid (E.out.trans hx0)
 replace C1 := hid (C1.out.up hx0)
 replace R1 := hid (R1.out.up hx0)
 replace R2 := hid (R2.out.up hx0)
 have C2 : Hid (Box wv gC2 #[.bool false, .slice none 0 0] 24) := hid hbox
 clear hx0 hbox hge hng
 simp only [pX]
 refine WE.store2 (g := gC1) (x := .bool true) (y := .slice A1 n1 c1) (t := 24) rfl rfl (by rfl) (fun w hb => ?_) C1.out (by rfl) fun ws hk hs => ?_
 ·have c0 := hb.k 0; have f0 := hb.free 0; have c1 := hb.k 1; have f1 := hb.free 1; go_simp
 intro hbx
 replace E := hid (E.out.keptG hk HGC1.out)
 replace C1 := hid hbx
 replace C2 := hid (C2.out.kept hk (by simpa using HNC2C1.out))
 replace R1 := hid (R1.out.kz hs)
 replace R2 := hid (R2.out.kz hs)
 clear hk hs hbx
 refine WE.store2 (g := gC2) (x := .bool true) (y := .slice A2 n2 c2) (t := 24) rfl rfl (by rfl) (fun w hb => ?_) C2.out (by rfl) fun ws hk hs => ?_
 ·have c0 := hb.k 0; have f0 := hb.free 0; have c1 := hb.k 1; have f1 := hb.free 1; go_simp
 intro hbx
 replace E := hid (E.out.keptG hk HGC2.out)
 replace C1 := hid (C1.out.kept hk (by simpa using HNC2C1.out.symm))
 replace C2 := hid hbx
 replace R1 := hid (R1.out.kz hs)
 replace R2 := hid (R2.out.kz hs)
 clear hk hs hbx
 refine WE.done ?_
 go_upto_region 2 with (fail)
 refine wp_region_S [(0, 0), (1, 0), (2, 0), (3, 0), (4, 0), (5, 0), (6, 0), (7, 0)] fun wd hb => ?_
 replace E := hid (E.out.trans hb)
 replace C1 := hid (C1.out.up hb)
 replace C2 := hid (C2.out.up hb)
 replace R1 := hid (R1.out.up hb)
 replace R2 := hid (R2.out.up hb)
 clear hb
 refine WE.p 12 (.pointer (some ⟨gC1, 0, none⟩)) ?_
 refine WE.q 13 (.bool true) rfl (fun w' hk => by have c0 := (C1.out.up hk).k 0; go_simp) ?_
 refine WE.p 14 (.bool true) ?_
 refine WE.p 15 (.pointer (some ⟨gC2, 0, none⟩)) ?_
 refine WE.q 16 (.bool true) rfl (fun w' hk => by have c0 := (C2.out.up hk).k 0; go_simp) ?_
 refine WE.p 17 (.bool false) ?_
 simp only [pX]
 refine WE.p 18 (.bool false) ?_
 refine WE.p 11 (.bool false) ?_
 simp only [pX]
 refine WE.done ?_
 go_upto_region 4 with (fail)
 refine wp_region_S [(0, 0), (1, 0), (2, 0), (3, 0), (4, 0), (5, 0), (6, 0), (7, 0)] fun wd hb => ?_
 replace E := hid (E.out.trans hb)
 replace C1 := hid (C1.out.up hb)
 replace C2 := hid (C2.out.up hb)
 replace R1 := hid (R1.out.up hb)
 replace R2 := hid (R2.out.up hb)
 clear hb
 refine WE.p 20 (.pointer (some ⟨gC1, 0, none⟩)) ?_
 refine WE.q 21 (.bool true) rfl (fun w' hk => by have c0 := (C1.out.up hk).k 0; go_simp) ?_
 refine WE.p 22 (.bool false) ?_
 refine WE.p 23 (.bool false) ?_
 refine WE.s 24 ?_
 refine WE.s 25 ?_
 simp only [pX]
 refine WE.p 26 (.bool false) ?_
 refine WE.p 19 (.bool false) ?_
 simp only [pX]
 refine WE.done ?_
 go_upto_region 6 with (fail)
 refine wp_region_S [(0, 0), (1, 0), (2, 0)] fun wd hb => ?_
 replace E := hid (E.out.trans hb)
 replace C1 := hid (C1.out.up hb)
 replace C2 := hid (C2.out.up hb)
 replace R1 := hid (R1.out.up hb)
 replace R2 := hid (R2.out.up hb)
 clear hb
 refine WE.p 28 (.pointer (some ⟨gC1, 0, none⟩)) ?_
 refine WE.q 29 (.bool true) rfl (fun w' hk => by have c0 := (C1.out.up hk).k 0; go_simp) ?_
 refine WE.p 27 (.bool true) ?_
 simp only [pX]
 refine WE.done ?_
 go_upto_region 7 with (fail)
 refine wp_region_S [(0, 0), (1, 0), (2, 0), (3, 0), (4, 1), (5, 0)] fun wd hb => ?_
 replace E := hid (E.out.trans hb)
 replace C1 := hid (C1.out.up hb)
 replace C2 := hid (C2.out.up hb)
 replace R1 := hid (R1.out.up hb)
 replace R2 := hid (R2.out.up hb)
 clear hb
 refine WE.p 30 (.pointer (some ⟨gC2, 1, none⟩)) ?_
 refine WE.q 31 (.slice A2 n2 c2) rfl (fun w' hk => by have c1 := (C2.out.up hk).k 1; go_simp) ?_
 refine WE.p 32 (.pointer (some ⟨gC1, 1, none⟩)) ?_
 refine WE.q 33 (.slice A1 n1 c1) rfl (fun w' hk => by have c1 := (C1.out.up hk).k 1; go_simp) ?_
 simp only [pX]
 refine WE.call (d := some 34) rfl rfl (by rfl) (f := 37) (args := #[(.slice A2 n2 c2), (.slice A1 n1 c1)]) (by go_simp) ?_
 refine (rcmp_n R2.out R1.out HZ.out).mono ?_
 rintro e wn ⟨rfl, hb⟩
 refine ⟨_, rfl, hb, ?_⟩
 replace E := hid (E.out.trans hb)
 clear hb
 refine WE.p 4 (.int .i64 z) ?_
 simp only [pX]
 refine WE.done ?_
 go_wp2
 go_ret
 exact ⟨rfl, E.out⟩
set_option maxHeartbeats 1000000 in
theorem rCmp_ff {w : World} {u v : Value} {Z Y : Int} {j k : Nat} (hu : Worth w u Z j) (hv : Worth w v Y k) {z : Int} (ha : decide (Z < 0) = false) (hb : decide (Y < 0) = false) (hz : M.cmp Z.natAbs Y.natAbs = z) :
 Calls Tryz.prog 13 #[u, v] w (fun e w' => e = .returned (.int .i64 z) ∧ Ext w w') := by
 obtain ⟨g, A, n, c, rfl⟩ := hu.shape
 obtain ⟨g', A', n', c', rfl⟩ := hv.shape
 have R := hid hu
 have R' := hid hv
 clear hu hv
 have HA := hid ha
 have HB := hid hb
 have HZ := hid hz
 clear ha hb hz
 go_enter Tryz.func13, Tryz.ntmps13
 go_upto_region 1 with (fail)
 obtain ⟨E, B1, B2⟩ := open2 w #[.bool g, .slice A n c] 24 #[.bool g', .slice A' n' c'] 24
 replace R := hid (R.out.up E.out)
 replace R' := hid (R'.out.up E.out)
 refine wp_region_L [(0, 0), (2, 0), (1, 2), (3, 2), (4, 3), (5, 3), (6, 4), (7, 4)] 24 #[.bool false, .slice none 0 0] fun wd hb => ?_
 replace E := hid (E.out.trans hb)
 replace B1 := hid (B1.out.up hb)
 replace B2 := hid (B2.out.up hb)
 replace R := hid (R.out.up hb)
 replace R' := hid (R'.out.up hb)
 clear hb
 have HL1B1 := hid B1.out.lt
 have HL1B2 := hid B2.out.lt
 have HW1 := hid (show w.heap.size ≤ wd.heap.size from E.out.size)
 refine WE.q 7 (.agg #[.bool g, .slice A n c]) rfl (fun w' hk => by have c0 := (B1.out.up hk).k 0; have c1 := (B1.out.up hk).k 1; go_simp) ?_
 refine WE.q 9 (.agg #[.bool g', .slice A' n' c']) rfl (fun w' hk => by have c0 := (B2.out.up hk).k 0; have c1 := (B2.out.up hk).k 1; go_simp) ?_
 simp only [pX]
 refine WE.callR (d := some 8) rfl rfl (by rfl) (f := 36) (args := #[(.agg #[.bool g, .slice A n c])]) (fun w => by go_simp) (fun wx hx0 => ?_)
 replace E := hid (E.out.trans hx0)
 replace R := hid (R.out.up hx0)
 replace R' := hid (R'.out.up hx0)
 clear hx0
 refine (rMay_w R.out).mono ?_
 rintro e wn ⟨vx, rfl, hx, hb⟩
 obtain ⟨gg, A1, n1, c1, rfl, hs1, hr1⟩ := hx.form
 clear hx
 obtain rfl : gg = false := hs1.trans HA.out
 clear hs1
 refine ⟨_, rfl, hb, ?_⟩
 replace E := hid (E.out.trans hb)
 replace R' := hid (R'.out.up hb)
 have R1 := hid hr1
 clear hb hr1
 simp only [pX]
 refine WE.callR (d := some 10) rfl rfl (by rfl) (f := 36) (args := #[(.agg #[.bool g', .slice A' n' c'])]) (fun w => by go_simp) (fun wx hx0 => ?_)
 replace E := hid (E.out.trans hx0)
 replace R' := hid (R'.out.up hx0)
 replace R1 := hid (R1.out.up hx0)
 clear hx0
 refine (rMay_w R'.out).mono ?_
 rintro e wn ⟨vx, rfl, hx, hb⟩
 obtain ⟨gg, A2, n2, c2, rfl, hs2, hr2⟩ := hx.form
 clear hx
 obtain rfl : gg = false := hs2.trans HB.out
 clear hs2
 refine ⟨_, rfl, hb, ?_⟩
 replace E := hid (E.out.trans hb)
 replace R1 := hid (R1.out.up hb)
 have R2 := hid hr2
 clear hb hr2
 simp only [pX]
 refine WE.var (d := some 5) rfl fun gC1 wv hx0 hbox hge hng => ?_
 have HGC1 := hid (show w.heap.size ≤ gC1 by have := HW1.out; omega)
 replace E := hid (E.out.trans hx0)
 replace R1 := hid (R1.out.up hx0)
 replace R2 := hid (R2.out.up hx0)
 have C1 : Hid (Box wv gC1 #[.bool false, .slice none 0 0] 24) := hid hbox
 clear hx0 hbox hge hng
 simp only [pX]
 refine WE.var (d := some 6) rfl fun gC2 wv hx0 hbox hge hng => ?_
 have HNC2C1 := hid (show gC2 ≠ gC1 by intro e; exact hng (by simp [e]))
 have HGC2 := hid (show w.heap.size ≤ gC2 by have := HW1.out; omega)
 replace E := hid (E.out.trans hx0)
 replace C1 := hid (C1.out.up hx0)
 replace R1 := hid (R1.out.up hx0)
 replace R2 := hid (R2.out.up hx0)
 have C2 : Hid (Box wv gC2 #[.bool false, .slice none 0 0] 24) := hid hbox
 clear hx0 hbox hge hng
 simp only [pX]
 refine WE.store2 (g := gC1) (x := .bool false) (y := .slice A1 n1 c1) (t := 24) rfl rfl (by rfl) (fun w hb => ?_) C1.out (by rfl) fun ws hk hs => ?_
 ·have c0 := hb.k 0; have f0 := hb.free 0; have c1 := hb.k 1; have f1 := hb.free 1; go_simp
 intro hbx
 replace E := hid (E.out.keptG hk HGC1.out)
 replace C1 := hid hbx
 replace C2 := hid (C2.out.kept hk (by simpa using HNC2C1.out))
 replace R1 := hid (R1.out.kz hs)
 replace R2 := hid (R2.out.kz hs)
 clear hk hs hbx
 refine WE.store2 (g := gC2) (x := .bool false) (y := .slice A2 n2 c2) (t := 24) rfl rfl (by rfl) (fun w hb => ?_) C2.out (by rfl) fun ws hk hs => ?_
 ·have c0 := hb.k 0; have f0 := hb.free 0; have c1 := hb.k 1; have f1 := hb.free 1; go_simp
 intro hbx
 replace E := hid (E.out.keptG hk HGC2.out)
 replace C1 := hid (C1.out.kept hk (by simpa using HNC2C1.out.symm))
 replace C2 := hid hbx
 replace R1 := hid (R1.out.kz hs)
 replace R2 := hid (R2.out.kz hs)
 clear hk hs hbx
 refine WE.done ?_
 go_upto_region 2 with (fail)
 refine wp_region_S [(0, 0), (1, 0), (2, 0), (3, 0), (4, 0), (5, 0), (6, 0), (7, 0)] fun wd hb => ?_
 replace E := hid (E.out.trans hb)
 replace C1 := hid (C1.out.up hb)
 replace C2 := hid (C2.out.up hb)
 replace R1 := hid (R1.out.up hb)
 replace R2 := hid (R2.out.up hb)
 clear hb
 refine WE.p 12 (.pointer (some ⟨gC1, 0, none⟩)) ?_
 refine WE.q 13 (.bool false) rfl (fun w' hk => by have c0 := (C1.out.up hk).k 0; go_simp) ?_
 refine WE.p 14 (.bool false) ?_
 refine WE.s 15 ?_
 refine WE.s 16 ?_
 refine WE.s 17 ?_
 simp only [pX]
 refine WE.p 18 (.bool false) ?_
 refine WE.p 11 (.bool false) ?_
 simp only [pX]
 refine WE.done ?_
 go_upto_region 4 with (fail)
 refine wp_region_S [(0, 0), (1, 0), (2, 0), (3, 0), (4, 0), (5, 0), (6, 0), (7, 0)] fun wd hb => ?_
 replace E := hid (E.out.trans hb)
 replace C1 := hid (C1.out.up hb)
 replace C2 := hid (C2.out.up hb)
 replace R1 := hid (R1.out.up hb)
 replace R2 := hid (R2.out.up hb)
 clear hb
 refine WE.p 20 (.pointer (some ⟨gC1, 0, none⟩)) ?_
 refine WE.q 21 (.bool false) rfl (fun w' hk => by have c0 := (C1.out.up hk).k 0; go_simp) ?_
 refine WE.p 22 (.bool true) ?_
 refine WE.p 23 (.bool true) ?_
 refine WE.p 24 (.pointer (some ⟨gC2, 0, none⟩)) ?_
 refine WE.q 25 (.bool false) rfl (fun w' hk => by have c0 := (C2.out.up hk).k 0; go_simp) ?_
 simp only [pX]
 refine WE.p 26 (.bool false) ?_
 refine WE.p 19 (.bool false) ?_
 simp only [pX]
 refine WE.done ?_
 go_upto_region 6 with (fail)
 refine wp_region_S [(0, 0), (1, 0), (2, 0)] fun wd hb => ?_
 replace E := hid (E.out.trans hb)
 replace C1 := hid (C1.out.up hb)
 replace C2 := hid (C2.out.up hb)
 replace R1 := hid (R1.out.up hb)
 replace R2 := hid (R2.out.up hb)
 clear hb
 refine WE.p 28 (.pointer (some ⟨gC1, 0, none⟩)) ?_
 refine WE.q 29 (.bool false) rfl (fun w' hk => by have c0 := (C1.out.up hk).k 0; go_simp) ?_
 refine WE.p 27 (.bool false) ?_
 simp only [pX]
 refine WE.done ?_
 go_upto_region 8 with (fail)
 refine wp_region_S [(0, 0), (1, 0), (2, 0), (3, 0), (4, 1), (5, 0)] fun wd hb => ?_
 replace E := hid (E.out.trans hb)
 replace C1 := hid (C1.out.up hb)
 replace C2 := hid (C2.out.up hb)
 replace R1 := hid (R1.out.up hb)
 replace R2 := hid (R2.out.up hb)
 clear hb
 refine WE.p 35 (.pointer (some ⟨gC1, 1, none⟩)) ?_
 refine WE.q 36 (.slice A1 n1 c1) rfl (fun w' hk => by have c1 := (C1.out.up hk).k 1; go_simp) ?_
 refine WE.p 37 (.pointer (some ⟨gC2, 1, none⟩)) ?_
 refine WE.q 38 (.slice A2 n2 c2) rfl (fun w' hk => by have c1 := (C2.out.up hk).k 1; go_simp) ?_
 simp only [pX]
 refine WE.call (d := some 39) rfl rfl (by rfl) (f := 37) (args := #[(.slice A1 n1 c1), (.slice A2 n2 c2)]) (by go_simp) ?_
 refine (rcmp_n R1.out R2.out HZ.out).mono ?_
 rintro e wn ⟨rfl, hb⟩
 refine ⟨_, rfl, hb, ?_⟩
 replace E := hid (E.out.trans hb)
 clear hb
 refine WE.p 4 (.int .i64 z) ?_
 simp only [pX]
 refine WE.done ?_
 go_wp2
 go_ret
 exact ⟨rfl, E.out⟩
theorem M.zcmp_neg {a b : Int} (ha : a < 0) (hb : b < 0) : M.cmp b.natAbs a.natAbs = M.zcmp a b := by
 rcases (by omega : a < b ∨ b < a ∨ a = b) with h | h | h
 ·rw [M.zcmp_lt h, M.cmp_lt (by omega)]
 ·rw [M.zcmp_gt h, M.cmp_gt (by omega)]
 ·subst h; rw [M.zcmp_same rfl, M.cmp_self]
theorem M.zcmp_pos {a b : Int} (ha : ¬ a < 0) (hb : ¬ b < 0) : M.cmp a.natAbs b.natAbs = M.zcmp a b := by
 rcases (by omega : a < b ∨ b < a ∨ a = b) with h | h | h
 ·rw [M.zcmp_lt h, M.cmp_lt (by omega)]
 ·rw [M.zcmp_gt h, M.cmp_gt (by omega)]
 ·subst h; rw [M.zcmp_same rfl, M.cmp_self]
theorem rCmp_w {w : World} {u v : Value} {Z Y : Int} {j k : Nat} (hu : Worth w u Z j) (hv : Worth w v Y k) {z : Int} (hz : M.zcmp Z Y = z) : Calls Tryz.prog 13 #[u, v] w (fun e w' => e = .returned (.int .i64 z) ∧ Ext w w') := by
 subst hz
 by_cases ha : Z < 0 <;> by_cases hb : Y < 0
 ·exact rCmp_tt hu hv (by simpa using ha) (by simpa using hb) (M.zcmp_neg ha hb)
 ·rw [M.zcmp_lt (by omega)]; exact rCmp_tf (z := 0) hu hv (by simpa using ha) (by simpa using hb) trivial
 ·rw [M.zcmp_gt (by omega)]; exact rCmp_ft (z := 0) hu hv (by simpa using ha) (by simpa using hb) trivial
 ·exact rCmp_ff hu hv (by simpa using ha) (by simpa using hb) (M.zcmp_pos ha hb)
end Go.Proofs.YtkhmgdfhggejaaaGreatDoor
