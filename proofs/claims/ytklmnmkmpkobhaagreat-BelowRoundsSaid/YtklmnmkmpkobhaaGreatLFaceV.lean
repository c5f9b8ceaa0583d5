/-
  Contracts of package lin: what a form is worth, what divides all.
-/
import Derived.Test.YtklmnmkmpkobhaaGreatLFacM
import Derived.Test.YtklmnmkmpkobhaaGreatLRefC
import Derived.Test.YtklmnmkmpkobhaaGreatJOwn
import Derived.Test.YtklmnmkmpkobhaaGreatGFace
namespace Go.Proofs.YtklmnmkmpkobhaaGreat
open Go.RowKit
set_option linter.unusedSimpArgs false
set_option linter.unusedVariables false

set_option maxHeartbeats 4000000 in
theorem atL_l {w : World} {u : Value} {t : M.Tm} {κ : Int} {W : Nat} (h1 : WorthL w u t κ W) {Ap : Option Addr} {np cp : Nat} {xs : List (Bool × List Nat)} (hp : ZList w (.slice Ap np cp) xs) (hps : ∀ x ∈ xs, x.2.length ≤ W) (hw : W ≤ 50) (hn : t.length ≤ 1000) :
 Calls Tryz.prog 32 #[u, .slice Ap np cp] w (GivesZ w (κ + M.atT (M.valAt xs) t) (W + W + t.length + 1)) := by
 obtain ⟨A1, n1, c1, g1, B1, m1, d1, rfl⟩ := h1.shape
 have R1 := hid h1
 have HP := hid hp
 have HPS := hid hps
 have HW := hid hw
 have HN := hid hn
 have HPC := hid hp.count
 have hp9 : np ≤ 9223372036854775807 := hp.count.2.2
 clear hp hps hw hn
 clear h1
 go_enter Tryz.func32, Tryz.ntmps32
 go_upto_region 1 with (fail)
 obtain ⟨E, BX0, BX1⟩ := open2 w #[.slice A1 n1 c1, .bool g1, .slice B1 m1 d1] 27 #[.bool false, .slice none 0 0] 25
 replace R1 := hid (R1.out.up E.out)
 refine wp_region_S [(0, 0), (1, 1), (2, 1), (3, 4)] fun wd hb => ?_
 replace E := hid (E.out.trans hb)
 replace BX0 := hid (BX0.out.up hb)
 replace BX1 := hid (BX1.out.up hb)
 replace R1 := hid (R1.out.up hb)
 clear hb
 have EY := hid (Ext.refl wd)
 refine WE.qq 9 (.agg #[.slice A1 n1 c1, .bool g1, .slice B1 m1 d1]) rfl (fun w' hk => by obtain ⟨ce0, ce1, ce2⟩ := ((BX0.out.up EY.out).up hk).c3; go_simp) ?_
 refine WE.cc 10 ((readL_l (R1.out.up EY.out)).mono ?_)
 rintro e w11 ⟨v1, rfl, x1, hb⟩
 obtain ⟨A11, n11, c11, g11, B11, m11, d11, rfl, t1, k1, o1⟩ := x1
 refine ⟨_, rfl, hb, ?_⟩
 replace EY := hid (EY.out.trans hb)
 have T11 := hid t1
 have Q11 := hid k1
 have O11 := hid o1
 have F11 := hid (Ext.refl w11)
 clear hb t1 k1 o1
 simp only [Act.put, pA, pB, pC]
 refine WE.new (d := some 5) (cs := #[.slice none 0 0, .bool false, .slice none 0 0]) (t := 27) (v := fun g => (.pointer (some ⟨g, 0, none⟩))) rfl rfl (by rfl) (fun w => by go_simp) fun gV5 wv hx0 hbox hge => ?_
 have HNV5BX1 := hid (show gV5 ≠ (w.heap.size + 1) by have := (BX1.out.up EY.out).lt; omega)
 have HGV5 := hid (show w.heap.size ≤ gV5 by have := (E.out.trans EY.out).size; omega)
 have HAF11V5 := hid (show w11.heap.size ≤ gV5 by have := F11.out.size; omega)
 replace EY := hid (EY.out.trans hx0)
 replace Q11 := hid (Q11.out.up hx0)
 replace F11 := hid (F11.out.trans hx0)
 have V5 : Hid (Box wv gV5 #[.slice none 0 0, .bool false, .slice none 0 0] 27) := hid hbox
 clear hx0 hbox hge
 simp only [Act.put, pA, pB, pC]
 refine WE.store3 (g := gV5) (x := .slice A11 n11 c11) (y := .bool g11) (z := .slice B11 m11 d11) (t := 27) rfl rfl (by rfl) (fun w hb => ?_) V5.out (by rfl) fun ws hk hs => ?_
 ·obtain ⟨ce0, ce1, ce2⟩ := hb.c3; obtain ⟨f0, f1, f2⟩ := hb.f3; go_simp
 intro hbx
 replace F11 := hid (F11.out.keptG hk HAF11V5.out)
 replace E := hid ((E.out.trans EY.out).keptG hk HGV5.out)
 replace BX1 := hid ((BX1.out.up EY.out).kept hk (by simpa using HNV5BX1.out.symm))
 replace V5 := hid hbx
 replace Q11 := hid (Q11.out.kz hs)
 clear hk hs hbx
 replace EY := hid (Ext.refl ws)
 refine WE.done ?_
 clear R1
 go_upto_region 2 with (fail)
 refine wp_region_S [(0, 1)] fun wd hb => ?_
 replace EY := hid (EY.out.trans hb)
 replace F11 := hid (F11.out.trans hb)
 clear hb
 refine WE.new (d := some 6) (cs := #[.bool false, .slice none 0 0]) (t := 25) (v := fun g => (.pointer (some ⟨g, 0, none⟩))) rfl rfl (by rfl) (fun w => by go_simp) fun gV6 wv hx0 hbox hge => ?_
 have HNV6BX1 := hid (show gV6 ≠ (w.heap.size + 1) by have := (BX1.out.up EY.out).lt; omega)
 have HNV6V5 := hid (show gV6 ≠ gV5 by have := (V5.out.up EY.out).lt; omega)
 have HGV6 := hid (show w.heap.size ≤ gV6 by have := (E.out.trans EY.out).size; omega)
 have HAF11V6 := hid (show w11.heap.size ≤ gV6 by have := F11.out.size; omega)
 replace EY := hid (EY.out.trans hx0)
 replace F11 := hid (F11.out.trans hx0)
 have V6 : Hid (Box wv gV6 #[.bool false, .slice none 0 0] 25) := hid hbox
 clear hx0 hbox hge
 simp only [Act.put, pA, pB, pC]
 refine WE.done ?_
 go_upto_region 3 with (fail)
 refine wp_region_S [(0, 0), (1, 0), (2, 0), (3, 0)] fun wd hb => ?_
 replace EY := hid (EY.out.trans hb)
 replace V6 := hid (V6.out.up hb)
 replace F11 := hid (F11.out.trans hb)
 clear hb
 refine WE.pp 11 (.pointer (some ⟨gV5, 0, none⟩)) ?_
 refine WE.qq 12 (.slice A11 n11 c11) rfl (fun w' hk => by have ce0 := ((V5.out.up EY.out).up hk).k 0; go_simp) ?_
 refine WE.pp 13 (.int .i64 (n11 : Int)) ?_
 refine WE.pp 14 (.int .i64 (0)) ?_
 simp only [Act.put, pA, pB, pC]
 refine WE.done ?_
 have HC := hid T11.out.count
 have hb9 : n11 ≤ 9223372036854775807 := T11.out.count.2.2
 go_wp2
 go_loopw [14] (fun x14 wr => ∃ (k : Nat) (gg : Bool) (Ag : Option Addr) (ng : Nat) (cg : Nat), x14 = .int .i64 (k : Int) ∧ k ≤ n11 ∧ Ext w wr ∧ Ext w11 wr ∧ Box wr gV5 #[.slice A11 n11 c11, .bool g11, .slice B11 m11 d11] 27 ∧ Box wr (w.heap.size + 1) #[.bool false, .slice none 0 0] 25 ∧ Box wr gV6 #[.bool gg, .slice Ag ng cg] 25 ∧ IsZ wr (.agg #[.bool gg, .slice Ag ng cg]) (M.atT (M.valAt xs) (t.take k)) (W + W + k) ∧ IsZ wr (.agg #[.bool g11, .slice B11 m11 d11]) κ W) (fun x14 _ => n11 - (intOf x14).toNat)
 case atStart => exact ⟨0, false, none, 0, 0, rfl, Nat.zero_le _, (E.out.trans EY.out), F11.out, (V5.out.up EY.out), (BX1.out.up EY.out), V6.out, IsZ.nought.wide (Nat.zero_le _), (Q11.out.up EY.out)⟩
 case round =>
  clear E EY F11 V5 V6 BX1 Q11
  obtain ⟨k, gg, Ag, ng, cg, rfl, hr0, hr1, hr2, hr3, hr4, hr5, hr6, hr7⟩ := hrel
  have E := hid hr1
  have F11 := hid hr2
  have V5 := hid hr3
  have BX1 := hid hr4
  have V6 := hid hr5
  have Q10 := hid hr6
  have Q11 := hid hr7
  clear hr1 hr2 hr3 hr4 hr5 hr6 hr7
  have EY := hid (Ext.refl wr)
  have hk := hr0
  by_cases hlt : k < n11
  ·have hlt' : decide ((k : Int) < (n11 : Int)) = true := decide_eq_true (by omega)
   obtain ⟨x, hx⟩ : ∃ x, t[k]? = some x := ⟨_, List.getElem?_eq_getElem (by rw [← HC.out.1]; exact hlt)⟩
   obtain ⟨ad, ge, Ae, ne, ce, rfl, ka, kb, kc, kz⟩ := T11.out.get hx
   obtain ⟨xv, xc⟩ := x
   obtain ⟨vp, rfl⟩ : ∃ vp : Nat, xv = (vp : Int) := ⟨xv.toNat, by have := M.okT_mem O11.out (List.mem_of_getElem? hx); simp at this; omega⟩
   have HX := hid hx
   have KA := hid ka
   have KB := hid kb
   have KC := hid kc
   have QE := hid (kz.up F11.out)
   clear hx ka kb kc kz
   go_upto_region 4 with (fail)
   refine wp_region_S [(0, 0)] fun wd hb => ?_
   replace EY := hid (EY.out.trans hb)
   replace QE := hid (QE.out.up hb)
   replace F11 := hid (F11.out.trans hb)
   clear hb
   refine WE.pp 15 (.bool true) ?_
   simp only [Act.put, pA, pB, pC]
   refine WE.done ?_
   go_upto_region 5 with (fail)
   refine wp_region_S [(0, 0), (1, 0), (2, 1), (3, 4)] fun wd hb => ?_
   replace EY := hid (EY.out.trans hb)
   replace QE := hid (QE.out.up hb)
   replace F11 := hid (F11.out.trans hb)
   clear hb
   refine WE.pp 16 (.pointer (some (ad.add (k * 3)))) ?_
   refine WE.qq 17 (.agg #[.int .i64 (vp : Int), .bool ge, .slice Ae ne ce]) rfl (fun w' hk => by have ce0 : w'.cell? (ad.add (k * 3)) = some (.int .i64 (vp : Int)) := (KA.out.up F11.out).up hk; have ce1 : w'.cell? ⟨(ad.add (k * 3)).block, (ad.add (k * 3)).off + 1, none⟩ = some (.bool ge) := (KB.out.up F11.out).up hk; have ce2 : w'.cell? ⟨(ad.add (k * 3)).block, (ad.add (k * 3)).off + 2, none⟩ = some (.slice Ae ne ce) := (KC.out.up F11.out).up hk; go_simp) ?_
   simp only [Act.put, pA, pB, pC]
   refine WE.new (d := some 8) (cs := #[.int .i64 0, .bool false, .slice none 0 0]) (t := 56) (v := fun g => (.pointer (some ⟨g, 0, none⟩))) rfl rfl (by rfl) (fun w => by go_simp) fun gV8 wv hx0 hbox hge => ?_
   have HNV8BX1 := hid (show gV8 ≠ (w.heap.size + 1) by have := (BX1.out.up EY.out).lt; omega)
   have HNV8V5 := hid (show gV8 ≠ gV5 by have := (V5.out.up EY.out).lt; omega)
   have HNV8V6 := hid (show gV8 ≠ gV6 by have := (V6.out.up EY.out).lt; omega)
   have HGV8 := hid (show w.heap.size ≤ gV8 by have := (E.out.trans EY.out).size; omega)
   have HAF11V8 := hid (show w11.heap.size ≤ gV8 by have := F11.out.size; omega)
   replace EY := hid (EY.out.trans hx0)
   replace QE := hid (QE.out.up hx0)
   replace F11 := hid (F11.out.trans hx0)
   have V8 : Hid (Box wv gV8 #[.int .i64 0, .bool false, .slice none 0 0] 56) := hid hbox
   clear hx0 hbox hge
   simp only [Act.put, pA, pB, pC]
   refine WE.store3 (g := gV8) (x := .int .i64 (vp : Int)) (y := .bool ge) (z := .slice Ae ne ce) (t := 56) rfl rfl (by rfl) (fun w hb => ?_) V8.out (by rfl) fun ws hk hs => ?_
   ·obtain ⟨ce0, ce1, ce2⟩ := hb.c3; obtain ⟨f0, f1, f2⟩ := hb.f3; go_simp
   intro hbx
   replace F11 := hid (F11.out.keptG hk HAF11V8.out)
   replace E := hid ((E.out.trans EY.out).keptG hk HGV8.out)
   replace BX1 := hid ((BX1.out.up EY.out).kept hk (by simpa using HNV8BX1.out.symm))
   replace V5 := hid ((V5.out.up EY.out).kept hk (by simpa using HNV8V5.out.symm))
   replace V6 := hid ((V6.out.up EY.out).kept hk (by simpa using HNV8V6.out.symm))
   replace V8 := hid hbx
   replace Q10 := hid ((Q10.out.up EY.out).kz hs)
   replace Q11 := hid ((Q11.out.up EY.out).kz hs)
   replace QE := hid (QE.out.kz hs)
   clear hk hs hbx
   replace EY := hid (Ext.refl ws)
   refine WE.done ?_
   by_cases hvn : vp < np
   ·have hvd : decide ((vp : Int) < (np : Int)) = true := decide_eq_true (by omega)
    obtain ⟨z, hz⟩ : ∃ z, xs[vp]? = some z := ⟨_, List.getElem?_eq_getElem (by rw [← HPC.out.1]; exact hvn)⟩
    obtain ⟨ap, Az, nz, cz, rfl, ja, jb, jz⟩ := HP.out.get hz
    obtain ⟨gz, lz⟩ := z
    have JA := hid ja
    have JB := hid jb
    have RZ := hid (worth_of (g := gz) (x := M.zv gz lz) (jz.up (E.out.trans EY.out)) (HPS.out _ (List.mem_of_getElem? hz)) rfl)
    have HVA := hid (show M.valAt xs (vp : Int) = M.zv gz lz by unfold M.valAt; rw [Int.toNat_natCast, hz])
    clear hz ja jb jz
    go_upto_region 6 with (fail)
    refine wp_region_S [(0, 0), (1, 0), (2, 0), (3, 0), (4, 0)] fun wd hb => ?_
    replace EY := hid (EY.out.trans hb)
    replace RZ := hid (RZ.out.up hb)
    replace F11 := hid (F11.out.trans hb)
    clear hb
    refine WE.pp 18 (.pointer (some ⟨gV8, 0, none⟩)) ?_
    refine WE.qq 19 (.int .i64 (vp : Int)) rfl (fun w' hk => by have ce0 := ((V8.out.up EY.out).up hk).k 0; go_simp) ?_
    refine WE.pp 20 (.slice (some ap) np cp) ?_
    refine WE.pp 21 (.int .i64 (np : Int)) ?_
    refine WE.pp 22 (.bool true) ?_
    simp only [Act.put, pA, pB, pC]
    refine WE.done ?_
    go_upto_region 7 with (fail)
    refine wp_region_D [(0, 0), (1, 0), (2, 0), (3, 0), (4, 0), (5, 0), (6, 0), (7, 0), (8, 1), (9, 1), (10, 4)] fun wd hb => ?_
    replace EY := hid (EY.out.trans hb)
    replace RZ := hid (RZ.out.up hb)
    replace F11 := hid (F11.out.trans hb)
    clear hb
    refine WE.qq 23 (.agg #[.bool gg, .slice Ag ng cg]) rfl (fun w' hk => by obtain ⟨ce0, ce1⟩ := ((V6.out.up EY.out).up hk).c2; go_simp) ?_
    refine WE.pp 24 (.pointer (some ⟨gV8, 1, none⟩)) ?_
    refine WE.qq 25 (.agg #[.bool ge, .slice Ae ne ce]) rfl (fun w' hk => by obtain ⟨ce0, ce1, ce2⟩ := ((V8.out.up EY.out).up hk).c3; go_simp) ?_
    refine WE.pp 26 (.slice (some ap) np cp) ?_
    refine WE.pp 27 (.pointer (some ⟨gV8, 0, none⟩)) ?_
    refine WE.qq 28 (.int .i64 (vp : Int)) rfl (fun w' hk => by have ce0 := ((V8.out.up EY.out).up hk).k 0; go_simp) ?_
    simp only [Act.put, pA, pB, pC]
    refine WE.pp 29 (.pointer (some (ap.add (vp * 2)))) ?_
    refine WE.qq 30 (.agg #[.bool gz, .slice Az nz cz]) rfl (fun w' hk => by have ce0 : w'.cell? (ap.add (vp * 2)) = some (.bool gz) := (JA.out.up (E.out.trans EY.out)).up hk; have ce1 : w'.cell? ⟨(ap.add (vp * 2)).block, (ap.add (vp * 2)).off + 1, none⟩ = some (.slice Az nz cz) := (JB.out.up (E.out.trans EY.out)).up hk; go_simp) ?_
    refine WE.cc 31 ((mul_w (QE.out.up EY.out).worth RZ.out (by have := HW.out; have := HC.out.1; have := HN.out; omega) (by have := HW.out; have := HC.out.1; have := HN.out; omega) (by have := HW.out; have := HC.out.1; have := HN.out; omega)).mono ?_)
    rintro e wn ⟨v1, rfl, x1, hb⟩
    obtain ⟨g12, A12, n12, c12, rfl⟩ := x1.shape
    refine ⟨_, rfl, hb, ?_⟩
    replace EY := hid (EY.out.trans hb)
    replace F11 := hid (F11.out.trans hb)
    have Q12 := hid x1
    clear hb x1
    refine WE.cc 32 ((add_w (Q10.out.up EY.out).worth Q12.out.worth (by have := HW.out; have := HC.out.1; have := HN.out; omega) (by have := HW.out; have := HC.out.1; have := HN.out; omega)).mono ?_)
    rintro e wn ⟨v1, rfl, x1, hb⟩
    obtain ⟨g13, A13, n13, c13, rfl⟩ := x1.shape
    refine ⟨_, rfl, hb, ?_⟩
    replace EY := hid (EY.out.trans hb)
    replace Q12 := hid (Q12.out.up hb)
    replace F11 := hid (F11.out.trans hb)
    have Q13 := hid x1
    clear hb x1
    simp only [Act.put, pA, pB, pC]
    refine WE.store2 (g := gV6) (x := .bool g13) (y := .slice A13 n13 c13) (t := 25) rfl rfl (by rfl) (fun w hb => ?_) (V6.out.up EY.out) (by rfl) fun ws hk hs => ?_
    ·obtain ⟨ce0, ce1⟩ := hb.c2; obtain ⟨f0, f1⟩ := hb.f2; go_simp
    intro hbx
    replace F11 := hid (F11.out.keptG hk HAF11V6.out)
    replace E := hid ((E.out.trans EY.out).keptG hk HGV6.out)
    replace BX1 := hid ((BX1.out.up EY.out).kept hk (by simpa using HNV6BX1.out.symm))
    replace V5 := hid ((V5.out.up EY.out).kept hk (by simpa using HNV6V5.out.symm))
    replace V6 := hid hbx
    replace V8 := hid ((V8.out.up EY.out).kept hk (by simpa using HNV8V6.out))
    replace Q10 := hid ((Q10.out.up EY.out).kz hs)
    replace Q11 := hid ((Q11.out.up EY.out).kz hs)
    replace Q12 := hid (Q12.out.kz hs)
    replace Q13 := hid (Q13.out.kz hs)
    clear hk hs hbx
    replace EY := hid (Ext.refl ws)
    refine WE.done ?_
    go_wp2
    go_roundw
    case rel => exact ⟨k + 1, g13, A13, n13, c13, by go_num, by omega, (E.out.trans EY.out), F11.out, (V5.out.up EY.out), (BX1.out.up EY.out), (V6.out.up EY.out), by rw [List.take_add_one, HX.out, Option.toList_some, M.atT_snoc, HVA.out]; exact (Q13.out.up EY.out).wide (by omega), (Q11.out.up EY.out)⟩
    case measure => simp [intOf]; all_goals omega
   ·have hvd : decide ((vp : Int) < (np : Int)) = false := decide_eq_false (by omega)
    have HVA := hid (show M.valAt xs (vp : Int) = 0 by unfold M.valAt; rw [Int.toNat_natCast, List.getElem?_eq_none (by rw [← HPC.out.1]; omega)])
    go_upto_region 6 with (fail)
    refine wp_region_S [(0, 0), (1, 0), (2, 0), (3, 0), (4, 0)] fun wd hb => ?_
    replace EY := hid (EY.out.trans hb)
    replace F11 := hid (F11.out.trans hb)
    clear hb
    refine WE.pp 18 (.pointer (some ⟨gV8, 0, none⟩)) ?_
    refine WE.qq 19 (.int .i64 (vp : Int)) rfl (fun w' hk => by have ce0 := ((V8.out.up EY.out).up hk).k 0; go_simp) ?_
    refine WE.pp 20 (.slice Ap np cp) ?_
    refine WE.pp 21 (.int .i64 (np : Int)) ?_
    refine WE.pp 22 (.bool false) ?_
    simp only [Act.put, pA, pB, pC]
    refine WE.done ?_
    go_wp2
    go_roundw
    case rel => exact ⟨k + 1, gg, Ag, ng, cg, by go_num, by omega, (E.out.trans EY.out), F11.out, (V5.out.up EY.out), (BX1.out.up EY.out), (V6.out.up EY.out), by rw [List.take_add_one, HX.out, Option.toList_some, M.atT_snoc, HVA.out, Int.mul_zero, Int.add_zero]; exact (Q10.out.up EY.out).wide (by omega), (Q11.out.up EY.out)⟩
    case measure => simp [intOf]; all_goals omega
  ·obtain rfl : k = n11 := by omega
   have hlt' : decide ((k : Int) < (k : Int)) = false := by simp
   clear F11
   go_upto_region 4 with (fail)
   refine wp_region_S [(0, 0)] fun wd hb => ?_
   replace EY := hid (EY.out.trans hb)
   clear hb
   refine WE.pp 15 (.bool false) ?_
   simp only [Act.put, pA, pB, pC]
   refine WE.done ?_
   go_upto_region 9 with (fail)
   refine wp_region_S [(0, 0), (1, 0), (2, 0), (3, 1), (4, 4)] fun wd hb => ?_
   replace EY := hid (EY.out.trans hb)
   clear hb
   refine WE.qq 34 (.agg #[.bool gg, .slice Ag ng cg]) rfl (fun w' hk => by obtain ⟨ce0, ce1⟩ := ((V6.out.up EY.out).up hk).c2; go_simp) ?_
   refine WE.pp 35 (.pointer (some ⟨gV5, 1, none⟩)) ?_
   refine WE.qq 36 (.agg #[.bool g11, .slice B11 m11 d11]) rfl (fun w' hk => by obtain ⟨ce0, ce1, ce2⟩ := ((V5.out.up EY.out).up hk).c3; go_simp) ?_
   refine WE.cc 37 ((add_w (Q10.out.up EY.out).worth (Q11.out.up EY.out).worth (by have := HW.out; have := HC.out.1; have := HN.out; omega) (by have := HW.out; have := HC.out.1; have := HN.out; omega)).mono ?_)
   rintro e wn ⟨v1, rfl, x1, hb⟩
   obtain ⟨g12, A12, n12, c12, rfl⟩ := x1.shape
   refine ⟨_, rfl, hb, ?_⟩
   replace EY := hid (EY.out.trans hb)
   have Q12 := hid x1
   clear hb x1
   simp only [Act.put, pA, pB, pC]
   refine WE.store2 (g := (w.heap.size + 1)) (x := .bool g12) (y := .slice A12 n12 c12) (t := 25) rfl rfl (by rfl) (fun w hb => ?_) (BX1.out.up EY.out) (by rfl) fun ws hk hs => ?_
   ·obtain ⟨ce0, ce1⟩ := hb.c2; obtain ⟨f0, f1⟩ := hb.f2; go_simp
   intro hbx
   replace E := hid ((E.out.trans EY.out).keptG hk (by simp))
   replace BX1 := hid hbx
   replace Q12 := hid (Q12.out.kz hs)
   clear hk hs hbx
   replace EY := hid (Ext.refl ws)
   refine WE.done ?_
   have r0 := (BX1.out.up EY.out).cell (o := 0) (v := .bool g12) rfl
   have r1 := (BX1.out.up EY.out).cell (o := 1) (v := .slice A12 n12 c12) rfl
   repeat go_step
   exact bodyPost_ret (v := .agg #[.bool g12, .slice A12 n12 c12]) (by simp [results, Tryz.results32, go_sem, r0, r1]) rfl ⟨_, rfl, by have := (Q12.out.up EY.out); rw [show t.take k = t by rw [HC.out.1, List.take_length], Int.add_comm] at this; exact this.wide (by have := HC.out.1; omega), (E.out.trans EY.out)⟩

theorem JOwn.ne {base g : Nat} {w : World} {v : Value} {ls : List (Bool × List Nat)} (h : JOwn base w v ls) (hg : w.heap.size ≤ g) : OwnFree base v g := by
 rcases h with ⟨rfl, rfl⟩ | ⟨g', cap, cur, rfl, hb, hbox, _⟩
 ·exact .inl rfl
 ·exact .inr (by have := hbox.lt; show g' ≠ g; omega)
theorem JOwn.keptF {base g' : Nat} {w w' : World} {v : Value} {ls : List (Bool × List Nat)} (h : JOwn base w v ls) (hk : Kept [g'] w w') (hs : Keeps w w') (hg : OwnFree base v g') : JOwn base w' v ls := by
 rcases h with ⟨rfl, rfl⟩ | ⟨g, cap, cur, rfl, hb, hbox, hc, hm, hz, hno, hl⟩
 ·exact .inl ⟨rfl, rfl⟩
 ·rcases hg with e | e
  ·cases e
  ·exact .inr ⟨g, cap, cur, rfl, hb, hbox.kept hk (by have e' : g ≠ g' := e; simpa using e'), hc, hm, hz, hno, fun k x hx => (hl k x hx).kz hs⟩
/-- What the terms are times, as rows. -/
def M.crow (t : M.Tm) : List (Bool × List Nat) := t.map fun x => (decide (x.2 < 0), M.limbs x.2.natAbs)
theorem M.crow_snoc (t : M.Tm) (v c : Int) : M.crow (t ++ [(v, c)]) = M.crow t ++ [(decide (c < 0), M.limbs c.natAbs)] := by unfold M.crow; rw [List.map_append]; rfl
theorem M.crow_len (t : M.Tm) : (M.crow t).length = t.length := by unfold M.crow; rw [List.length_map]
theorem M.gl_crow (t : M.Tm) : M.gl (M.crow t) = M.gcdT t := by
 have h : ∀ (r : M.Tm) (a : Nat), (r.map fun x : Int × Int => (decide (x.2 < 0), M.limbs x.2.natAbs)).foldl (fun d x => Nat.gcd (M.zv x.1 x.2).natAbs d) a = r.foldl (fun g x => Nat.gcd g x.2.natAbs) a := by
  intro r
  induction r with
  | nil => intro a; rfl
  | cons x r ih =>
   intro a
   rw [List.map_cons, List.foldl_cons, List.foldl_cons, ih]
   show r.foldl _ (Nat.gcd (M.zv (decide (x.2 < 0)) (M.limbs x.2.natAbs)).natAbs a) = _
   rw [M.zv_of, Nat.gcd_comm]
 unfold M.gl M.crow M.gcdT
 exact h t 0

set_option maxHeartbeats 4000000 in
theorem gcdL_l {w : World} {u : Value} {t : M.Tm} {κ : Int} {W : Nat} (h1 : WorthL w u t κ W) (hw : W ≤ 100000) (hn : t.length ≤ 1000) :
 Calls Tryz.prog 34 #[u] w (GivesZ w (M.gcdT t : Int) W) := by
 obtain ⟨A1, n1, c1, g1, B1, m1, d1, rfl⟩ := h1.shape
 have R1 := hid h1
 have HW := hid hw
 have HN := hid hn
 clear hw hn
 clear h1
 go_enter Tryz.func34, Tryz.ntmps34
 go_upto_region 1 with (fail)
 obtain ⟨E, BX0, BX1⟩ := open2 w #[.slice A1 n1 c1, .bool g1, .slice B1 m1 d1] 27 #[.bool false, .slice none 0 0] 25
 replace R1 := hid (R1.out.up E.out)
 refine wp_region_S [(0, 0)] fun wd hb => ?_
 replace E := hid (E.out.trans hb)
 replace BX0 := hid (BX0.out.up hb)
 replace BX1 := hid (BX1.out.up hb)
 replace R1 := hid (R1.out.up hb)
 clear hb
 have EY := hid (Ext.refl wd)
 refine WE.pp 3 (Value.slice none 0 0) ?_
 simp only [Act.put, pA, pB, pC]
 refine WE.done ?_
 go_upto_region 2 with (fail)
 refine wp_region_S [(0, 0), (1, 1), (2, 0), (3, 0), (4, 0)] fun wd hb => ?_
 replace EY := hid (EY.out.trans hb)
 clear hb
 refine WE.qq 6 (.agg #[.slice A1 n1 c1, .bool g1, .slice B1 m1 d1]) rfl (fun w' hk => by obtain ⟨ce0, ce1, ce2⟩ := ((BX0.out.up EY.out).up hk).c3; go_simp) ?_
 refine WE.cc 7 ((readL_l (R1.out.up EY.out)).mono ?_)
 rintro e w11 ⟨v1, rfl, x1, hb⟩
 obtain ⟨A11, n11, c11, g11, B11, m11, d11, rfl, t1, k1, o1⟩ := x1
 refine ⟨_, rfl, hb, ?_⟩
 replace EY := hid (EY.out.trans hb)
 have T11 := hid t1
 have F11 := hid (Ext.refl w11)
 clear hb t1 k1 o1
 refine WE.qq 8 (.slice A11 n11 c11) rfl (fun w' hk => ?_) ?_
 ·go_simp; unfold Instr.field asAgg; go_simp
 refine WE.pp 9 (.int .i64 (n11 : Int)) ?_
 refine WE.pp 10 (.int .i64 (0)) ?_
 simp only [Act.put, pA, pB, pC]
 refine WE.done ?_
 clear R1
 have HC := hid T11.out.count
 have hb9 : n11 ≤ 9223372036854775807 := T11.out.count.2.2
 have hltx := (BX1.out.up EY.out).lt
 have hszw := (E.out.trans EY.out).size
 have hsza := F11.out.size
 obtain ⟨base, hbase, HBX1', HBW', HBA'⟩ : ∃ base : Nat, base ≤ _ ∧ (w.heap.size + 1) < base ∧ w.heap.size ≤ base ∧ w11.heap.size ≤ base := ⟨_, Nat.le_refl _, hltx, hszw, hsza⟩
 have HBBX1 := hid HBX1'
 have HBW := hid HBW'
 have HBAF11 := hid HBA'
 clear HBX1' HBW' HBA' hltx hszw hsza
 go_wp2
 go_loopw [3, 10] (fun x3 x10 wr => ∃ (k : Nat) (Ao : Option Addr) (no : Nat) (co : Nat), x3 = .slice Ao no co ∧ x10 = .int .i64 (k : Int) ∧ k ≤ n11 ∧ Ext w wr ∧ Ext w11 wr ∧ base ≤ wr.heap.size ∧ Box wr (w.heap.size + 1) #[.bool false, .slice none 0 0] 25 ∧ JOwn base wr (.slice Ao no co) (M.crow (t.take k))) (fun _x3 x10 _ => n11 - (intOf x10).toNat)
 case atStart => exact ⟨0, none, 0, 0, rfl, rfl, Nat.zero_le _, (E.out.trans EY.out), F11.out, hbase, (BX1.out.up EY.out), .inl ⟨rfl, rfl⟩⟩
 case round =>
  clear E EY F11 BX1 hbase
  obtain ⟨k, Ao, no, co, rfl, rfl, hr0, hr1, hr2, hr3, hr4, hr5⟩ := hrel
  have E := hid hr1
  have F11 := hid hr2
  have HBH := hid hr3
  have BX1 := hid hr4
  have OWN := hid hr5
  clear hr1 hr2 hr3 hr4 hr5
  have EY := hid (Ext.refl wr)
  have hk := hr0
  by_cases hlt : k < n11
  ·have hlt' : decide ((k : Int) < (n11 : Int)) = true := decide_eq_true (by omega)
   obtain ⟨x, hx⟩ : ∃ x, t[k]? = some x := ⟨_, List.getElem?_eq_getElem (by rw [← HC.out.1]; exact hlt)⟩
   obtain ⟨ad, ge, Ae, ne, ce, rfl, ka, kb, kc, kz⟩ := T11.out.get hx
   obtain ⟨xv, xc⟩ := x
   have HX := hid hx
   have KA := hid ka
   have KB := hid kb
   have KC := hid kc
   have QE := hid (kz.up F11.out)
   clear hx ka kb kc kz
   go_upto_region 3 with (fail)
   refine wp_region_S [(0, 0)] fun wd hb => ?_
   replace EY := hid (EY.out.trans hb)
   replace QE := hid (QE.out.up hb)
   replace F11 := hid (F11.out.trans hb)
   clear hb
   refine WE.pp 11 (.bool true) ?_
   simp only [Act.put, pA, pB, pC]
   refine WE.done ?_
   go_upto_region 4 with (fail)
   refine wp_region_S [(0, 0), (1, 0), (2, 1), (3, 4)] fun wd hb => ?_
   replace EY := hid (EY.out.trans hb)
   replace QE := hid (QE.out.up hb)
   replace F11 := hid (F11.out.trans hb)
   clear hb
   refine WE.pp 12 (.pointer (some (ad.add (k * 3)))) ?_
   refine WE.qq 13 (.agg #[.int .i64 xv, .bool ge, .slice Ae ne ce]) rfl (fun w' hk => by have ce0 : w'.cell? (ad.add (k * 3)) = some (.int .i64 xv) := (KA.out.up F11.out).up hk; have ce1 : w'.cell? ⟨(ad.add (k * 3)).block, (ad.add (k * 3)).off + 1, none⟩ = some (.bool ge) := (KB.out.up F11.out).up hk; have ce2 : w'.cell? ⟨(ad.add (k * 3)).block, (ad.add (k * 3)).off + 2, none⟩ = some (.slice Ae ne ce) := (KC.out.up F11.out).up hk; go_simp) ?_
   simp only [Act.put, pA, pB, pC]
   refine WE.new (d := some 5) (cs := #[.int .i64 0, .bool false, .slice none 0 0]) (t := 56) (v := fun g => (.pointer (some ⟨g, 0, none⟩))) rfl rfl (by rfl) (fun w => by go_simp) fun gV5 wv hx0 hbox hge => ?_
   have HNV5BX1 := hid (show gV5 ≠ (w.heap.size + 1) by have := (BX1.out.up EY.out).lt; omega)
   have HGV5 := hid (show w.heap.size ≤ gV5 by have := (E.out.trans EY.out).size; omega)
   have HAF11V5 := hid (show w11.heap.size ≤ gV5 by have := F11.out.size; omega)
   have HOOWNV5 := hid ((OWN.out.up EY.out).ne hge)
   replace EY := hid (EY.out.trans hx0)
   replace QE := hid (QE.out.up hx0)
   replace F11 := hid (F11.out.trans hx0)
   have V5 : Hid (Box wv gV5 #[.int .i64 0, .bool false, .slice none 0 0] 56) := hid hbox
   clear hx0 hbox hge
   simp only [Act.put, pA, pB, pC]
   refine WE.store3 (g := gV5) (x := .int .i64 xv) (y := .bool ge) (z := .slice Ae ne ce) (t := 56) rfl rfl (by rfl) (fun w hb => ?_) V5.out (by rfl) fun ws hk hs => ?_
   ·obtain ⟨ce0, ce1, ce2⟩ := hb.c3; obtain ⟨f0, f1, f2⟩ := hb.f3; go_simp
   intro hbx
   replace HBH := hid (Nat.le_trans HBH.out (Nat.le_trans EY.out.size hk.1.size))
   replace OWN := hid ((OWN.out.up EY.out).keptF hk hs HOOWNV5.out)
   replace F11 := hid (F11.out.keptG hk HAF11V5.out)
   replace E := hid ((E.out.trans EY.out).keptG hk HGV5.out)
   replace BX1 := hid ((BX1.out.up EY.out).kept hk (by simpa using HNV5BX1.out.symm))
   replace V5 := hid hbx
   replace QE := hid (QE.out.kz hs)
   clear hk hs hbx
   replace EY := hid (Ext.refl ws)
   refine WE.done ?_
   go_upto_region 5 with (fail)
   refine wp_region_S [(0, 0), (1, 0), (2, 0), (3, 1), (4, 4), (5, 0)] fun wd hb => ?_
   replace EY := hid (EY.out.trans hb)
   replace F11 := hid (F11.out.trans hb)
   clear hb
   refine WE.pp 14 (.slice Ao no co) ?_
   refine WE.pp 15 (.pointer (some ⟨gV5, 1, none⟩)) ?_
   refine WE.qq 16 (.agg #[.bool ge, .slice Ae ne ce]) rfl (fun w' hk => by obtain ⟨ce0, ce1, ce2⟩ := ((V5.out.up EY.out).up hk).c3; go_simp) ?_
   simp only [Act.put, pA, pB, pC]
   refine WE.new (d := some 17) (cs := #[.bool ge, .slice Ae ne ce]) (t := 25) (v := fun g => (.slice (some ⟨g, 0, none⟩) 1 1)) rfl rfl (by rfl) (fun w => by go_simp) fun gL1 wv hx0 hbox hge => ?_
   replace EY := hid (EY.out.trans hx0)
   replace F11 := hid (F11.out.trans hx0)
   have L1 : Hid (Box wv gL1 #[.bool ge, .slice Ae ne ce] 25) := hid hbox
   clear hx0 hbox hge
   simp only [Act.put, pA, pB, pC]
   obtain ⟨v9, wk, hrun, ho9, hk9, hs9⟩ := appJ_run (OWN.out.up EY.out) L1.out (QE.out.up EY.out).fields.2.1 (by rw [M.crow_len, List.length_take]; have := HN.out; omega) (Nat.le_trans HBH.out EY.out.size) 28
   obtain ⟨A9, n9, c9, rfl⟩ := ho9.shape
   have HBLK := hid (OWN.out.up EY.out).blk
   refine WE.actK (d := some 18) rfl rfl (by rfl) (exec_app (.tmp 14) (.tmp 17) rfl rfl rfl hrun) hk9.1.size ?_
   have HQ9 := hid (QE.out.up EY.out).fields
   replace E := hid (((E.out.trans EY.out)).own hk9 HBLK.out HBW.out)
   replace BX1 := hid (Kept.box (X := []) ((BX1.out.up EY.out)) hk9 HBLK.out HBBX1.out)
   replace F11 := hid ((F11.out).own hk9 HBLK.out HBAF11.out)
   have HSZ := hid hk9.1.size
   replace HBH := hid (Nat.le_trans HBH.out (Nat.le_trans EY.out.size HSZ.out))
   replace OWN := hid ho9
   replace EY := hid (Ext.refl wk)
   clear hrun ho9 hk9 hs9 HBLK HSZ L1 V5
   refine WE.pp 3 (.slice A9 n9 c9) ?_
   simp only [Act.put, pA, pB, pC]
   refine WE.done ?_
   go_wp2
   go_roundw
   case rel => exact ⟨k + 1, A9, n9, c9, rfl, by go_num, by omega, (E.out.trans EY.out), F11.out, HBH.out, (BX1.out.up EY.out), by rw [List.take_add_one, HX.out, Option.toList_some, M.crow_snoc]; have := (OWN.out.up EY.out); rw [HQ9.out.1] at this; exact this⟩
   case measure => simp [intOf]; all_goals omega
  ·obtain rfl : k = n11 := by omega
   have hlt' : decide ((k : Int) < (k : Int)) = false := by simp
   go_upto_region 3 with (fail)
   refine wp_region_S [(0, 0)] fun wd hb => ?_
   replace EY := hid (EY.out.trans hb)
   clear hb
   refine WE.pp 11 (.bool false) ?_
   simp only [Act.put, pA, pB, pC]
   refine WE.done ?_
   have HTK := hid (show t.take k = t by rw [HC.out.1]; exact List.take_length)
   go_upto_region 7 with (fail)
   refine wp_region_S [(0, 0), (1, 1), (2, 4)] fun wd hb => ?_
   replace EY := hid (EY.out.trans hb)
   clear hb
   refine WE.pp 20 (.slice Ao no co) ?_
   refine WE.cc 21 ((gAll_w (OWN.out.up EY.out).list (K := W) (by rw [HTK.out]; intro x hx; obtain ⟨y, hy, rfl⟩ := List.mem_map.1 hx; exact T11.out.2 y hy) (by have := HW.out; omega)).mono ?_)
   rintro e wn ⟨v1, rfl, x1, hb⟩
   obtain ⟨g12, A12, n12, c12, rfl⟩ := x1.shape
   refine ⟨_, rfl, hb, ?_⟩
   replace EY := hid (EY.out.trans hb)
   have Q12 := hid x1
   clear hb x1
   simp only [Act.put, pA, pB, pC]
   clear F11 OWN
   refine WE.store2 (g := (w.heap.size + 1)) (x := .bool g12) (y := .slice A12 n12 c12) (t := 25) rfl rfl (by rfl) (fun w hb => ?_) (BX1.out.up EY.out) (by rfl) fun ws hk hs => ?_
   ·obtain ⟨ce0, ce1⟩ := hb.c2; obtain ⟨f0, f1⟩ := hb.f2; go_simp
   intro hbx
   replace E := hid ((E.out.trans EY.out).keptG hk (by simp))
   replace BX1 := hid hbx
   replace Q12 := hid (Q12.out.kz hs)
   clear hk hs hbx
   replace EY := hid (Ext.refl ws)
   refine WE.done ?_
   have r0 := (BX1.out.up EY.out).cell (o := 0) (v := .bool g12) rfl
   have r1 := (BX1.out.up EY.out).cell (o := 1) (v := .slice A12 n12 c12) rfl
   repeat go_step
   exact bodyPost_ret (v := .agg #[.bool g12, .slice A12 n12 c12]) (by simp [results, Tryz.results34, go_sem, r0, r1]) rfl ⟨_, rfl, IsZ.to (Q12.out.up EY.out) (by rw [HTK.out, M.gl_crow]), (E.out.trans EY.out)⟩

end Go.Proofs.YtklmnmkmpkobhaaGreat
