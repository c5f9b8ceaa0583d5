/-
  Contract of the reference's At: what a form is worth at a point.
-/
import Derived.Test.YtklmnmkmpkobhaaGreatLRefB
namespace Go.Proofs.YtklmnmkmpkobhaaGreat
open Go.RowKit
set_option linter.unusedSimpArgs false
set_option linter.unusedVariables false

/-- What variable v has at the point xs. -/
def M.valAt (xs : List (Bool × List Nat)) (v : Int) : Int := match xs[v.toNat]? with | some x => M.zv x.1 x.2 | none => 0
theorem M.atT_snoc (f : Int → Int) (t : M.Tm) (v c : Int) : M.atT f (t ++ [(v, c)]) = M.atT f t + c * f v := by
 unfold M.atT
 rw [List.map_append, List.sum_append]; simp
theorem M.okT_mem {t : M.Tm} {lo : Int} (h : M.okT lo t) {y : Int × Int} (hy : y ∈ t) : lo < y.1 := by
 induction t generalizing lo with
 | nil => simp at hy
 | cons z s ih =>
  rcases List.mem_cons.1 hy with rfl | hy
  ·exact h.1
  ·have := ih h.2.2 hy; have := h.1; omega

set_option maxHeartbeats 4000000 in
theorem rAtL_l {w : World} {u : Value} {t : M.Tm} {κ : Int} {W : Nat} (h1 : WorthL w u t κ W) {Ap : Option Addr} {np cp : Nat} {xs : List (Bool × List Nat)} (hp : ZList w (.slice Ap np cp) xs) (hps : ∀ x ∈ xs, x.2.length ≤ W) (hw : W ≤ 1000) (hn : t.length ≤ 1000) :
 Calls Tryz.prog 33 #[u, .slice Ap np cp] w (GivesZ w (κ + M.atT (M.valAt xs) t) (W + W + t.length)) := by
 obtain ⟨A1, n1, c1, g1, B1, m1, d1, rfl⟩ := h1.shape
 have R1 := hid h1
 have HP := hid hp
 have HPS := hid hps
 have HW := hid hw
 have HN := hid hn
 have HPC := hid hp.count
 have hp9 : np ≤ 9223372036854775807 := hp.count.2.2
 clear hp hps hw hn
 clear h1
 go_enter Tryz.func33, Tryz.ntmps33
 go_upto_region 1 with (fail)
 obtain ⟨E, BX0, BX1⟩ := open2 w #[.slice A1 n1 c1, .bool g1, .slice B1 m1 d1] 27 #[.bool false, .slice none 0 0] 25
 replace R1 := hid (R1.out.up E.out)
 refine wp_region_S [(0, 0), (1, 1), (2, 1), (3, 4)] fun wd hb => ?_
 replace E := hid (E.out.trans hb)
 replace BX0 := hid (BX0.out.up hb)
 replace BX1 := hid (BX1.out.up hb)
 replace R1 := hid (R1.out.up hb)
 clear hb
 have EY := hid (Ext.refl wd)
 refine WE.qq 8 (.agg #[.slice A1 n1 c1, .bool g1, .slice B1 m1 d1]) rfl (fun w' hk => by obtain ⟨ce0, ce1, ce2⟩ := ((BX0.out.up EY.out).up hk).c3; go_simp) ?_
 refine WE.cc 9 ((rMayL_l (R1.out.up EY.out)).mono ?_)
 rintro e w11 ⟨v1, rfl, x1, hb⟩
 obtain ⟨A11, n11, c11, g11, B11, m11, d11, rfl, t1, k1, o1⟩ := x1
 refine ⟨_, rfl, hb, ?_⟩
 replace EY := hid (EY.out.trans hb)
 have T11 := hid t1
 have Q11 := hid k1
 have O11 := hid o1
 have F11 := hid (Ext.refl w11)
 clear hb t1 k1 o1
 simp only [Act.put, pA, pB, pC]
 refine WE.new (d := some 5) (cs := #[.slice none 0 0, .bool false, .slice none 0 0]) (t := 27) (v := fun g => (.pointer (some ⟨g, 0, none⟩))) rfl rfl (by rfl) (fun w => by go_simp) fun gV5 wv hx0 hbox hge => ?_
 have HNV5BX1 := hid (show gV5 ≠ (w.heap.size + 1) by have := (BX1.out.up EY.out).lt; omega)
 have HGV5 := hid (show w.heap.size ≤ gV5 by have := (E.out.trans EY.out).size; omega)
 have HAF11V5 := hid (show w11.heap.size ≤ gV5 by have := F11.out.size; omega)
 replace EY := hid (EY.out.trans hx0)
 replace Q11 := hid (Q11.out.up hx0)
 replace F11 := hid (F11.out.trans hx0)
 have V5 : Hid (Box wv gV5 #[.slice none 0 0, .bool false, .slice none 0 0] 27) := hid hbox
 clear hx0 hbox hge
 simp only [Act.put, pA, pB, pC]
 refine WE.store3 (g := gV5) (x := .slice A11 n11 c11) (y := .bool g11) (z := .slice B11 m11 d11) (t := 27) rfl rfl (by rfl) (fun w hb => ?_) V5.out (by rfl) fun ws hk hs => ?_
 ·obtain ⟨ce0, ce1, ce2⟩ := hb.c3; obtain ⟨f0, f1, f2⟩ := hb.f3; go_simp
 intro hbx
 replace F11 := hid (F11.out.keptG hk HAF11V5.out)
 replace E := hid ((E.out.trans EY.out).keptG hk HGV5.out)
 replace BX1 := hid ((BX1.out.up EY.out).kept hk (by simpa using HNV5BX1.out.symm))
 replace V5 := hid hbx
 replace Q11 := hid (Q11.out.kz hs)
 clear hk hs hbx
 replace EY := hid (Ext.refl ws)
 refine WE.done ?_
 clear R1
 go_upto_region 2 with (fail)
 refine wp_region_S [(0, 0), (1, 0), (2, 1), (3, 4)] fun wd hb => ?_
 replace EY := hid (EY.out.trans hb)
 replace F11 := hid (F11.out.trans hb)
 clear hb
 refine WE.pp 10 (.pointer (some ⟨gV5, 1, none⟩)) ?_
 refine WE.qq 11 (.agg #[.bool g11, .slice B11 m11 d11]) rfl (fun w' hk => by obtain ⟨ce0, ce1, ce2⟩ := ((V5.out.up EY.out).up hk).c3; go_simp) ?_
 simp only [Act.put, pA, pB, pC]
 refine WE.new (d := some 6) (cs := #[.bool false, .slice none 0 0]) (t := 25) (v := fun g => (.pointer (some ⟨g, 0, none⟩))) rfl rfl (by rfl) (fun w => by go_simp) fun gV6 wv hx0 hbox hge => ?_
 have HNV6BX1 := hid (show gV6 ≠ (w.heap.size + 1) by have := (BX1.out.up EY.out).lt; omega)
 have HNV6V5 := hid (show gV6 ≠ gV5 by have := (V5.out.up EY.out).lt; omega)
 have HGV6 := hid (show w.heap.size ≤ gV6 by have := (E.out.trans EY.out).size; omega)
 have HAF11V6 := hid (show w11.heap.size ≤ gV6 by have := F11.out.size; omega)
 replace EY := hid (EY.out.trans hx0)
 replace F11 := hid (F11.out.trans hx0)
 have V6 : Hid (Box wv gV6 #[.bool false, .slice none 0 0] 25) := hid hbox
 clear hx0 hbox hge
 simp only [Act.put, pA, pB, pC]
 refine WE.store2 (g := gV6) (x := .bool g11) (y := .slice B11 m11 d11) (t := 25) rfl rfl (by rfl) (fun w hb => ?_) V6.out (by rfl) fun ws hk hs => ?_
 ·obtain ⟨ce0, ce1⟩ := hb.c2; obtain ⟨f0, f1⟩ := hb.f2; go_simp
 intro hbx
 replace F11 := hid (F11.out.keptG hk HAF11V6.out)
 replace E := hid ((E.out.trans EY.out).keptG hk HGV6.out)
 replace BX1 := hid ((BX1.out.up EY.out).kept hk (by simpa using HNV6BX1.out.symm))
 replace V5 := hid ((V5.out.up EY.out).kept hk (by simpa using HNV6V5.out.symm))
 replace V6 := hid hbx
 replace Q11 := hid ((Q11.out.up EY.out).kz hs)
 clear hk hs hbx
 replace EY := hid (Ext.refl ws)
 refine WE.done ?_
 have HC := hid T11.out.count
 have hb9 : n11 ≤ 9223372036854775807 := T11.out.count.2.2
 go_wp2
 go_loopw [7] (fun i wr => ∃ (k : Nat) (gg : Bool) (Ag : Option Addr) (ng cg : Nat), k ≤ n11 ∧ i = .int .i64 (k : Int) ∧ Ext w wr ∧ Ext w11 wr ∧ Box wr gV5 #[.slice A11 n11 c11, .bool g11, .slice B11 m11 d11] 27 ∧ Box wr (w.heap.size + 1) #[.bool false, .slice none 0 0] 25 ∧ Box wr gV6 #[.bool gg, .slice Ag ng cg] 25 ∧ IsZ wr (.agg #[.bool gg, .slice Ag ng cg]) (κ + M.atT (M.valAt xs) (t.take k)) (W + W + k)) (fun i _ => n11 - (intOf i).toNat)
 case atStart => exact ⟨0, g11, B11, m11, d11, Nat.zero_le _, rfl, E.out, F11.out, V5.out, BX1.out, V6.out, by rw [List.take_zero, M.atT_nil, Int.add_zero]; exact Q11.out.wide (by omega)⟩
 case round =>
  clear E EY F11 V5 V6 BX1 Q11
  obtain ⟨k, gg, Ag, ng, cg, hk, rfl, hext, hf, hv5, hb1, hv6, hq⟩ := hrel
  have E := hid hext
  have F11 := hid hf
  have V5 := hid hv5
  have BX1 := hid hb1
  have V6 := hid hv6
  have Q10 := hid hq
  clear hext hf hv5 hb1 hv6 hq
  have EY := hid (Ext.refl wr)
  by_cases hlt : k < n11
  ·have hlt' : decide ((k : Int) < (n11 : Int)) = true := decide_eq_true (by omega)
   obtain ⟨x, hx⟩ : ∃ x, t[k]? = some x := ⟨_, List.getElem?_eq_getElem (by rw [← HC.out.1]; exact hlt)⟩
   obtain ⟨ad, ge, Ae, ne, ce, rfl, ka, kb, kc, kz⟩ := T11.out.get hx
   obtain ⟨xv, xc⟩ := x
   obtain ⟨vp, rfl⟩ : ∃ vp : Nat, xv = (vp : Int) := ⟨xv.toNat, by have := M.okT_mem O11.out (List.mem_of_getElem? hx); simp at this; omega⟩
   have HX := hid hx
   have KA := hid ka
   have KB := hid kb
   have KC := hid kc
   have QE := hid (kz.up F11.out)
   clear hx ka kb kc kz
   go_upto_region 4 with (fail)
   refine wp_region_S [(0, 0), (1, 0), (2, 0), (3, 0), (4, 0)] fun wd hb => ?_
   replace EY := hid (EY.out.trans hb)
   replace QE := hid (QE.out.up hb)
   replace F11 := hid (F11.out.trans hb)
   clear hb
   refine WE.pp 12 (.int .i64 (k : Int)) ?_
   refine WE.pp 13 (.pointer (some ⟨gV5, 0, none⟩)) ?_
   refine WE.qq 14 (.slice (some ad) n11 c11) rfl (fun w' hk => by have ce0 := ((V5.out.up EY.out).up hk).k 0; go_simp) ?_
   refine WE.pp 15 (.int .i64 (n11 : Int)) ?_
   refine WE.pp 16 (.bool true) ?_
   simp only [Act.put, pA, pB, pC]
   refine WE.done ?_
   by_cases hvn : vp < np
   ·have hvd : decide ((vp : Int) < (np : Int)) = true := decide_eq_true (by omega)
    obtain ⟨z, hz⟩ : ∃ z, xs[vp]? = some z := ⟨_, List.getElem?_eq_getElem (by rw [← HPC.out.1]; exact hvn)⟩
    obtain ⟨ap, Az, nz, cz, rfl, ja, jb, jz⟩ := HP.out.get hz
    obtain ⟨gz, lz⟩ := z
    have JA := hid ja
    have JB := hid jb
    have RZ := hid (worth_of (g := gz) (x := M.zv gz lz) (jz.up (E.out.trans EY.out)) (HPS.out _ (List.mem_of_getElem? hz)) rfl)
    have HVA := hid (show M.valAt xs (vp : Int) = M.zv gz lz by unfold M.valAt; rw [Int.toNat_natCast, hz])
    clear hz ja jb jz
    go_upto_region 6 with (fail)
    refine wp_region_S [(0, 0), (1, 0), (2, 0), (3, 0), (4, 0), (5, 0), (6, 0), (7, 0), (8, 0)] fun wd hb => ?_
    replace EY := hid (EY.out.trans hb)
    replace QE := hid (QE.out.up hb)
    replace RZ := hid (RZ.out.up hb)
    replace F11 := hid (F11.out.trans hb)
    clear hb
    refine WE.pp 19 (.pointer (some ⟨gV5, 0, none⟩)) ?_
    refine WE.qq 20 (.slice (some ad) n11 c11) rfl (fun w' hk => by have ce0 := ((V5.out.up EY.out).up hk).k 0; go_simp) ?_
    refine WE.pp 21 (.int .i64 (k : Int)) ?_
    refine WE.pp 22 (.pointer (some (ad.add (k * 3)))) ?_
    refine WE.pp 23 (.pointer (some (ad.add (k * 3)))) ?_
    refine WE.qq 24 (.int .i64 (vp : Int)) rfl (fun w' hk => by have ce0 : w'.cell? (ad.add (k * 3)) = some (.int .i64 (vp : Int)) := (KA.out.up F11.out).up hk; go_simp) ?_
    simp only [Act.put, pA, pB, pC]
    refine WE.pp 25 (.slice (some ap) np cp) ?_
    refine WE.pp 26 (.int .i64 (np : Int)) ?_
    refine WE.pp 27 (.bool true) ?_
    simp only [Act.put, pA, pB, pC]
    refine WE.done ?_
    go_upto_region 7 with (fail)
    refine wp_region_D [(0, 0), (1, 0), (2, 0), (3, 0), (4, 0), (5, 0), (6, 0), (7, 0), (8, 0), (9, 0), (10, 0), (11, 0), (12, 0), (13, 0), (14, 0), (15, 0), (16, 1), (17, 1), (18, 4)] fun wd hb => ?_
    replace EY := hid (EY.out.trans hb)
    replace QE := hid (QE.out.up hb)
    replace RZ := hid (RZ.out.up hb)
    replace F11 := hid (F11.out.trans hb)
    clear hb
    refine WE.qq 28 (.agg #[.bool gg, .slice Ag ng cg]) rfl (fun w' hk => by obtain ⟨ce0, ce1⟩ := ((V6.out.up EY.out).up hk).c2; go_simp) ?_
    refine WE.pp 29 (.pointer (some ⟨gV5, 0, none⟩)) ?_
    refine WE.qq 30 (.slice (some ad) n11 c11) rfl (fun w' hk => by have ce0 := ((V5.out.up EY.out).up hk).k 0; go_simp) ?_
    refine WE.pp 31 (.int .i64 (k : Int)) ?_
    refine WE.pp 32 (.pointer (some (ad.add (k * 3)))) ?_
    refine WE.pp 33 (.pointer (some ⟨(ad.add (k * 3)).block, (ad.add (k * 3)).off + 1, none⟩)) ?_
    simp only [Act.put, pA, pB, pC]
    refine WE.qq 34 (.agg #[.bool ge, .slice Ae ne ce]) rfl (fun w' hk => by have ce1 : w'.cell? ⟨(ad.add (k * 3)).block, (ad.add (k * 3)).off + 1, none⟩ = some (.bool ge) := (KB.out.up F11.out).up hk; have ce2 : w'.cell? ⟨(ad.add (k * 3)).block, (ad.add (k * 3)).off + 2, none⟩ = some (.slice Ae ne ce) := (KC.out.up F11.out).up hk; go_simp) ?_
    refine WE.pp 35 (.slice (some ap) np cp) ?_
    refine WE.pp 36 (.pointer (some ⟨gV5, 0, none⟩)) ?_
    refine WE.qq 37 (.slice (some ad) n11 c11) rfl (fun w' hk => by have ce0 := ((V5.out.up EY.out).up hk).k 0; go_simp) ?_
    refine WE.pp 38 (.int .i64 (k : Int)) ?_
    refine WE.pp 39 (.pointer (some (ad.add (k * 3)))) ?_
    simp only [Act.put, pA, pB, pC]
    refine WE.pp 40 (.pointer (some (ad.add (k * 3)))) ?_
    refine WE.qq 41 (.int .i64 (vp : Int)) rfl (fun w' hk => by have ce0 : w'.cell? (ad.add (k * 3)) = some (.int .i64 (vp : Int)) := (KA.out.up F11.out).up hk; go_simp) ?_
    refine WE.pp 42 (.pointer (some (ap.add (vp * 2)))) ?_
    refine WE.qq 43 (.agg #[.bool gz, .slice Az nz cz]) rfl (fun w' hk => by have ce0 : w'.cell? (ap.add (vp * 2)) = some (.bool gz) := (JA.out.up (E.out.trans EY.out)).up hk; have ce1 : w'.cell? ⟨(ap.add (vp * 2)).block, (ap.add (vp * 2)).off + 1, none⟩ = some (.slice Az nz cz) := (JB.out.up (E.out.trans EY.out)).up hk; go_simp) ?_
    refine WE.cc 44 ((rMul_w QE.out.worth RZ.out (by have := HW.out; have := HC.out.1; have := HN.out; omega) (by have := HW.out; have := HC.out.1; have := HN.out; omega)).mono ?_)
    rintro e wn ⟨v1, rfl, x1, hb⟩
    obtain ⟨g12, A12, n12, c12, rfl⟩ := x1.shape
    refine ⟨_, rfl, hb, ?_⟩
    replace EY := hid (EY.out.trans hb)
    replace F11 := hid (F11.out.trans hb)
    have Q12 := hid x1
    clear hb x1
    refine WE.cc 45 ((rAdd_w (Q10.out.up EY.out).worth Q12.out.worth (by have := HW.out; have := HC.out.1; have := HN.out; omega) (by have := HW.out; have := HC.out.1; have := HN.out; omega)).mono ?_)
    rintro e wn ⟨v1, rfl, x1, hb⟩
    obtain ⟨g13, A13, n13, c13, rfl⟩ := x1.shape
    refine ⟨_, rfl, hb, ?_⟩
    replace EY := hid (EY.out.trans hb)
    replace F11 := hid (F11.out.trans hb)
    have Q13 := hid x1
    clear hb x1
    simp only [Act.put, pA, pB, pC]
    clear Q12
    refine WE.store2 (g := gV6) (x := .bool g13) (y := .slice A13 n13 c13) (t := 25) rfl rfl (by rfl) (fun w hb => ?_) (V6.out.up EY.out) (by rfl) fun ws hk hs => ?_
    ·obtain ⟨ce0, ce1⟩ := hb.c2; obtain ⟨f0, f1⟩ := hb.f2; go_simp
    intro hbx
    replace F11 := hid (F11.out.keptG hk HAF11V6.out)
    replace E := hid ((E.out.trans EY.out).keptG hk HGV6.out)
    replace BX1 := hid ((BX1.out.up EY.out).kept hk (by simpa using HNV6BX1.out.symm))
    replace V5 := hid ((V5.out.up EY.out).kept hk (by simpa using HNV6V5.out.symm))
    replace V6 := hid hbx
    replace Q10 := hid ((Q10.out.up EY.out).kz hs)
    replace Q13 := hid (Q13.out.kz hs)
    clear hk hs hbx
    replace EY := hid (Ext.refl ws)
    refine WE.done ?_
    go_wp2
    go_roundw
    case rel => exact ⟨k + 1, g13, A13, n13, c13, by omega, by go_num, (E.out.trans EY.out), F11.out, (V5.out.up EY.out), (BX1.out.up EY.out), (V6.out.up EY.out), by rw [List.take_add_one, HX.out, Option.toList_some, M.atT_snoc, HVA.out, ← Int.add_assoc]; exact (Q13.out.up EY.out).wide (by omega)⟩
    case measure => simp [intOf]; all_goals omega
   ·have hvd : decide ((vp : Int) < (np : Int)) = false := decide_eq_false (by omega)
    have HVA := hid (show M.valAt xs (vp : Int) = 0 by unfold M.valAt; rw [Int.toNat_natCast, List.getElem?_eq_none (by rw [← HPC.out.1]; omega)])
    go_upto_region 6 with (fail)
    refine wp_region_S [(0, 0), (1, 0), (2, 0), (3, 0), (4, 0), (5, 0), (6, 0), (7, 0), (8, 0)] fun wd hb => ?_
    replace EY := hid (EY.out.trans hb)
    replace F11 := hid (F11.out.trans hb)
    clear hb
    refine WE.pp 19 (.pointer (some ⟨gV5, 0, none⟩)) ?_
    refine WE.qq 20 (.slice (some ad) n11 c11) rfl (fun w' hk => by have ce0 := ((V5.out.up EY.out).up hk).k 0; go_simp) ?_
    refine WE.pp 21 (.int .i64 (k : Int)) ?_
    refine WE.pp 22 (.pointer (some (ad.add (k * 3)))) ?_
    refine WE.pp 23 (.pointer (some (ad.add (k * 3)))) ?_
    refine WE.qq 24 (.int .i64 (vp : Int)) rfl (fun w' hk => by have ce0 : w'.cell? (ad.add (k * 3)) = some (.int .i64 (vp : Int)) := (KA.out.up F11.out).up hk; go_simp) ?_
    simp only [Act.put, pA, pB, pC]
    refine WE.pp 25 (.slice Ap np cp) ?_
    refine WE.pp 26 (.int .i64 (np : Int)) ?_
    refine WE.pp 27 (.bool false) ?_
    simp only [Act.put, pA, pB, pC]
    refine WE.done ?_
    go_wp2
    go_roundw
    case rel => exact ⟨k + 1, gg, Ag, ng, cg, by omega, by go_num, (E.out.trans EY.out), F11.out, (V5.out.up EY.out), (BX1.out.up EY.out), (V6.out.up EY.out), by rw [List.take_add_one, HX.out, Option.toList_some, M.atT_snoc, HVA.out, Int.mul_zero, Int.add_zero]; exact (Q10.out.up EY.out).wide (by omega)⟩
    case measure => simp [intOf]; all_goals omega
  ·obtain rfl : k = n11 := by omega
   have hlt' : decide ((k : Int) < (k : Int)) = false := by simp
   clear F11
   go_upto_region 4 with (fail)
   refine wp_region_S [(0, 0), (1, 0), (2, 0), (3, 0), (4, 0)] fun wd hb => ?_
   replace EY := hid (EY.out.trans hb)
   clear hb
   refine WE.pp 12 (.int .i64 (k : Int)) ?_
   refine WE.pp 13 (.pointer (some ⟨gV5, 0, none⟩)) ?_
   refine WE.qq 14 (.slice A11 k c11) rfl (fun w' hk => by have ce0 := ((V5.out.up EY.out).up hk).k 0; go_simp) ?_
   refine WE.pp 15 (.int .i64 (k : Int)) ?_
   refine WE.pp 16 (.bool false) ?_
   simp only [Act.put, pA, pB, pC]
   refine WE.done ?_
   go_upto_region 8 with (fail)
   refine wp_region_S [(0, 0), (1, 4)] fun wd hb => ?_
   replace EY := hid (EY.out.trans hb)
   clear hb
   refine WE.qq 46 (.agg #[.bool gg, .slice Ag ng cg]) rfl (fun w' hk => by obtain ⟨ce0, ce1⟩ := ((V6.out.up EY.out).up hk).c2; go_simp) ?_
   simp only [Act.put, pA, pB, pC]
   refine WE.store2 (g := (w.heap.size + 1)) (x := .bool gg) (y := .slice Ag ng cg) (t := 25) rfl rfl (by rfl) (fun w hb => ?_) (BX1.out.up EY.out) (by rfl) fun ws hk hs => ?_
   ·obtain ⟨ce0, ce1⟩ := hb.c2; obtain ⟨f0, f1⟩ := hb.f2; go_simp
   intro hbx
   replace E := hid ((E.out.trans EY.out).keptG hk (by simp))
   replace BX1 := hid hbx
   replace Q10 := hid ((Q10.out.up EY.out).kz hs)
   clear hk hs hbx
   replace EY := hid (Ext.refl ws)
   refine WE.done ?_
   have r0 := (BX1.out.up EY.out).cell (o := 0) (v := .bool gg) rfl
   have r1 := (BX1.out.up EY.out).cell (o := 1) (v := .slice Ag ng cg) rfl
   repeat go_step
   exact bodyPost_ret (v := .agg #[.bool gg, .slice Ag ng cg]) (by simp [results, Tryz.results33, go_sem, r0, r1]) rfl ⟨_, rfl, by have := (Q10.out.up EY.out); rw [show t.take k = t by rw [HC.out.1, List.take_length]] at this; rw [HC.out.1] at this; exact this, (E.out.trans EY.out)⟩

end Go.Proofs.YtklmnmkmpkobhaaGreat
