/-
  Contracts of package below: the divided form, the face.
-/
import Derived.Test.YtklmnmkmpkobhaaGreatBFaceA
namespace Go.Proofs.YtklmnmkmpkobhaaGreat
open Go.RowKit
set_option linter.unusedSimpArgs false
set_option linter.unusedVariables false

set_option maxHeartbeats 4000000 in
theorem by_b {w : World} {u v : Value} {t : M.Tm} {κ g : Int} {W : Nat} (h1 : IsL w u t κ W) (h2 : Worth w v g (W + 3)) (hw : W ≤ 100000) (hn : t.length ≤ 1000) (hg : 0 < g) (hd : ∀ x ∈ t, g ∣ x.2) :
 Calls Tryz.prog 76 #[u, v] w (GivesL w (M.dmap t g) (-((-κ).fdiv g)) (W + 4)) := by
 obtain ⟨A1, n1, c1, g1, B1, m1, d1, rfl⟩ := h1.shape
 obtain ⟨g2, A2, n2, c2, rfl⟩ := h2.shape
 have R2 := hid h2
 have hcn := h1.counts
 have hb9 : n1 ≤ 9223372036854775807 := hcn.2
 have HC := hid hcn.1
 have T1 := hid h1.parts.1
 have Q1 := hid h1.parts.2.1
 have O1 := hid h1.parts.2.2
 have HW := hid hw
 have HN := hid hn
 have HG := hid hg
 have HD := hid hd
 clear hcn hw hn hg hd
 clear h1 h2
 go_enter Tryz.func76, Tryz.ntmps76
 go_upto_region 1 with (fail)
 obtain ⟨E, BX0, BX1, BX2⟩ := open3 w #[.slice A1 n1 c1, .bool g1, .slice B1 m1 d1] 70 #[.bool g2, .slice A2 n2 c2] 25 #[.slice none 0 0, .bool false, .slice none 0 0] 70
 replace Q1 := hid (Q1.out.up E.out)
 replace R2 := hid (R2.out.up E.out)
 refine wp_region_S [(0, 0), (1, 0), (2, 0), (3, 1), (4, 0), (5, 1), (6, 4)] fun wd hb => ?_
 replace E := hid (E.out.trans hb)
 replace BX0 := hid (BX0.out.up hb)
 replace BX1 := hid (BX1.out.up hb)
 replace BX2 := hid (BX2.out.up hb)
 replace R2 := hid (R2.out.up hb)
 replace Q1 := hid (Q1.out.up hb)
 clear hb
 have EY := hid (Ext.refl wd)
 refine WE.pp 8 (.pointer (some ⟨(w.heap.size), 1, none⟩)) ?_
 refine WE.qq 9 (.agg #[.bool g1, .slice B1 m1 d1]) rfl (fun w' hk => by obtain ⟨ce0, ce1, ce2⟩ := ((BX0.out.up EY.out).up hk).c3; go_simp) ?_
 refine WE.qq 10 (.agg #[.bool g2, .slice A2 n2 c2]) rfl (fun w' hk => by obtain ⟨ce0, ce1⟩ := ((BX1.out.up EY.out).up hk).c2; go_simp) ?_
 refine WE.cc 11 ((up_b (Q1.out.up EY.out).worth (R2.out.up EY.out) (by have := HW.out; omega) (by have := HW.out; omega)).mono ?_)
 rintro e wn ⟨v1, rfl, x1, hb⟩
 obtain ⟨g11, A11, n11, c11, rfl⟩ := x1.shape
 refine ⟨_, rfl, hb, ?_⟩
 replace EY := hid (EY.out.trans hb)
 have Q11 := hid x1
 clear hb x1
 refine WE.pp 12 (.agg #[.slice none 0 0, .bool g11, .slice A11 n11 c11]) ?_
 simp only [Act.put, pA, pB, pC]
 refine WE.new (d := some 5) (cs := #[.slice none 0 0, .bool false, .slice none 0 0]) (t := 70) (v := fun g => (.pointer (some ⟨g, 0, none⟩))) rfl rfl (by rfl) (fun w => by go_simp) fun gV5 wv hx0 hbox hge => ?_
 have HNV5BX0 := hid (show gV5 ≠ (w.heap.size) by have := (BX0.out.up EY.out).lt; omega)
 have HNV5BX1 := hid (show gV5 ≠ (w.heap.size + 1) by have := (BX1.out.up EY.out).lt; omega)
 have HNV5BX2 := hid (show gV5 ≠ (w.heap.size + 2) by have := (BX2.out.up EY.out).lt; omega)
 have HGV5 := hid (show w.heap.size ≤ gV5 by have := (E.out.trans EY.out).size; omega)
 replace EY := hid (EY.out.trans hx0)
 replace Q11 := hid (Q11.out.up hx0)
 have V5 : Hid (Box wv gV5 #[.slice none 0 0, .bool false, .slice none 0 0] 70) := hid hbox
 clear hx0 hbox hge
 simp only [Act.put, pA, pB, pC]
 refine WE.store3 (g := gV5) (x := .slice none 0 0) (y := .bool g11) (z := .slice A11 n11 c11) (t := 70) rfl rfl (by rfl) (fun w hb => ?_) V5.out (by rfl) fun ws hk hs => ?_
 ·obtain ⟨ce0, ce1, ce2⟩ := hb.c3; obtain ⟨f0, f1, f2⟩ := hb.f3; go_simp
 intro hbx
 replace E := hid ((E.out.trans EY.out).keptG hk HGV5.out)
 replace BX0 := hid ((BX0.out.up EY.out).kept hk (by simpa using HNV5BX0.out.symm))
 replace BX1 := hid ((BX1.out.up EY.out).kept hk (by simpa using HNV5BX1.out.symm))
 replace BX2 := hid ((BX2.out.up EY.out).kept hk (by simpa using HNV5BX2.out.symm))
 replace V5 := hid hbx
 replace R2 := hid ((R2.out.up EY.out).kz hs)
 replace Q11 := hid (Q11.out.kz hs)
 clear hk hs hbx
 replace EY := hid (Ext.refl ws)
 refine WE.done ?_
 go_upto_region 2 with (fail)
 refine wp_region_S [(0, 0), (1, 0), (2, 0), (3, 0)] fun wd hb => ?_
 replace EY := hid (EY.out.trans hb)
 clear hb
 refine WE.pp 13 (.pointer (some ⟨(w.heap.size), 0, none⟩)) ?_
 refine WE.qq 14 (.slice A1 n1 c1) rfl (fun w' hk => by have ce0 := ((BX0.out.up EY.out).up hk).k 0; go_simp) ?_
 refine WE.pp 15 (.int .i64 (n1 : Int)) ?_
 refine WE.pp 16 (.int .i64 (0)) ?_
 simp only [Act.put, pA, pB, pC]
 refine WE.done ?_
 have hlt5 := (V5.out.up EY.out).lt
 have hltx := (BX2.out.up EY.out).lt
 have hltc := (BX1.out.up EY.out).lt
 have hlt0 := (BX0.out.up EY.out).lt
 have hszw := (E.out.trans EY.out).size
 obtain ⟨base, hbase, HB5', HBX2', HBX1', HBX0', HBW'⟩ : ∃ base : Nat, base ≤ _ ∧ gV5 < base ∧ (w.heap.size + 2) < base ∧ (w.heap.size + 1) < base ∧ (w.heap.size) < base ∧ w.heap.size ≤ base := ⟨_, Nat.le_refl _, hlt5, hltx, hltc, hlt0, hszw⟩
 have HBV5 := hid HB5'
 have HBBX2 := hid HBX2'
 have HBBX1 := hid HBX1'
 have HBBX0 := hid HBX0'
 have HBW := hid HBW'
 clear HB5' HBX2' HBX1' HBX0' HBW' hlt5 hltx hltc hlt0 hszw
 go_wp2
 go_loopw [16] (fun x16 wr => ∃ (k : Nat) (Ao : Option Addr) (no : Nat) (co : Nat), x16 = .int .i64 (k : Int) ∧ k ≤ n1 ∧ Ext w wr ∧ base ≤ wr.heap.size ∧ Box wr gV5 #[.slice Ao no co, .bool g11, .slice A11 n11 c11] 70 ∧ Box wr (w.heap.size) #[.slice A1 n1 c1, .bool g1, .slice B1 m1 d1] 70 ∧ Box wr (w.heap.size + 1) #[.bool g2, .slice A2 n2 c2] 25 ∧ Box wr (w.heap.size + 2) #[.slice none 0 0, .bool false, .slice none 0 0] 70 ∧ Worth wr (.agg #[.bool g2, .slice A2 n2 c2]) g (W + 3) ∧ IsZ wr (.agg #[.bool g11, .slice A11 n11 c11]) (-((-κ).fdiv g)) (W + 4) ∧ LOwn base wr (.slice Ao no co) ((M.dmap (t.take k) g).map M.rawm)) (fun x16 _ => n1 - (intOf x16).toNat)
 case atStart => exact ⟨0, none, 0, 0, rfl, Nat.zero_le _, (E.out.trans EY.out), hbase, (V5.out.up EY.out), (BX0.out.up EY.out), (BX1.out.up EY.out), (BX2.out.up EY.out), (R2.out.up EY.out), (Q11.out.up EY.out).wide (by omega), .inl ⟨rfl, rfl⟩⟩
 case round =>
  clear E EY V5 BX0 BX1 BX2 R2 Q1 Q11 hbase
  obtain ⟨k, Ao, no, co, rfl, hr0, hr1, hr2, hr3, hr4, hr5, hr6, hr7, hr8, hr9⟩ := hrel
  have E := hid hr1
  have HBH := hid hr2
  have V5 := hid hr3
  have BX0 := hid hr4
  have BX1 := hid hr5
  have BX2 := hid hr6
  have R2 := hid hr7
  have Q11 := hid hr8
  have OWN := hid hr9
  clear hr1 hr2 hr3 hr4 hr5 hr6 hr7 hr8 hr9
  have EY := hid (Ext.refl wr)
  have hk := hr0
  by_cases hlt : k < n1
  ·have hlt' : decide ((k : Int) < (n1 : Int)) = true := decide_eq_true (by omega)
   obtain ⟨x, hx⟩ : ∃ x, t[k]? = some x := ⟨_, List.getElem?_eq_getElem (by rw [← HC.out]; exact hlt)⟩
   obtain ⟨ad, ge, Ae, ne, ce, rfl, ka, kb, kc, kz⟩ := T1.out.get hx
   obtain ⟨xv, xc⟩ := x
   have HX := hid hx
   have HUP := hid (M.up_exact HG.out (show g ∣ xc from HD.out _ (List.mem_of_getElem? hx)))
   have KA := hid ka
   have KB := hid kb
   have KC := hid kc
   have QE := hid (kz.up E.out)
   clear hx ka kb kc kz
   go_upto_region 3 with (fail)
   refine wp_region_S [(0, 0)] fun wd hb => ?_
   replace EY := hid (EY.out.trans hb)
   replace QE := hid (QE.out.up hb)
   clear hb
   refine WE.pp 17 (.bool true) ?_
   simp only [Act.put, pA, pB, pC]
   refine WE.done ?_
   go_upto_region 4 with (fail)
   refine wp_region_S [(0, 0), (1, 0), (2, 1), (3, 4)] fun wd hb => ?_
   replace EY := hid (EY.out.trans hb)
   replace QE := hid (QE.out.up hb)
   clear hb
   refine WE.pp 18 (.pointer (some (ad.add (k * 3)))) ?_
   refine WE.qq 19 (.agg #[.int .i64 xv, .bool ge, .slice Ae ne ce]) rfl (fun w' hk => by have ce0 : w'.cell? (ad.add (k * 3)) = some (.int .i64 xv) := (KA.out.up (E.out.trans EY.out)).up hk; have ce1 : w'.cell? ⟨(ad.add (k * 3)).block, (ad.add (k * 3)).off + 1, none⟩ = some (.bool ge) := (KB.out.up (E.out.trans EY.out)).up hk; have ce2 : w'.cell? ⟨(ad.add (k * 3)).block, (ad.add (k * 3)).off + 2, none⟩ = some (.slice Ae ne ce) := (KC.out.up (E.out.trans EY.out)).up hk; go_simp) ?_
   simp only [Act.put, pA, pB, pC]
   refine WE.new (d := some 7) (cs := #[.int .i64 0, .bool false, .slice none 0 0]) (t := 56) (v := fun g => (.pointer (some ⟨g, 0, none⟩))) rfl rfl (by rfl) (fun w => by go_simp) fun gV7 wv hx0 hbox hge => ?_
   have HNV7BX0 := hid (show gV7 ≠ (w.heap.size) by have := (BX0.out.up EY.out).lt; omega)
   have HNV7BX1 := hid (show gV7 ≠ (w.heap.size + 1) by have := (BX1.out.up EY.out).lt; omega)
   have HNV7BX2 := hid (show gV7 ≠ (w.heap.size + 2) by have := (BX2.out.up EY.out).lt; omega)
   have HNV7V5 := hid (show gV7 ≠ gV5 by have := (V5.out.up EY.out).lt; omega)
   have HGV7 := hid (show w.heap.size ≤ gV7 by have := (E.out.trans EY.out).size; omega)
   have HOOWNV7 := hid ((OWN.out.up EY.out).ne hge)
   replace EY := hid (EY.out.trans hx0)
   replace QE := hid (QE.out.up hx0)
   have V7 : Hid (Box wv gV7 #[.int .i64 0, .bool false, .slice none 0 0] 56) := hid hbox
   clear hx0 hbox hge
   simp only [Act.put, pA, pB, pC]
   refine WE.store3 (g := gV7) (x := .int .i64 xv) (y := .bool ge) (z := .slice Ae ne ce) (t := 56) rfl rfl (by rfl) (fun w hb => ?_) V7.out (by rfl) fun ws hk hs => ?_
   ·obtain ⟨ce0, ce1, ce2⟩ := hb.c3; obtain ⟨f0, f1, f2⟩ := hb.f3; go_simp
   intro hbx
   replace HBH := hid (Nat.le_trans HBH.out (Nat.le_trans EY.out.size hk.1.size))
   replace OWN := hid ((OWN.out.up EY.out).keptF hk hs HOOWNV7.out)
   replace E := hid ((E.out.trans EY.out).keptG hk HGV7.out)
   replace BX0 := hid ((BX0.out.up EY.out).kept hk (by simpa using HNV7BX0.out.symm))
   replace BX1 := hid ((BX1.out.up EY.out).kept hk (by simpa using HNV7BX1.out.symm))
   replace BX2 := hid ((BX2.out.up EY.out).kept hk (by simpa using HNV7BX2.out.symm))
   replace V5 := hid ((V5.out.up EY.out).kept hk (by simpa using HNV7V5.out.symm))
   replace V7 := hid hbx
   replace R2 := hid ((R2.out.up EY.out).kz hs)
   replace Q11 := hid ((Q11.out.up EY.out).kz hs)
   replace QE := hid (QE.out.kz hs)
   clear hk hs hbx
   replace EY := hid (Ext.refl ws)
   refine WE.done ?_
   go_upto_region 5 with (fail)
   refine wp_region_X [gV5, ownBlk base (.slice Ao no co)] [(0, 0), (1, 0), (2, 0), (3, 0), (4, 0), (5, 0), (6, 0), (7, 1), (8, 0), (9, 1), (10, 4), (11, 5), (12, 4)] (fun _ => (0, #[])) rfl (by kernel_rfl) (by intro j hj; cases hj) (fun _ _ d _ _ => by cases d <;> exact Iff.rfl) fun wd hb => ?_
   replace EY := hid (EY.out.trans hb)
   clear hb
   have HL1BX0 := hid (BX0.out.up EY.out).lt
   have HL1BX1 := hid (BX1.out.up EY.out).lt
   have HL1BX2 := hid (BX2.out.up EY.out).lt
   have HL1V5 := hid (V5.out.up EY.out).lt
   have HL1V7 := hid (V7.out.up EY.out).lt
   refine WX.pp 20 (.pointer (some ⟨gV5, 0, none⟩)) ?_
   refine WX.qq 21 (.slice Ao no co) rfl (fun w' hk => by have ce0 := ((V5.out.up EY.out).up hk).k 0; go_simp) ?_
   refine WX.pp 22 (.pointer (some ⟨gV7, 0, none⟩)) ?_
   refine WX.qq 23 (.int .i64 xv) rfl (fun w' hk => by have ce0 := ((V7.out.up EY.out).up hk).k 0; go_simp) ?_
   refine WX.pp 24 (.pointer (some ⟨gV7, 1, none⟩)) ?_
   refine WX.qq 25 (.agg #[.bool ge, .slice Ae ne ce]) rfl (fun w' hk => by obtain ⟨ce0, ce1, ce2⟩ := ((V7.out.up EY.out).up hk).c3; go_simp) ?_
   simp only [Act.put, pA, pB, pC]
   refine WX.qq 26 (.agg #[.bool g2, .slice A2 n2 c2]) rfl (fun w' hk => by obtain ⟨ce0, ce1⟩ := ((BX1.out.up EY.out).up hk).c2; go_simp) ?_
   refine WX.cc 27 ((up_b (QE.out.up EY.out).worth (R2.out.up EY.out) (by have := HW.out; omega) (by have := HW.out; omega)).mono ?_)
   rintro e wn ⟨v1, rfl, x1, hb⟩
   obtain ⟨g12, A12, n12, c12, rfl⟩ := x1.shape
   refine ⟨_, rfl, hb, ?_⟩
   replace EY := hid (EY.out.trans hb)
   have Q12 := hid x1
   clear hb x1
   refine WX.pp 28 (.agg #[.int .i64 xv, .bool g12, .slice A12 n12 c12]) ?_
   simp only [Act.put, pA, pB, pC]
   refine WX.new (d := some 29) (cs := #[.int .i64 xv, .bool g12, .slice A12 n12 c12]) (t := 56) (v := fun g => (.slice (some ⟨g, 0, none⟩) 1 1)) rfl rfl (by rfl) (fun w => by go_simp) fun gL1 wv hx0 hbox hge => ?_
   replace EY := hid (EY.out.trans hx0)
   replace Q12 := hid (Q12.out.up hx0)
   have L1 : Hid (Box wv gL1 #[.int .i64 xv, .bool g12, .slice A12 n12 c12] 56) := hid hbox
   clear hx0 hbox hge
   simp only [Act.put, pA, pB, pC]
   obtain ⟨v9, wk, hrun, ho9, hk9, hs9⟩ := appL_run (V := xv) (OWN.out.up EY.out) L1.out Q12.out.fields.2.1 (by rw [List.length_map, M.dmap_len, List.length_take]; have := HN.out; omega) (Nat.le_trans HBH.out EY.out.size) 22
   obtain ⟨A9, n9, c9, rfl⟩ := ho9.shape
   have HBLK := hid (OWN.out.up EY.out).blk
   refine WX.actK (d := some 30) rfl rfl (by rfl) (exec_app (.tmp 21) (.tmp 29) rfl rfl rfl hrun) (hk9.keptB (.inl (by simp))) ?_
   have HQ9 := hid Q12.out.fields
   replace E := hid (((E.out.trans EY.out)).own hk9 HBLK.out HBW.out)
   replace V5 := hid (Kept.box (X := []) ((V5.out.up EY.out)) hk9 HBLK.out HBV5.out)
   replace BX0 := hid (Kept.box (X := []) ((BX0.out.up EY.out)) hk9 HBLK.out HBBX0.out)
   replace BX1 := hid (Kept.box (X := []) ((BX1.out.up EY.out)) hk9 HBLK.out HBBX1.out)
   replace BX2 := hid (Kept.box (X := []) ((BX2.out.up EY.out)) hk9 HBLK.out HBBX2.out)
   replace R2 := hid ((R2.out.up EY.out).kz hs9)
   replace Q11 := hid ((Q11.out.up EY.out).kz hs9)
   have HSZ := hid hk9.1.size
   replace HBH := hid (Nat.le_trans HBH.out (Nat.le_trans EY.out.size HSZ.out))
   replace OWN := hid ho9
   replace EY := hid (Ext.refl wk)
   clear hrun ho9 hk9 hs9 HBLK HSZ L1 V7
   refine WX.any (d := some 31) rfl rfl (by rfl) (v := (.pointer (some ⟨gV5, 0, none⟩))) (fun w' hk => by go_simp) ?_
   simp only [Act.put, pA, pB, pC]
   refine WX.storeAt (g := gV5) (off := 0) (cs' := #[.slice A9 n9 c9, .bool g11, .slice A11 n11 c11]) (y := .slice A9 n9 c9) (t := 70) rfl rfl (by rfl) (fun w hb => ?_) (V5.out.up EY.out) (by rfl) rfl (.inl (by simp)) fun ws hk hs hbx => ?_
   ·have ce0 := hb.k 0; have f0 := hb.free 0; go_simp
   replace HBH := hid (Nat.le_trans HBH.out (Nat.le_trans EY.out.size hk.1.size))
   replace OWN := hid ((OWN.out.up EY.out).kept hk hs HBV5.out)
   replace E := hid ((E.out.trans EY.out).keptG hk HGV5.out)
   replace BX0 := hid ((BX0.out.up EY.out).kept hk (by simpa using HNV5BX0.out.symm))
   replace BX1 := hid ((BX1.out.up EY.out).kept hk (by simpa using HNV5BX1.out.symm))
   replace BX2 := hid ((BX2.out.up EY.out).kept hk (by simpa using HNV5BX2.out.symm))
   replace V5 := hid hbx
   replace R2 := hid ((R2.out.up EY.out).kz hs)
   replace Q11 := hid ((Q11.out.up EY.out).kz hs)
   clear hk hs hbx
   replace EY := hid (Ext.refl ws)
   refine WX.done ?_
   go_wp2
   go_roundw
   case rel => exact ⟨k + 1, A9, n9, c9, by go_num, by omega, (E.out.trans EY.out), HBH.out, (V5.out.up EY.out), (BX0.out.up EY.out), (BX1.out.up EY.out), (BX2.out.up EY.out), (R2.out.up EY.out), (Q11.out.up EY.out), by rw [List.take_add_one, HX.out, Option.toList_some, M.dmap_snoc, List.map_append]; have := (OWN.out.up EY.out); rw [HQ9.out.1, HUP.out] at this; exact this⟩
   case measure => simp [intOf]; all_goals omega
  ·obtain rfl : k = n1 := by omega
   have hlt' : decide ((k : Int) < (k : Int)) = false := by simp
   go_upto_region 3 with (fail)
   refine wp_region_S [(0, 0)] fun wd hb => ?_
   replace EY := hid (EY.out.trans hb)
   clear hb
   refine WE.pp 17 (.bool false) ?_
   simp only [Act.put, pA, pB, pC]
   refine WE.done ?_
   go_upto_region 7 with (fail)
   refine wp_region_S [(0, 0), (1, 4)] fun wd hb => ?_
   replace EY := hid (EY.out.trans hb)
   clear hb
   refine WE.qq 33 (.agg #[.slice Ao no co, .bool g11, .slice A11 n11 c11]) rfl (fun w' hk => by obtain ⟨ce0, ce1, ce2⟩ := ((V5.out.up EY.out).up hk).c3; go_simp) ?_
   simp only [Act.put, pA, pB, pC]
   refine WE.store3 (g := (w.heap.size + 2)) (x := .slice Ao no co) (y := .bool g11) (z := .slice A11 n11 c11) (t := 70) rfl rfl (by rfl) (fun w hb => ?_) (BX2.out.up EY.out) (by rfl) fun ws hk hs => ?_
   ·obtain ⟨ce0, ce1, ce2⟩ := hb.c3; obtain ⟨f0, f1, f2⟩ := hb.f3; go_simp
   intro hbx
   replace OWN := hid ((OWN.out.up EY.out).kept hk hs HBBX2.out)
   replace E := hid ((E.out.trans EY.out).keptG hk (by simp))
   replace BX2 := hid hbx
   replace Q11 := hid ((Q11.out.up EY.out).kz hs)
   clear hk hs hbx
   replace EY := hid (Ext.refl ws)
   refine WE.done ?_
   have r0 := (BX2.out.up EY.out).cell (o := 0) (v := .slice Ao no co) rfl
   have r1 := (BX2.out.up EY.out).cell (o := 1) (v := .bool g11) rfl
   have r2 := (BX2.out.up EY.out).cell (o := 2) (v := .slice A11 n11 c11) rfl
   repeat go_step
   exact bodyPost_ret (v := .agg #[.slice Ao no co, .bool g11, .slice A11 n11 c11]) (by simp [results, Tryz.results76, go_sem, r0, r1, r2]) rfl ⟨_, rfl, by_post (by rw [HC.out]; exact List.take_length) (OWN.out.up EY.out) (fun x hx => Nat.le_trans (T1.out.2 x hx) (Nat.le_add_right _ 4)) (Q11.out.up EY.out) O1.out HG.out HD.out, (E.out.trans EY.out)⟩

set_option maxHeartbeats 4000000 in
theorem normB_l {w : World} {u : Value} {t : M.Tm} {κ : Int} {W : Nat} (h1 : WorthL w u t κ W) (hw : W ≤ 50) (hn : t.length ≤ 1000) :
 Calls Tryz.prog 43 #[u] w (GivesNC w (M.nT t) (M.nK t κ) (M.nC t κ) (W + 4)) := by
 obtain ⟨A1, n1, c1, g1, B1, m1, d1, rfl⟩ := h1.shape
 have R1 := hid h1
 have HW := hid hw
 have HN := hid hn
 clear hw hn
 obtain ⟨cc, hcc⟩ : ∃ c : Int, M.nC t κ = c := ⟨_, rfl⟩
 have HCC := hid hcc
 clear hcc
 have HO := hid h1.okB
 clear h1
 go_enter Tryz.func43, Tryz.ntmps43
 go_upto_region 1 with (fail)
 obtain ⟨E, BX0, BX1⟩ := open2 w #[.slice A1 n1 c1, .bool g1, .slice B1 m1 d1] 27 #[.slice none 0 0, .bool false, .slice none 0 0] 27
 replace R1 := hid (R1.out.up E.out)
 refine wp_region_S [(0, 0), (1, 1), (2, 1), (3, 4)] fun wd hb => ?_
 replace E := hid (E.out.trans hb)
 replace BX0 := hid (BX0.out.up hb)
 replace BX1 := hid (BX1.out.up hb)
 replace R1 := hid (R1.out.up hb)
 clear hb
 have EY := hid (Ext.refl wd)
 refine WE.qq 5 (.agg #[.slice A1 n1 c1, .bool g1, .slice B1 m1 d1]) rfl (fun w' hk => by obtain ⟨ce0, ce1, ce2⟩ := ((BX0.out.up EY.out).up hk).c3; go_simp) ?_
 refine WE.cc 6 ((readB_l (R1.out.up EY.out)).mono ?_)
 rintro e wn ⟨v1, rfl, x1, hb⟩
 obtain ⟨A11, n11, c11, g11, B11, m11, d11, rfl⟩ := x1.shape
 refine ⟨_, rfl, hb, ?_⟩
 replace EY := hid (EY.out.trans hb)
 have S11 := hid x1
 clear hb x1
 simp only [Act.put, pA, pB, pC]
 refine WE.new (d := some 4) (cs := #[.slice none 0 0, .bool false, .slice none 0 0]) (t := 72) (v := fun g => (.pointer (some ⟨g, 0, none⟩))) rfl rfl (by rfl) (fun w => by go_simp) fun gV4 wv hx0 hbox hge => ?_
 have HNV4BX1 := hid (show gV4 ≠ (w.heap.size + 1) by have := (BX1.out.up EY.out).lt; omega)
 have HGV4 := hid (show w.heap.size ≤ gV4 by have := (E.out.trans EY.out).size; omega)
 replace EY := hid (EY.out.trans hx0)
 replace S11 := hid (S11.out.up hx0)
 have V4 : Hid (Box wv gV4 #[.slice none 0 0, .bool false, .slice none 0 0] 72) := hid hbox
 clear hx0 hbox hge
 simp only [Act.put, pA, pB, pC]
 refine WE.store3 (g := gV4) (x := .slice A11 n11 c11) (y := .bool g11) (z := .slice B11 m11 d11) (t := 72) rfl rfl (by rfl) (fun w hb => ?_) V4.out (by rfl) fun ws hk hs => ?_
 ·obtain ⟨ce0, ce1, ce2⟩ := hb.c3; obtain ⟨f0, f1, f2⟩ := hb.f3; go_simp
 intro hbx
 replace S11 := hid (S11.out.kb V4.out (by rfl) hk hs)
 replace E := hid ((E.out.trans EY.out).keptG hk HGV4.out)
 replace BX1 := hid ((BX1.out.up EY.out).kept hk (by simpa using HNV4BX1.out.symm))
 replace V4 := hid hbx
 clear hk hs hbx
 replace EY := hid (Ext.refl ws)
 refine WE.done ?_
 clear R1
 go_upto_region 2 with (fail)
 refine wp_region_D [(0, 0), (1, 0), (2, 0), (3, 0), (7, 0), (4, 1), (5, 1), (6, 1), (8, 1), (9, 4), (10, 5)] fun wd hb => ?_
 replace EY := hid (EY.out.trans hb)
 clear hb
 refine WE.pp 7 (.pointer (some ⟨gV4, 0, none⟩)) ?_
 refine WE.qq 8 (.agg #[.slice A11 n11 c11, .bool g11, .slice B11 m11 d11]) rfl (fun w' hk => by obtain ⟨ce0, ce1, ce2⟩ := ((V4.out.up EY.out).up hk).c3; go_simp) ?_
 refine WE.pp 9 (.pointer (some ⟨gV4, 0, none⟩)) ?_
 refine WE.qq 10 (.agg #[.slice A11 n11 c11, .bool g11, .slice B11 m11 d11]) rfl (fun w' hk => by obtain ⟨ce0, ce1, ce2⟩ := ((V4.out.up EY.out).up hk).c3; go_simp) ?_
 refine WE.qq 14 (.agg #[.slice A11 n11 c11, .bool g11, .slice B11 m11 d11]) rfl (fun w' hk => by obtain ⟨ce0, ce1, ce2⟩ := ((V4.out.up EY.out).up hk).c3; go_simp) ?_
 refine WE.cc 11 ((common_b (S11.out.up EY.out) (by have := HW.out; omega) HN.out).mono ?_)
 rintro e wn ⟨v1, rfl, x1, hb⟩
 obtain ⟨g12, A12, n12, c12, rfl⟩ := x1.shape
 refine ⟨_, rfl, hb, ?_⟩
 replace EY := hid (EY.out.trans hb)
 have Q12 := hid x1
 clear hb x1
 simp only [Act.put, pA, pB, pC]
 refine WE.cc 12 ((by_b (S11.out.up EY.out) Q12.out.worth (by have := HW.out; omega) HN.out (M.cm_pos HO.out) (fun _ hx => M.cm_dvd hx)).mono ?_)
 rintro e wn ⟨v1, rfl, x1, hb⟩
 obtain ⟨A13, n13, c13, g13, B13, m13, d13, rfl⟩ := x1.shape
 refine ⟨_, rfl, hb, ?_⟩
 replace EY := hid (EY.out.trans hb)
 have S13 := hid x1
 clear hb x1
 refine WE.cc 13 ((told_b S13.out).mono ?_)
 rintro e wn ⟨v1, rfl, x1, hb⟩
 obtain ⟨A14, n14, c14, g14, B14, m14, d14, rfl⟩ := x1.shape
 refine ⟨_, rfl, hb, ?_⟩
 replace EY := hid (EY.out.trans hb)
 have S14 := hid x1
 clear hb x1
 refine WE.cc 15 ((class_b (S11.out.up EY.out) HW.out (c := cc) HCC.out).mono ?_)
 rintro e wn ⟨rfl, hb⟩
 refine ⟨_, rfl, hb, ?_⟩
 replace EY := hid (EY.out.trans hb)
 replace S14 := hid (S14.out.up hb)
 clear hb
 simp only [Act.put, pA, pB, pC]
 refine WE.store3 (g := (w.heap.size + 1)) (x := .slice A14 n14 c14) (y := .bool g14) (z := .slice B14 m14 d14) (t := 27) rfl rfl (by rfl) (fun w hb => ?_) (BX1.out.up EY.out) (by rfl) fun ws hk hs => ?_
 ·obtain ⟨ce0, ce1, ce2⟩ := hb.c3; obtain ⟨f0, f1, f2⟩ := hb.f3; go_simp
 intro hbx
 replace S14 := hid (S14.out.kb (BX1.out.up EY.out) (by rfl) hk hs)
 replace E := hid ((E.out.trans EY.out).keptG hk (by simp))
 replace BX1 := hid hbx
 clear hk hs hbx
 replace EY := hid (Ext.refl ws)
 refine WE.any (d := some 3) rfl rfl (by rfl) (v := (.int .i64 cc)) (fun w' => by go_simp) ?_
 simp only [Act.put, pA, pB, pC]
 refine WE.done ?_
 have r0 := (BX1.out.up EY.out).cell (o := 0) (v := .slice A14 n14 c14) rfl
 have r1 := (BX1.out.up EY.out).cell (o := 1) (v := .bool g14) rfl
 have r2 := (BX1.out.up EY.out).cell (o := 2) (v := .slice B14 m14 d14) rfl
 repeat go_step
 exact bodyPost_ret (v := .tuple #[.agg #[.slice A14 n14 c14, .bool g14, .slice B14 m14 d14], .int .i64 cc]) (by simp [results, Tryz.results43, go_sem, r0, r1, r2]) rfl ⟨_, by rw [HCC.out], (S14.out.up EY.out), (E.out.trans EY.out)⟩

set_option maxHeartbeats 2000000 in
theorem notB_l {w : World} {u : Value} {t : M.Tm} {κ : Int} {W : Nat} (h1 : WorthL w u t κ W) (hw : W ≤ 40) (hn : t.length ≤ 150) :
 Calls Tryz.prog 45 #[u] w (GivesL w (M.scaleT t (-1)) (1 + κ * -1) (W + 4)) := by
 obtain ⟨A1, n1, c1, g1, B1, m1, d1, rfl⟩ := h1.shape
 have R1 := hid h1
 have HW := hid hw
 have HN := hid hn
 clear hw hn
 clear h1
 go_enter Tryz.func45, Tryz.ntmps45
 go_upto_region 1 with (fail)
 obtain ⟨E, BX0, BX1⟩ := open2 w #[.slice A1 n1 c1, .bool g1, .slice B1 m1 d1] 27 #[.slice none 0 0, .bool false, .slice none 0 0] 27
 replace R1 := hid (R1.out.up E.out)
 refine wp_region_S [(0, 0), (1, 1), (2, 0), (3, 1), (4, 1), (5, 4)] fun wd hb => ?_
 replace E := hid (E.out.trans hb)
 replace BX0 := hid (BX0.out.up hb)
 replace BX1 := hid (BX1.out.up hb)
 replace R1 := hid (R1.out.up hb)
 clear hb
 have EY := hid (Ext.refl wd)
 refine WE.qq 3 (.agg #[.slice A1 n1 c1, .bool g1, .slice B1 m1 d1]) rfl (fun w' hk => by obtain ⟨ce0, ce1, ce2⟩ := ((BX0.out.up EY.out).up hk).c3; go_simp) ?_
 refine WE.cc 4 ((readB_l (R1.out.up EY.out)).mono ?_)
 rintro e wn ⟨v1, rfl, x1, hb⟩
 obtain ⟨A11, n11, c11, g11, B11, m11, d11, rfl⟩ := x1.shape
 refine ⟨_, rfl, hb, ?_⟩
 replace EY := hid (EY.out.trans hb)
 have S11 := hid x1
 clear hb x1
 refine WE.qq 5 (.agg #[.slice A11 n11 c11, .bool g11, .slice B11 m11 d11]) rfl (fun w' hk => ?_) ?_
 ·go_simp; unfold Instr.field asAgg; go_simp
 refine WE.cc 6 ((from_b S11.out HW.out HN.out).mono ?_)
 rintro e wn ⟨v1, rfl, x1, hb⟩
 obtain ⟨A12, n12, c12, g12, B12, m12, d12, rfl⟩ := x1.shape
 refine ⟨_, rfl, hb, ?_⟩
 replace EY := hid (EY.out.trans hb)
 have S12 := hid x1
 clear hb x1
 refine WE.cc 7 ((told_b S12.out).mono ?_)
 rintro e wn ⟨v1, rfl, x1, hb⟩
 obtain ⟨A13, n13, c13, g13, B13, m13, d13, rfl⟩ := x1.shape
 refine ⟨_, rfl, hb, ?_⟩
 replace EY := hid (EY.out.trans hb)
 have S13 := hid x1
 clear hb x1
 simp only [Act.put, pA, pB, pC]
 refine WE.store3 (g := (w.heap.size + 1)) (x := .slice A13 n13 c13) (y := .bool g13) (z := .slice B13 m13 d13) (t := 27) rfl rfl (by rfl) (fun w hb => ?_) (BX1.out.up EY.out) (by rfl) fun ws hk hs => ?_
 ·obtain ⟨ce0, ce1, ce2⟩ := hb.c3; obtain ⟨f0, f1, f2⟩ := hb.f3; go_simp
 intro hbx
 replace S13 := hid (S13.out.kb (BX1.out.up EY.out) (by rfl) hk hs)
 replace E := hid ((E.out.trans EY.out).keptG hk (by simp))
 replace BX1 := hid hbx
 clear hk hs hbx
 replace EY := hid (Ext.refl ws)
 refine WE.done ?_
 have r0 := (BX1.out.up EY.out).cell (o := 0) (v := .slice A13 n13 c13) rfl
 have r1 := (BX1.out.up EY.out).cell (o := 1) (v := .bool g13) rfl
 have r2 := (BX1.out.up EY.out).cell (o := 2) (v := .slice B13 m13 d13) rfl
 repeat go_step
 exact bodyPost_ret (v := .agg #[.slice A13 n13 c13, .bool g13, .slice B13 m13 d13]) (by simp [results, Tryz.results45, go_sem, r0, r1, r2]) rfl ⟨_, rfl, (S13.out.up EY.out), (E.out.trans EY.out)⟩

set_option maxHeartbeats 2000000 in
theorem holdsB_l {w : World} {u : Value} {t : M.Tm} {κ : Int} {W : Nat} (h1 : WorthL w u t κ W) {Ap : Option Addr} {np cp : Nat} {xs : List (Bool × List Nat)} (hp : ZList w (.slice Ap np cp) xs) (hps : ∀ x ∈ xs, x.2.length ≤ W) (hw : W ≤ 50) (hn : t.length ≤ 1000) {b : Bool} (hb : decide (κ + M.atT (M.valAt xs) t ≤ 0) = b) :
 Calls Tryz.prog 47 #[u, .slice Ap np cp] w (GivesB w b) := by
 obtain ⟨A1, n1, c1, g1, B1, m1, d1, rfl⟩ := h1.shape
 have R1 := hid h1
 have HP := hid hp
 have HPS := hid hps
 have HW := hid hw
 have HN := hid hn
 have HB := hid hb
 clear hp hps hw hn hb
 clear h1
 go_enter Tryz.func47, Tryz.ntmps47
 go_upto_region 1 with (fail)
 obtain ⟨E, BX0⟩ := open1 w #[.slice A1 n1 c1, .bool g1, .slice B1 m1 d1] 27
 replace R1 := hid (R1.out.up E.out)
 refine wp_region_S [(0, 0), (1, 1), (2, 0), (3, 1), (4, 0)] fun wd hb => ?_
 replace E := hid (E.out.trans hb)
 replace BX0 := hid (BX0.out.up hb)
 replace R1 := hid (R1.out.up hb)
 clear hb
 have EY := hid (Ext.refl wd)
 refine WE.qq 5 (.agg #[.slice A1 n1 c1, .bool g1, .slice B1 m1 d1]) rfl (fun w' hk => by obtain ⟨ce0, ce1, ce2⟩ := ((BX0.out.up EY.out).up hk).c3; go_simp) ?_
 refine WE.cc 6 ((readB_l (R1.out.up EY.out)).mono ?_)
 rintro e wn ⟨v1, rfl, x1, hb⟩
 obtain ⟨A11, n11, c11, g11, B11, m11, d11, rfl⟩ := x1.shape
 refine ⟨_, rfl, hb, ?_⟩
 replace EY := hid (EY.out.trans hb)
 have S11 := hid x1
 clear hb x1
 refine WE.pp 7 (.slice Ap np cp) ?_
 refine WE.cc 8 ((holds_b S11.out (HP.out.up (E.out.trans EY.out)) HPS.out HW.out HN.out HB.out).mono ?_)
 rintro e wn ⟨rfl, hb⟩
 refine ⟨_, rfl, hb, ?_⟩
 replace EY := hid (EY.out.trans hb)
 clear hb
 refine WE.pp 4 (.bool b) ?_
 simp only [Act.put, pA, pB, pC]
 refine WE.done ?_
 repeat go_step
 go_ret
 exact ⟨rfl, (E.out.trans EY.out)⟩

set_option maxHeartbeats 4000000 in
theorem allB_l {w : World} {A1 : Option Addr} {n1 c1 W : Nat} {fs : List (M.Tm × Int)} (h1 : WList w (.slice A1 n1 c1) fs W) {Ap : Option Addr} {np cp : Nat} {xs : List (Bool × List Nat)} (hp : ZList w (.slice Ap np cp) xs) (hps : ∀ x ∈ xs, x.2.length ≤ W) (hw : W ≤ 50) (hn : ∀ x ∈ fs, x.1.length ≤ 1000) {b : Bool} (hb : fs.all (M.hl (M.valAt xs)) = b) :
 Calls Tryz.prog 49 #[.slice A1 n1 c1, .slice Ap np cp] w (GivesB w b) := by
 have HM := hid h1
 have HC := hid h1.count
 have hb9 : n1 ≤ 9223372036854775807 := h1.count.2.2
 have HP := hid hp
 have HPS := hid hps
 have HW := hid hw
 have HN := hid hn
 have HB := hid hb
 clear hp hps hw hn hb
 clear h1
 go_enter Tryz.func49, Tryz.ntmps49
 go_upto_region 1 with (fail)
 have E := hid (Ext.refl w)
 refine wp_region_S [(0, 0), (1, 0), (2, 0)] fun wd hb => ?_
 replace E := hid (E.out.trans hb)
 clear hb
 have EY := hid (Ext.refl wd)
 refine WE.pp 7 (.slice A1 n1 c1) ?_
 refine WE.pp 8 (.int .i64 (n1 : Int)) ?_
 refine WE.pp 9 (.int .i64 (0)) ?_
 simp only [Act.put, pA, pB, pC]
 refine WE.done ?_
 go_wp2
 go_loopw [9] (fun x9 wr => ∃ (k : Nat), x9 = .int .i64 (k : Int) ∧ k ≤ n1 ∧ (∀ x ∈ fs.take k, M.hl (M.valAt xs) x = true) ∧ Ext w wr) (fun x9 _ => n1 - (intOf x9).toNat)
 case atStart => exact ⟨0, rfl, Nat.zero_le _, fun x hx => by simp at hx, (E.out.trans EY.out)⟩
 case round =>
  clear E EY
  obtain ⟨k, rfl, hr0, hr1, hr2⟩ := hrel
  have HOK := hid hr1
  have E := hid hr2
  clear hr1 hr2
  have EY := hid (Ext.refl wr)
  have hk := hr0
  by_cases hlt : k < n1
  ·have hlt' : decide ((k : Int) < (n1 : Int)) = true := decide_eq_true (by omega)
   obtain ⟨x, hx⟩ : ∃ x, fs[k]? = some x := ⟨_, List.getElem?_eq_getElem (by rw [← HC.out.1]; exact hlt)⟩
   obtain ⟨ad, Be, pe, qe, ge, Ce, me, de, rfl, ka, kb, kc, kw⟩ := HM.out.get hx
   have HX := hid hx
   have HNX := hid (HN.out x (List.mem_of_getElem? hx))
   obtain ⟨tx, kx⟩ := x
   have KA := hid ka
   have KB := hid kb
   have KC := hid kc
   have KW := hid kw
   clear hx ka kb kc kw
   go_upto_region 2 with (fail)
   refine wp_region_S [(0, 0)] fun wd hb => ?_
   replace EY := hid (EY.out.trans hb)
   clear hb
   refine WE.pp 10 (.bool true) ?_
   simp only [Act.put, pA, pB, pC]
   refine WE.done ?_
   go_upto_region 3 with (fail)
   refine wp_region_S [(0, 0), (1, 0), (2, 1), (3, 4)] fun wd hb => ?_
   replace EY := hid (EY.out.trans hb)
   clear hb
   refine WE.pp 11 (.pointer (some (ad.add (k * 3)))) ?_
   refine WE.qq 12 (.agg #[.slice Be pe qe, .bool ge, .slice Ce me de]) rfl (fun w' hk => by have ce0 : w'.cell? (ad.add (k * 3)) = some (.slice Be pe qe) := (KA.out.up (E.out.trans EY.out)).up hk; have ce1 : w'.cell? ⟨(ad.add (k * 3)).block, (ad.add (k * 3)).off + 1, none⟩ = some (.bool ge) := (KB.out.up (E.out.trans EY.out)).up hk; have ce2 : w'.cell? ⟨(ad.add (k * 3)).block, (ad.add (k * 3)).off + 2, none⟩ = some (.slice Ce me de) := (KC.out.up (E.out.trans EY.out)).up hk; go_simp) ?_
   simp only [Act.put, pA, pB, pC]
   refine WE.new (d := some 6) (cs := #[.slice none 0 0, .bool false, .slice none 0 0]) (t := 27) (v := fun g => (.pointer (some ⟨g, 0, none⟩))) rfl rfl (by rfl) (fun w => by go_simp) fun gV6 wv hx0 hbox hge => ?_
   have HGV6 := hid (show w.heap.size ≤ gV6 by have := (E.out.trans EY.out).size; omega)
   replace EY := hid (EY.out.trans hx0)
   have V6 : Hid (Box wv gV6 #[.slice none 0 0, .bool false, .slice none 0 0] 27) := hid hbox
   clear hx0 hbox hge
   simp only [Act.put, pA, pB, pC]
   refine WE.store3 (g := gV6) (x := .slice Be pe qe) (y := .bool ge) (z := .slice Ce me de) (t := 27) rfl rfl (by rfl) (fun w hb => ?_) V6.out (by rfl) fun ws hk hs => ?_
   ·obtain ⟨ce0, ce1, ce2⟩ := hb.c3; obtain ⟨f0, f1, f2⟩ := hb.f3; go_simp
   intro hbx
   replace E := hid ((E.out.trans EY.out).keptG hk HGV6.out)
   replace V6 := hid hbx
   clear hk hs hbx
   replace EY := hid (Ext.refl ws)
   refine WE.done ?_
   obtain ⟨bx, hbx⟩ : ∃ b : Bool, decide (kx + M.atT (M.valAt xs) tx ≤ 0) = b := ⟨_, rfl⟩
   have HBX := hid hbx
   clear hbx
   cases bx with
   | false =>
    go_upto_region 4 with (fail)
    refine wp_region_S [(0, 0), (1, 1), (2, 0), (3, 1), (4, 0)] fun wd hb => ?_
    replace EY := hid (EY.out.trans hb)
    clear hb
    refine WE.qq 13 (.agg #[.slice Be pe qe, .bool ge, .slice Ce me de]) rfl (fun w' hk => by obtain ⟨ce0, ce1, ce2⟩ := ((V6.out.up EY.out).up hk).c3; go_simp) ?_
    refine WE.cc 14 ((readB_l (KW.out.up (E.out.trans EY.out))).mono ?_)
    rintro e wn ⟨v1, rfl, x1, hb⟩
    obtain ⟨A11, n11, c11, g11, B11, m11, d11, rfl⟩ := x1.shape
    refine ⟨_, rfl, hb, ?_⟩
    replace EY := hid (EY.out.trans hb)
    have S11 := hid x1
    clear hb x1
    refine WE.pp 15 (.slice Ap np cp) ?_
    refine WE.cc 16 ((holds_b S11.out (HP.out.up (E.out.trans EY.out)) HPS.out HW.out HNX.out HBX.out).mono ?_)
    rintro e wn ⟨rfl, hb⟩
    refine ⟨_, rfl, hb, ?_⟩
    replace EY := hid (EY.out.trans hb)
    replace S11 := hid (S11.out.up hb)
    clear hb
    refine WE.pp 17 (.bool true) ?_
    simp only [Act.put, pA, pB, pC]
    refine WE.done ?_
    go_upto_region 5 with (fail)
    refine wp_region_S [(0, 0)] fun wd hb => ?_
    replace EY := hid (EY.out.trans hb)
    replace S11 := hid (S11.out.up hb)
    clear hb
    refine WE.pp 4 (.bool false) ?_
    simp only [Act.put, pA, pB, pC]
    refine WE.done ?_
    repeat go_step
    go_ret
    exact ⟨by rw [← HB.out, M.all_take_false HX.out (show M.hl (M.valAt xs) (tx, kx) = false from HBX.out)]; rfl, (E.out.trans EY.out)⟩
   | true =>
    go_upto_region 4 with (fail)
    refine wp_region_S [(0, 0), (1, 1), (2, 0), (3, 1), (4, 0)] fun wd hb => ?_
    replace EY := hid (EY.out.trans hb)
    clear hb
    refine WE.qq 13 (.agg #[.slice Be pe qe, .bool ge, .slice Ce me de]) rfl (fun w' hk => by obtain ⟨ce0, ce1, ce2⟩ := ((V6.out.up EY.out).up hk).c3; go_simp) ?_
    refine WE.cc 14 ((readB_l (KW.out.up (E.out.trans EY.out))).mono ?_)
    rintro e wn ⟨v1, rfl, x1, hb⟩
    obtain ⟨A11, n11, c11, g11, B11, m11, d11, rfl⟩ := x1.shape
    refine ⟨_, rfl, hb, ?_⟩
    replace EY := hid (EY.out.trans hb)
    have S11 := hid x1
    clear hb x1
    refine WE.pp 15 (.slice Ap np cp) ?_
    refine WE.cc 16 ((holds_b S11.out (HP.out.up (E.out.trans EY.out)) HPS.out HW.out HNX.out HBX.out).mono ?_)
    rintro e wn ⟨rfl, hb⟩
    refine ⟨_, rfl, hb, ?_⟩
    replace EY := hid (EY.out.trans hb)
    clear hb
    refine WE.pp 17 (.bool false) ?_
    simp only [Act.put, pA, pB, pC]
    refine WE.done ?_
    go_wp2
    go_roundw
    case rel => exact ⟨k + 1, by go_num, by omega, fun y hy => by rw [List.take_add_one, HX.out, Option.toList_some] at hy; rcases List.mem_append.1 hy with hy | hy; exact HOK.out y hy; simp only [List.mem_singleton] at hy; subst hy; exact HBX.out, (E.out.trans EY.out)⟩
    case measure => simp [intOf]; all_goals omega
  ·obtain rfl : k = n1 := by omega
   have hlt' : decide ((k : Int) < (k : Int)) = false := by simp
   go_upto_region 2 with (fail)
   refine wp_region_S [(0, 0)] fun wd hb => ?_
   replace EY := hid (EY.out.trans hb)
   clear hb
   refine WE.pp 10 (.bool false) ?_
   simp only [Act.put, pA, pB, pC]
   refine WE.done ?_
   go_upto_region 7 with (fail)
   refine wp_region_S [(0, 0)] fun wd hb => ?_
   replace EY := hid (EY.out.trans hb)
   clear hb
   refine WE.pp 4 (.bool true) ?_
   simp only [Act.put, pA, pB, pC]
   refine WE.done ?_
   repeat go_step
   go_ret
   exact ⟨by rw [← HB.out, List.all_eq_true.2 fun x hx => HOK.out x (by rw [HC.out.1, List.take_length]; exact hx)]; rfl, (E.out.trans EY.out)⟩

end Go.Proofs.YtklmnmkmpkobhaaGreat
