/-
  Contract of package lin's sum: forms put together.
-/
import Derived.Test.YtklmnmkmpkobhaaGreatLFaceB
namespace Go.Proofs.YtklmnmkmpkobhaaGreat
open Go.RowKit
set_option linter.unusedSimpArgs false
set_option linter.unusedVariables false

/-- What a call gives that sums forms. -/
def GivesSum (w : World) (fs : List (M.Tm × Int)) (W : Nat) (e : Ending) (w' : World) : Prop := ∃ v t, e = .returned v ∧ IsL w' v t (M.ksum fs) W ∧ (∀ x, M.coef t x = M.csum (M.cat fs) x) ∧ Ext w w'

def noInt (cs : Array Value) : Bool := cs.toList.all fun v => match v with | .int .i64 _ => false | _ => true
/-- A list of terms doesn't lie in a box that holds no number. -/
theorem LTm.kb {w w' : World} {v : Value} {t : M.Tm} {W g : Nat} {cs : Array Value} {T : TypeId} (h : LTm w v t W) (hb : Box w g cs T) (hni : noInt cs = true) (hk : Kept [g] w w') (hs : Keeps w w') : LTm w' v t W := by
 refine ⟨?_, h.2⟩
 obtain ⟨A, n, c, h1, h2, h3, h4, h5⟩ := h.1
 refine ⟨A, n, c, h1, h2, h3, h4, fun k x hx => ?_⟩
 obtain ⟨ad, ha, hlt, B, p, q, k1, k2, k3, k4⟩ := h5 k x hx
 have hne : ad.block ≠ g := by
  intro he
  have e2 : w.heap[(ad.add (k * 3)).block]? = some (.cells cs T (0, 0)) := by rw [addr_block, he]; exact hb
  unfold World.cell? at k1
  rw [e2] at k1
  simp only at k1
  have e3 : (Value.int .i64 x.1) ∈ cs := by
   first
   | exact Array.mem_of_getElem? k1
   | (split at k1 <;> first | exact Array.mem_of_getElem? k1 | (cases k1; done))
  have e4 := List.all_eq_true.1 hni _ (Array.mem_toList_iff.2 e3)
  simp at e4
 have hkeep : ∀ a : Addr, a.block = ad.block → w'.cell? a = w.cell? a := fun a e => World.cell?_of_block (by rw [e]; exact hk.2 ad.block hlt (by simpa using hne))
 exact ⟨ad, ha, Nat.lt_of_lt_of_le hlt hk.1.size, B, p, q, by rw [hkeep _ (addr_block _ _)]; exact k1, by rw [hkeep _ (by rw [addr_block, addr_block])]; exact k2, by rw [hkeep _ (by rw [addr_block, addr_block])]; exact k3, hs _ _ k4⟩

theorem M.cat_take {fs : List (M.Tm × Int)} {k : Nat} {x : M.Tm × Int} (h : fs[k]? = some x) : (M.cat (fs.take k)).length + x.1.length ≤ (M.cat fs).length := by
 obtain ⟨hk, rfl⟩ := List.getElem?_eq_some_iff.1 h
 conv => rhs; rw [← List.take_append_drop k fs, List.drop_eq_getElem_cons hk]
 unfold M.cat
 rw [List.flatMap_append, List.flatMap_cons, List.length_append, List.length_append]; omega

set_option maxHeartbeats 8000000 in
theorem sum_l {w : World} {v : Value} {fs : List (M.Tm × Int)} {W : Nat} (h : FList w v fs W) (hw : W ≤ 500) (hn : (M.cat fs).length ≤ 400) :
 Calls Tryz.prog 59 #[v] w (GivesSum w fs (W + (M.cat fs).length + fs.length)) := by
 have HALL := hid h.all
 have HW := hid hw
 have HN := hid hn
 obtain ⟨ad, n, c, rfl, hlen, hb9, hget⟩ := h.get
 have HLEN := hid hlen
 have HGET := hid hget
 clear h hw hn hlen hget
 go_enter Tryz.func59, Tryz.ntmps59
 go_upto_region 1 with (fail)
 obtain ⟨E, BX0⟩ := open1 w #[.slice none 0 0, .bool false, .slice none 0 0] 27
 refine wp_region_S [(0, 0)] fun wd hb => ?_
 replace E := hid (E.out.trans hb)
 replace BX0 := hid (BX0.out.up hb)
 clear hb
 have EY := hid (Ext.refl wd)
 refine WE.pp 3 (Value.slice none 0 0) ?_
 simp only [Act.put, pA, pB, pC]
 refine WE.done ?_
 go_upto_region 2 with (fail)
 refine wp_region_S [(0, 1)] fun wd hb => ?_
 replace EY := hid (EY.out.trans hb)
 clear hb
 refine WE.new (d := some 4) (cs := #[.bool false, .slice none 0 0]) (t := 25) (v := fun g => (.pointer (some ⟨g, 0, none⟩))) rfl rfl (by rfl) (fun w => by go_simp) fun gV4 wv hx0 hbox hge => ?_
 have HNV4BX0 := hid (show gV4 ≠ (w.heap.size) by have := (BX0.out.up EY.out).lt; omega)
 have HGV4 := hid (show w.heap.size ≤ gV4 by have := (E.out.trans EY.out).size; omega)
 replace EY := hid (EY.out.trans hx0)
 have V4 : Hid (Box wv gV4 #[.bool false, .slice none 0 0] 25) := hid hbox
 clear hx0 hbox hge
 simp only [Act.put, pA, pB, pC]
 refine WE.done ?_
 go_upto_region 3 with (fail)
 refine wp_region_S [(0, 0), (1, 0), (2, 0)] fun wd hb => ?_
 replace EY := hid (EY.out.trans hb)
 replace V4 := hid (V4.out.up hb)
 clear hb
 refine WE.pp 7 (.slice (some ad) n c) ?_
 refine WE.pp 8 (.int .i64 (n : Int)) ?_
 refine WE.pp 9 (.int .i64 (0)) ?_
 simp only [Act.put, pA, pB, pC]
 refine WE.done ?_
 have hlt4 := V4.out.lt
 have hlt0 := (BX0.out.up EY.out).lt
 have hszw := (E.out.trans EY.out).size
 obtain ⟨base, hbase, HB4', HB0', HBW'⟩ : ∃ base : Nat, base ≤ _ ∧ gV4 < base ∧ w.heap.size < base ∧ w.heap.size ≤ base := ⟨_, Nat.le_refl _, hlt4, hlt0, hszw⟩
 have HBV4 := hid HB4'
 have HBBX0 := hid HB0'
 have HBW := hid HBW'
 clear HB4' HB0' HBW' hlt4 hlt0 hszw
 go_wp2
 go_loopw [3, 9] (fun x3 x9 wr => ∃ (k : Nat) (Ao : Option Addr) (no : Nat) (co : Nat) (gk : Bool) (Ak : Option Addr) (nk : Nat) (ck : Nat), x3 = .slice Ao no co ∧ x9 = .int .i64 (k : Int) ∧ k ≤ n ∧ Ext w wr ∧ base ≤ wr.heap.size ∧ Box wr gV4 #[.bool gk, .slice Ak nk ck] 25 ∧ Box wr w.heap.size #[.slice none 0 0, .bool false, .slice none 0 0] 27 ∧ IsZ wr (.agg #[.bool gk, .slice Ak nk ck]) (M.ksum (fs.take k)) (W + k) ∧ LOwn base wr (.slice Ao no co) ((M.cat (fs.take k)).map M.rawm)) (fun _x3 x9 _ => n - (intOf x9).toNat)
 case atStart => exact ⟨0, none, 0, 0, false, none, 0, 0, rfl, rfl, Nat.zero_le _, (E.out.trans EY.out), hbase, V4.out, (BX0.out.up EY.out), by rw [List.take_zero]; exact IsZ.nought.wide (Nat.zero_le _), .inl ⟨rfl, by rw [List.take_zero]; rfl⟩⟩
 case round =>
  clear E EY V4 BX0 hbase
  obtain ⟨k, Ao, no, co, gk, Ak, nk, ck, rfl, rfl, hr0, hr1, hr2, hr3, hr4, hr5, hr6⟩ := hrel
  have E := hid hr1
  have HBH := hid hr2
  have V4 := hid hr3
  have BX0 := hid hr4
  have QK := hid hr5
  have OWN := hid hr6
  clear hr1 hr2 hr3 hr4 hr5 hr6
  have EY := hid (Ext.refl wr)
  have hk := hr0
  by_cases hlt : k < n
  ·have hlt' : decide ((k : Int) < (n : Int)) = true := decide_eq_true (by omega)
   obtain ⟨x, hx⟩ : ∃ x, fs[k]? = some x := ⟨_, List.getElem?_eq_getElem (by rw [← HLEN.out]; exact hlt)⟩
   obtain ⟨Ae, ne, ce, ge, Be, me, de, ka, kb, kc, kt, kq, ko⟩ := HGET.out k x hx
   obtain ⟨xt, xk⟩ := x
   have HX := hid hx
   have KA := hid ka
   have KB := hid kb
   have KC := hid kc
   have TE := hid kt
   have QE := hid (kq.up E.out)
   clear hx ka kb kc kt kq ko
   go_upto_region 4 with (fail)
   refine wp_region_S [(0, 0)] fun wd hb => ?_
   replace EY := hid (EY.out.trans hb)
   replace QE := hid (QE.out.up hb)
   clear hb
   refine WE.pp 10 (.bool true) ?_
   simp only [Act.put, pA, pB, pC]
   refine WE.done ?_
   go_upto_region 5 with (fail)
   refine wp_region_S [(0, 0), (1, 0), (2, 1), (3, 4)] fun wd hb => ?_
   replace EY := hid (EY.out.trans hb)
   replace QE := hid (QE.out.up hb)
   clear hb
   refine WE.pp 11 (.pointer (some (ad.add (k * 3)))) ?_
   refine WE.qq 12 (.agg #[.slice Ae ne ce, .bool ge, .slice Be me de]) rfl (fun w' hk => by have ce0 : w'.cell? (ad.add (k * 3)) = some (.slice Ae ne ce) := (KA.out.up (E.out.trans EY.out)).up hk; have ce1 : w'.cell? ⟨(ad.add (k * 3)).block, (ad.add (k * 3)).off + 1, none⟩ = some (.bool ge) := (KB.out.up (E.out.trans EY.out)).up hk; have ce2 : w'.cell? ⟨(ad.add (k * 3)).block, (ad.add (k * 3)).off + 2, none⟩ = some (.slice Be me de) := (KC.out.up (E.out.trans EY.out)).up hk; go_simp) ?_
   simp only [Act.put, pA, pB, pC]
   refine WE.new (d := some 6) (cs := #[.slice none 0 0, .bool false, .slice none 0 0]) (t := 27) (v := fun g => (.pointer (some ⟨g, 0, none⟩))) rfl rfl (by rfl) (fun w => by go_simp) fun gV6 wv hx0 hbox hge => ?_
   have HNV6BX0 := hid (show gV6 ≠ (w.heap.size) by have := (BX0.out.up EY.out).lt; omega)
   have HNV6V4 := hid (show gV6 ≠ gV4 by have := (V4.out.up EY.out).lt; omega)
   have HGV6 := hid (show w.heap.size ≤ gV6 by have := (E.out.trans EY.out).size; omega)
   have HOOWNV6 := hid ((OWN.out.up EY.out).ne hge)
   replace EY := hid (EY.out.trans hx0)
   replace QE := hid (QE.out.up hx0)
   have V6 : Hid (Box wv gV6 #[.slice none 0 0, .bool false, .slice none 0 0] 27) := hid hbox
   clear hx0 hbox hge
   simp only [Act.put, pA, pB, pC]
   refine WE.store3 (g := gV6) (x := .slice Ae ne ce) (y := .bool ge) (z := .slice Be me de) (t := 27) rfl rfl (by rfl) (fun w hb => ?_) V6.out (by rfl) fun ws hk hs => ?_
   ·obtain ⟨ce0, ce1, ce2⟩ := hb.c3; obtain ⟨f0, f1, f2⟩ := hb.f3; go_simp
   intro hbx
   replace HBH := hid (Nat.le_trans HBH.out (Nat.le_trans EY.out.size hk.1.size))
   replace OWN := hid ((OWN.out.up EY.out).keptF hk hs HOOWNV6.out)
   replace E := hid ((E.out.trans EY.out).keptG hk HGV6.out)
   replace BX0 := hid ((BX0.out.up EY.out).kept hk (by simpa using HNV6BX0.out.symm))
   replace V4 := hid ((V4.out.up EY.out).kept hk (by simpa using HNV6V4.out.symm))
   replace V6 := hid hbx
   replace QK := hid ((QK.out.up EY.out).kz hs)
   replace QE := hid (QE.out.kz hs)
   clear hk hs hbx
   replace EY := hid (Ext.refl ws)
   refine WE.done ?_
   go_upto_region 6 with (fail)
   refine wp_region_S [(0, 0), (1, 0), (2, 0), (3, 4), (4, 0)] fun wd hb => ?_
   replace EY := hid (EY.out.trans hb)
   clear hb
   refine WE.pp 13 (.slice Ao no co) ?_
   refine WE.pp 14 (.pointer (some ⟨gV6, 0, none⟩)) ?_
   refine WE.qq 15 (.slice Ae ne ce) rfl (fun w' hk => by have ce0 := ((V6.out.up EY.out).up hk).k 0; go_simp) ?_
   simp only [Act.put, pA, pB, pC]
   obtain ⟨v9, wk, hrun, ho9, hk9, hs9, hx9⟩ := appLs_run (OWN.out.up EY.out) (TE.out.1.up (E.out.trans EY.out)) (by rw [List.length_map, List.length_map]; have h1 := HN.out; have h2 : (M.cat (fs.take k)).length + xt.length ≤ (M.cat fs).length := M.cat_take HX.out; show (M.cat (fs.take k)).length + xt.length ≤ 1000000; omega) (Nat.le_trans HBH.out EY.out.size) 22
   obtain ⟨A9, n9, c9, rfl⟩ := ho9.shape
   have HBLK := hid (OWN.out.up EY.out).blk
   refine WE.actK (d := some 16) rfl rfl (by rfl) (exec_app (.tmp 13) (.tmp 15) rfl rfl rfl hrun) hk9.1.size ?_
   replace E := hid (((E.out.trans EY.out)).own hk9 HBLK.out HBW.out)
   replace V4 := hid (Kept.box (X := []) ((V4.out.up EY.out)) hk9 HBLK.out HBV4.out)
   replace BX0 := hid (Kept.box (X := []) ((BX0.out.up EY.out)) hk9 HBLK.out HBBX0.out)
   replace V6 := hid (Box.keptO (V6.out.up EY.out) hk9 hx9 HOOWNV6.out)
   replace QK := hid ((QK.out.up EY.out).kz hs9)
   replace QE := hid ((QE.out.up EY.out).kz hs9)
   have HSZ := hid hk9.1.size
   replace HBH := hid (Nat.le_trans HBH.out (Nat.le_trans EY.out.size HSZ.out))
   replace OWN := hid ho9
   replace EY := hid (Ext.refl wk)
   clear hrun ho9 hk9 hs9 hx9 HBLK HSZ
   refine WE.pp 3 (.slice A9 n9 c9) ?_
   simp only [Act.put, pA, pB, pC]
   refine WE.done ?_
   go_upto_region 7 with (fail)
   refine wp_region_S [(0, 0), (1, 0), (2, 0), (3, 1), (4, 4)] fun wd hb => ?_
   replace EY := hid (EY.out.trans hb)
   clear hb
   refine WE.qq 17 (.agg #[.bool gk, .slice Ak nk ck]) rfl (fun w' hk => by obtain ⟨ce0, ce1⟩ := ((V4.out.up EY.out).up hk).c2; go_simp) ?_
   refine WE.pp 18 (.pointer (some ⟨gV6, 1, none⟩)) ?_
   refine WE.qq 19 (.agg #[.bool ge, .slice Be me de]) rfl (fun w' hk => by obtain ⟨ce0, ce1, ce2⟩ := ((V6.out.up EY.out).up hk).c3; go_simp) ?_
   refine WE.cc 20 ((add_w (QK.out.up EY.out).worth (QE.out.up EY.out).worth (by have := HW.out; have := HN.out; omega) (by have := HW.out; have := HN.out; omega)).mono ?_)
   rintro e wn ⟨v1, rfl, x1, hb⟩
   obtain ⟨g11, A11, n11, c11, rfl⟩ := x1.shape
   refine ⟨_, rfl, hb, ?_⟩
   replace EY := hid (EY.out.trans hb)
   have Q11 := hid x1
   clear hb x1
   simp only [Act.put, pA, pB, pC]
   refine WE.store2 (g := gV4) (x := .bool g11) (y := .slice A11 n11 c11) (t := 25) rfl rfl (by rfl) (fun w hb => ?_) (V4.out.up EY.out) (by rfl) fun ws hk hs => ?_
   ·obtain ⟨ce0, ce1⟩ := hb.c2; obtain ⟨f0, f1⟩ := hb.f2; go_simp
   intro hbx
   replace HBH := hid (Nat.le_trans HBH.out (Nat.le_trans EY.out.size hk.1.size))
   replace OWN := hid ((OWN.out.up EY.out).kept hk hs HBV4.out)
   replace E := hid ((E.out.trans EY.out).keptG hk HGV4.out)
   replace BX0 := hid ((BX0.out.up EY.out).kept hk (by simpa using HNV4BX0.out.symm))
   replace V4 := hid hbx
   replace QK := hid ((QK.out.up EY.out).kz hs)
   replace Q11 := hid (Q11.out.kz hs)
   clear hk hs hbx
   replace EY := hid (Ext.refl ws)
   refine WE.done ?_
   go_wp2
   go_roundw
   case rel => exact ⟨k + 1, A9, n9, c9, g11, A11, n11, c11, rfl, by go_num, by omega, (E.out.trans EY.out), HBH.out, (V4.out.up EY.out), (BX0.out.up EY.out), by rw [List.take_add_one, HX.out, Option.toList_some, M.ksum_snoc]; exact (Q11.out.up EY.out).wide (by omega), by rw [List.take_add_one, HX.out, Option.toList_some, M.cat_snoc, List.map_append]; exact (OWN.out.up EY.out)⟩
   case measure => simp [intOf]; all_goals omega
  ·obtain rfl : k = n := by omega
   have hlt' : decide ((k : Int) < (k : Int)) = false := by simp
   go_upto_region 4 with (fail)
   refine wp_region_S [(0, 0)] fun wd hb => ?_
   replace EY := hid (EY.out.trans hb)
   clear hb
   refine WE.pp 10 (.bool false) ?_
   simp only [Act.put, pA, pB, pC]
   refine WE.done ?_
   have HTK := hid (show fs.take k = fs by rw [HLEN.out]; exact List.take_length)
   go_upto_region 9 with (fail)
   refine wp_region_S [(0, 0), (1, 4)] fun wd hb => ?_
   replace EY := hid (EY.out.trans hb)
   clear hb
   refine WE.pp 22 (.slice Ao no co) ?_
   simp only [Act.put, pA, pB, pC]
   refine WE.callK (d := some 23) rfl rfl (by rfl) (by go_simp) ((sort_l (OWN.out.up EY.out) (by rw [HTK.out]; have := HN.out; omega)).mono ?_)
   rintro e wk ⟨rfl, s, hperm, hsrt, ho9, hk9, hs9⟩
   rw [HTK.out] at hperm
   have HP := hid hperm
   have HSRT := hid hsrt
   have HBLK := hid (OWN.out.up EY.out).blk
   refine ⟨_, rfl, hk9.1.size, ?_⟩
   replace E := hid (((E.out.trans EY.out)).own hk9 HBLK.out HBW.out)
   replace V4 := hid (Kept.box (X := []) ((V4.out.up EY.out)) hk9 HBLK.out HBV4.out)
   replace BX0 := hid (Kept.box (X := []) ((BX0.out.up EY.out)) hk9 HBLK.out HBBX0.out)
   replace QK := hid ((QK.out.up EY.out).kz hs9)
   replace OWN := hid ho9
   replace EY := hid (Ext.refl wk)
   clear ho9 hk9 hs9 HBLK hperm hsrt
   simp only [Act.put, pA, pB, pC]
   refine WE.done ?_
   have HSLEN := hid HP.out.length_eq
   have TS := hid (OWN.out.tm (W := W) fun x hx => (HALL.out x (HP.out.mem_iff.1 hx)).2)
   clear OWN
   go_upto_region 10 with (fail)
   refine wp_region_D [(0, 0), (2, 0), (1, 1), (3, 0), (4, 4)] fun wd hb => ?_
   replace EY := hid (EY.out.trans hb)
   clear hb
   refine WE.pp 24 (.slice Ao no co) ?_
   refine WE.qq 26 (.agg #[.bool gk, .slice Ak nk ck]) rfl (fun w' hk => by obtain ⟨ce0, ce1⟩ := ((V4.out.up EY.out).up hk).c2; go_simp) ?_
   refine WE.cc 25 ((together_l (TS.out.up EY.out) HSRT.out (fun x hx => (HALL.out x (HP.out.mem_iff.1 hx)).1) (by have := HW.out; omega) (by have h1 := TS.out.count.1; have h2 := HSLEN.out; have h3 := HN.out; omega)).mono ?_)
   rintro e w9 ⟨v1, t, rfl, t1, o1, c1, hb⟩
   obtain ⟨A9, n9, c9, rfl⟩ := t1.1.shape
   refine ⟨_, rfl, hb, ?_⟩
   replace EY := hid (EY.out.trans hb)
   have T9 := hid t1
   have O9 := hid o1
   have C9 := hid c1
   have F9 := hid (Ext.refl w9)
   clear hb t1 o1 c1
   refine WE.pp 27 (.agg #[.slice A9 n9 c9, .bool gk, .slice Ak nk ck]) ?_
   simp only [Act.put, pA, pB, pC]
   refine WE.store3 (g := (w.heap.size)) (x := .slice A9 n9 c9) (y := .bool gk) (z := .slice Ak nk ck) (t := 27) rfl rfl (by rfl) (fun w hb => ?_) (BX0.out.up EY.out) (by rfl) fun ws hk hs => ?_
   ·obtain ⟨ce0, ce1, ce2⟩ := hb.c3; obtain ⟨f0, f1, f2⟩ := hb.f3; go_simp
   intro hbx
   replace T9 := hid ((T9.out.up F9.out).kb (BX0.out.up EY.out) (by rfl) hk hs)
   replace E := hid ((E.out.trans EY.out).keptG hk (by simp))
   replace BX0 := hid hbx
   replace QK := hid ((QK.out.up EY.out).kz hs)
   clear hk hs hbx
   replace EY := hid (Ext.refl ws)
   replace F9 := hid (Ext.refl ws)
   refine WE.done ?_
   have r0 := (BX0.out.up EY.out).cell (o := 0) (v := .slice A9 n9 c9) rfl
   have r1 := (BX0.out.up EY.out).cell (o := 1) (v := .bool gk) rfl
   have r2 := (BX0.out.up EY.out).cell (o := 2) (v := .slice Ak nk ck) rfl
   repeat go_step
   exact bodyPost_ret (v := .agg #[.slice A9 n9 c9, .bool gk, .slice Ak nk ck]) (by simp [results, Tryz.results59, go_sem, r0, r1, r2]) rfl ⟨_, t, rfl, ⟨_, _, _, _, _, _, _, rfl, (T9.out.up F9.out).wide (by have h1 := TS.out.count.1; have h2 := HSLEN.out; omega), IsZ.to ((QK.out.up EY.out).wide (by have := HLEN.out; omega)) (by rw [HTK.out]), O9.out⟩, fun x => by rw [C9.out]; exact M.csum_perm HP.out x, (E.out.trans EY.out)⟩

theorem IsL.short {w : World} {v : Value} {t : M.Tm} {κ : Int} {W U : Nat} (h : IsL w v t κ W) (ht : ∀ x ∈ t, (M.limbs x.2.natAbs).length ≤ U) (hk : (M.limbs κ.natAbs).length ≤ U) : IsL w v t κ U := by
 obtain ⟨A, n, c, g, B, m, d, rfl, h2, h3, h4⟩ := h
 exact ⟨A, n, c, g, B, m, d, rfl, ⟨h2.1, ht⟩, h3.short (by have := M.limbs_len_lt κ.natAbs; exact Nat.lt_of_lt_of_le this (Nat.pow_le_pow_right (by decide) hk)), h4⟩
theorem sum_to {w : World} {v : Value} {fs : List (M.Tm × Int)} {W U : Nat} {t : M.Tm} {κ : Int} (h : FList w v fs W) (hw : W ≤ 500) (hn : (M.cat fs).length ≤ 400) (ho : M.okT (-1) t) (hc : ∀ x, M.coef t x = M.csum (M.cat fs) x) (hk : κ = M.ksum fs) (hu : ∀ x ∈ t, (M.limbs x.2.natAbs).length ≤ U) (hku : (M.limbs κ.natAbs).length ≤ U) :
 Calls Tryz.prog 59 #[v] w (GivesL w t κ U) := by
 refine (sum_l h hw hn).mono ?_
 rintro e w' ⟨v', t', rfl, h1, h2, h3⟩
 have e1 : t' = t := by
  obtain ⟨A, n, c, g, B, m, d, _, _, _, h4⟩ := h1
  exact M.okT_ext h4 ho fun x => by rw [h2, hc]
 subst e1
 subst hk
 exact ⟨v', rfl, h1.short hu hku, h3⟩

end Go.Proofs.YtklmnmkmpkobhaaGreat
