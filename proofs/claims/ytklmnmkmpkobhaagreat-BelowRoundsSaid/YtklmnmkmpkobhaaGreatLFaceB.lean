/-
  Contracts of package lin: terms put together; forms summed.
-/
import Derived.Test.YtklmnmkmpkobhaaGreatLFaceA
namespace Go.Proofs.YtklmnmkmpkobhaaGreat
open Go.RowKit
set_option linter.unusedSimpArgs false
set_option linter.unusedVariables false

def lenV : Value → Nat
 | .slice _ n _ => n
 | _ => 0
theorem slice_fromL {A : Option Addr} {n c k : Nat} (hk : k ≤ n) (w : World) :
 (Instr.slice 22 (.slice A n c) (some (.int .i64 (k : Int))) none none).run Tryz.prog w = .ok (.slice (if c = k then A else A.map (·.add (k * 3))) (n - k) (c - k)) w := by
 obtain ⟨i0, hi, hz0, hz1, hz2⟩ := info_parts info_Mono
 simp [Instr.slice, run_underlying Tryz.underlying22, Instr.sliceBounds, run_sliceBound, sizeOf, typeInfo, hi, hz1, hk]
theorem slice_toL {A : Option Addr} {n c k : Nat} (hk : k ≤ c) (w : World) :
 (Instr.slice 22 (.slice A n c) none (some (.int .i64 (k : Int))) none).run Tryz.prog w = .ok (.slice (if c = 0 then A else A.map (·.add (0 * 3))) k c) w := by
 obtain ⟨i0, hi, hz0, hz1, hz2⟩ := info_parts info_Mono
 simp [Instr.slice, run_underlying Tryz.underlying22, Instr.sliceBounds, run_sliceBound, sizeOf, typeInfo, hi, hz1, hk]
theorem LAt.shift {w : World} {ad : Addr} {k j : Nat} {x : Int × Bool × List Nat} (h : LAt w ad (k + j) x) : LAt w (ad.add (k * 3)) j x := by
 obtain ⟨A, n, c, h0, h1, h2, h3⟩ := h
 have e : (ad.add (k * 3)).add (j * 3) = ad.add ((k + j) * 3) := by rw [Addr.add_add, Nat.add_mul]
 exact ⟨A, n, c, by rw [e]; exact h0, by rw [e]; exact h1, by rw [e]; exact h2, h3⟩
theorem LList.from_ {w : World} {A : Option Addr} {n c : Nat} {ls : List (Int × Bool × List Nat)} (h : LList w (.slice A n c) ls) {k : Nat} (hk : k ≤ n) : LList w (.slice (if c = k then A else A.map (·.add (k * 3))) (n - k) (c - k)) (ls.drop k) := by
 have hcount := h.count
 obtain ⟨A', n', c', e, hn, hc, hm, hz⟩ := h
 injection e with e1 e2 e3
 subst e1
 refine ⟨_, _, _, rfl, by rw [List.length_drop]; omega, by omega, by unfold maxLen at *; omega, fun j x hx => ?_⟩
 rw [List.getElem?_drop] at hx
 have hlt : k + j < ls.length := (List.getElem?_eq_some_iff.1 hx).1
 obtain ⟨ad, ha, hbl, hcell⟩ := hz _ _ hx
 rw [if_neg (by omega), ha]
 exact ⟨ad.add (k * 3), rfl, by rw [addr_block]; exact hbl, hcell.shift⟩
theorem LList.to_ {w : World} {A : Option Addr} {n c : Nat} {ls : List (Int × Bool × List Nat)} (h : LList w (.slice A n c) ls) {k : Nat} (hk : k ≤ n) : LList w (.slice (if c = 0 then A else A.map (·.add (0 * 3))) k c) (ls.take k) := by
 have hcount := h.count
 obtain ⟨A', n', c', e, hn, hc, hm, hz⟩ := h
 injection e with e1 e2 e3
 subst e1
 refine ⟨_, _, _, rfl, by rw [List.length_take]; omega, by omega, by rw [e3]; exact hm, fun j x hx => ?_⟩
 rw [List.getElem?_take] at hx
 split at hx
 ·obtain ⟨ad, ha, hbl, hcell⟩ := hz _ _ hx
  have hlt : j < ls.length := (List.getElem?_eq_some_iff.1 hx).1
  rw [if_neg (by omega), ha]
  refine ⟨ad, ?_, hbl, hcell⟩
  show some (ad.add (0 * 3)) = some ad
  rw [Nat.zero_mul]; rfl
 ·cases hx
theorem LTm.from_ {w : World} {A : Option Addr} {n c W : Nat} {t : M.Tm} (h : LTm w (.slice A n c) t W) {k : Nat} (hk : k ≤ n) : LTm w (.slice (if c = k then A else A.map (·.add (k * 3))) (n - k) (c - k)) (t.drop k) W :=
 ⟨by rw [List.map_drop]; exact h.1.from_ hk, fun x hx => h.2 x (List.mem_of_mem_drop hx)⟩
theorem LTm.to_ {w : World} {A : Option Addr} {n c W : Nat} {t : M.Tm} (h : LTm w (.slice A n c) t W) {k : Nat} (hk : k ≤ n) : LTm w (.slice (if c = 0 then A else A.map (·.add (0 * 3))) k c) (t.take k) W :=
 ⟨by rw [List.map_take]; exact h.1.to_ hk, fun x hx => h.2 x (List.mem_of_mem_take hx)⟩
theorem LTm.head {w : World} {A : Option Addr} {n c W : Nat} {t : M.Tm} (h : LTm w (.slice A n c) t W) {x : Int × Int} (hk : t[0]? = some x) :
 ∃ ad g A' n' c', A = some ad ∧ CellAt w ad (.int .i64 x.1) ∧ CellAt w (ad.add 1) (.bool g) ∧ CellAt w (ad.add 2) (.slice A' n' c') ∧ IsZ w (.agg #[.bool g, .slice A' n' c']) x.2 W := by
 obtain ⟨ad, g, A', n', c', e, k1, k2, k3, k4⟩ := h.get hk
 have e0 : ad.add (0 * 3) = ad := by rw [Nat.zero_mul]; obtain ⟨b, o, p⟩ := ad; cases p <;> simp [Addr.add]
 rw [e0] at k1 k2 k3
 exact ⟨ad, g, A', n', c', e, k1, k2, k3, k4⟩
theorem Box.set12 {w : World} {g : Nat} {x0 x1 x2 : Value} {t : TypeId} (h : Box w g #[x0, x1, x2] t) (y z : Value) : Box ((w.setCell ⟨g, 1, none⟩ y).setCell ⟨g, 2, none⟩ z) g #[x0, y, z] t := by
 unfold Box at *
 simp [World.setCell, Array.getElem?_modify, h]
section
variable {P : Program} {ops : Array Oper} {Q : Exit → Act → World → Prop} {A : Nat → TypeId × Array Value} {B : Nat} {G : List Nat} {i : Nat} {r : List (Nat × Nat)} {a : Act} {w : World} {o : Oper}
/-- A struct of two cells into the back of a box of three. -/
theorem WE.store12 {g : Nat} {x0 x1 x2 y z : Value} {t : TypeId} (ho : ops[i]? = some o) (hd : o.dst = none) (hw : Region.wanted o (yielded ops a.tmps) = true)
 (he : ∀ w, Box w g #[x0, x1, x2] t → (execOp a.eval o).run P w = .ok .skip ((w.setCell ⟨g, 1, none⟩ y).setCell ⟨g, 2, none⟩ z)) (hb : Box w g #[x0, x1, x2] t) (hno : noLimb #[x0, x1, x2] = true)
 (h : ∀ w', Kept [g] w w' → Keeps w w' → Box w' g #[x0, y, z] t → WE P ops Q A B r G a w') : WE P ops Q A B ((i, 4) :: r) G a w := by
 have hk := (kept_setAt (w := w) (g := g) (o := 1) y).trans (kept_setAt (o := 2) z)
 exact WE.store ho hd hw (he w hb) hk.1.size (h _ hk (keeps_store hb hno hk) (hb.set12 y z))
end

/-- What a call gives that puts terms together. -/
def GivesTm (w : World) (s : M.Tm) (W : Nat) (e : Ending) (w' : World) : Prop := ∃ v t, e = .returned v ∧ LTm w' v t W ∧ M.okT (-1) t ∧ (∀ x, M.coef t x = M.csum s x) ∧ Ext w w'

set_option maxHeartbeats 8000000 in
theorem together_l {w : World} {A : Option Addr} {n c W : Nat} {s : M.Tm} (h : LTm w (.slice A n c) s W) (hs : M.srt s) (h0 : ∀ x ∈ s, -1 < x.1) (hw : W ≤ 1000) (hn : n ≤ 1000) :
 Calls Tryz.prog 90 #[.slice A n c] w (GivesTm w s (W + n)) := by
 have TS := hid h
 have HSRT := hid hs
 have H0 := hid h0
 have HW := hid hw
 have HN := hid hn
 have HWS := hid h.2
 have HC := hid h.count
 obtain ⟨len, hlen⟩ : ∃ x, x = s.length := ⟨_, rfl⟩
 obtain rfl : n = len := by rw [hlen]; exact h.count.1
 have HLEN := hid hlen
 clear h hs h0 hw hn hlen
 go_enter Tryz.func90, Tryz.ntmps90
 go_upto_region 1 with (fail)
 have E := hid (Ext.refl w)
 refine wp_region_S [(0, 0)] fun wd hb => ?_
 replace E := hid (E.out.trans hb)
 clear hb
 have EY := hid (Ext.refl wd)
 refine WE.pp 3 (Value.slice none 0 0) ?_
 simp only [Act.put, pA, pB, pC]
 refine WE.done ?_
 go_wp2
 go_loopw [0, 3] (fun x0 x3 wr => ∃ (p : Nat) (An : Option Addr) (np : Nat) (cn : Nat) (Ao : Option Addr) (no : Nat) (co : Nat) (out : M.Tm), x0 = .slice An np cn ∧ x3 = .slice Ao no co ∧ np + p = n ∧ LTm w (.slice An np cn) (s.drop p) W ∧ Ext w wr ∧ LOwn w.heap.size wr (.slice Ao no co) (out.map M.rawm) ∧ (∀ x ∈ out, (M.limbs x.2.natAbs).length ≤ W + n) ∧ M.TogO s out p ∧ out.length ≤ p) (fun x0 _x3 _ => lenV x0)
 case atStart => exact ⟨0, A, n, c, none, 0, 0, [], rfl, rfl, by omega, by rw [List.drop_zero]; exact TS.out, (E.out.trans EY.out), .inl ⟨rfl, rfl⟩, fun x hx => by simp at hx, M.TogO.start s, Nat.le_refl _⟩
 case round =>
  clear E EY
  obtain ⟨p, An, np, cn, Ao, no, co, out, rfl, rfl, hr0, hr1, hr2, hr3, hr4, hr5, hr6⟩ := hrel
  have TL := hid hr1
  have E := hid hr2
  have OWN := hid hr3
  have HOW := hid hr4
  have HT := hid hr5
  have HOL := hid hr6
  clear hr1 hr2 hr3 hr4 hr5 hr6
  have EY := hid (Ext.refl wr)
  have hnp := hr0
  clear hr0
  have hb9 : np ≤ 9223372036854775807 := TL.out.count.2.2
  by_cases hlt : 0 < np
  ·have hlt' : decide ((np : Int) > 0) = true := decide_eq_true (by omega)
   have hlt2 : decide ((0 : Int) < (np : Int)) = true := decide_eq_true (by omega)
   obtain ⟨x, hx⟩ : ∃ x, s[p]? = some x := ⟨_, List.getElem?_eq_getElem (by have := HLEN.out; omega)⟩
   have hx0 : (s.drop p)[0]? = some x := by rw [List.getElem?_drop]; exact hx
   obtain ⟨ad, ge, Ae, ne, ce, rfl, ka, kb, kc, kz⟩ := TL.out.head hx0
   obtain ⟨u, xc⟩ := x
   have HX := hid hx
   have KA := hid ka
   clear hx hx0 ka kb kc kz
   go_upto_region 2 with (fail)
   refine wp_region_S [(0, 0), (1, 0), (2, 0)] fun wd hb => ?_
   replace EY := hid (EY.out.trans hb)
   clear hb
   refine WE.pp 5 (.slice (some ad) np cn) ?_
   refine WE.pp 6 (.int .i64 (np : Int)) ?_
   refine WE.pp 7 (.bool true) ?_
   simp only [Act.put, pA, pB, pC]
   refine WE.done ?_
   go_upto_region 3 with (fail)
   refine wp_region_S [(0, 0), (1, 0), (2, 0), (3, 0), (4, 0), (5, 1), (6, 4)] fun wd hb => ?_
   replace EY := hid (EY.out.trans hb)
   clear hb
   refine WE.pp 8 (.slice (some ad) np cn) ?_
   refine WE.pp 9 (.pointer (some ad)) ?_
   refine WE.pp 10 (.pointer (some ad)) ?_
   refine WE.qq 11 (.int .i64 u) rfl (fun w' hk => by have ce0 : w'.cell? ad = some (.int .i64 u) := (KA.out.up (E.out.trans EY.out)).up hk; go_simp) ?_
   refine WE.pp 12 (.agg #[.int .i64 u, .bool false, .slice none 0 0]) ?_
   simp only [Act.put, pA, pB, pC]
   refine WE.new (d := some 4) (cs := #[.int .i64 0, .bool false, .slice none 0 0]) (t := 56) (v := fun g => (.pointer (some ⟨g, 0, none⟩))) rfl rfl (by rfl) (fun w => by go_simp) fun gV4 wv hx0 hbox hge => ?_
   have HGV4 := hid (show w.heap.size ≤ gV4 by have := (E.out.trans EY.out).size; omega)
   have HOOWNV4 := hid ((OWN.out.up EY.out).ne hge)
   replace EY := hid (EY.out.trans hx0)
   have V4 : Hid (Box wv gV4 #[.int .i64 0, .bool false, .slice none 0 0] 56) := hid hbox
   clear hx0 hbox hge
   simp only [Act.put, pA, pB, pC]
   refine WE.store3 (g := gV4) (x := .int .i64 u) (y := .bool false) (z := .slice none 0 0) (t := 56) rfl rfl (by rfl) (fun w hb => ?_) V4.out (by rfl) fun ws hk hs => ?_
   ·obtain ⟨ce0, ce1, ce2⟩ := hb.c3; obtain ⟨f0, f1, f2⟩ := hb.f3; go_simp
   intro hbx
   replace OWN := hid ((OWN.out.up EY.out).keptF hk hs HOOWNV4.out)
   replace E := hid ((E.out.trans EY.out).keptG hk HGV4.out)
   replace V4 := hid hbx
   clear hk hs hbx
   replace EY := hid (Ext.refl ws)
   refine WE.done ?_
   go_wp2
   go_loopw [0] (fun x0 wr => ∃ (q : Nat) (Aq : Option Addr) (nq : Nat) (cq : Nat) (gc : Bool) (Ac : Option Addr) (nc : Nat) (cc : Nat) (cf : Int), x0 = .slice Aq nq cq ∧ nq + q = n ∧ p ≤ q ∧ LTm w (.slice Aq nq cq) (s.drop q) W ∧ Ext w wr ∧ Box wr gV4 #[.int .i64 u, .bool gc, .slice Ac nc cc] 56 ∧ IsZ wr (.agg #[.bool gc, .slice Ac nc cc]) cf (W + q) ∧ LOwn w.heap.size wr (.slice Ao no co) (out.map M.rawm) ∧ OwnFree w.heap.size (.slice Ao no co) gV4 ∧ M.TogI s out q u cf) (fun x0 _ => lenV x0)
   case atStart => exact ⟨p, some ad, np, cn, false, none, 0, 0, 0, rfl, hnp, Nat.le_refl _, TL.out, (E.out.trans EY.out), (V4.out.up EY.out), IsZ.nought.wide (Nat.zero_le _), (OWN.out.up EY.out), HOOWNV4.out, HT.out.inner HSRT.out H0.out HX.out⟩
   case round =>
    clear E EY V4 OWN HOOWNV4
    obtain ⟨q, Aq, nq, cq, gc, Ac, nc, cc, cf, rfl, hr0, hr1, hr2, hr3, hr4, hr5, hr6, hr7, hr8⟩ := hrel
    have TQ := hid hr2
    have E := hid hr3
    have V4 := hid hr4
    have QC := hid hr5
    have OWN := hid hr6
    have HOV := hid hr7
    have HI := hid hr8
    clear hr2 hr3 hr4 hr5 hr6 hr7 hr8
    have EY := hid (Ext.refl wr)
    have hnq := hr0
    have hpq := hr1
    clear hr0 hr1
    have hb8 : nq ≤ 9223372036854775807 := TQ.out.count.2.2
    have HOOWNV4 := hid HOV.out
    by_cases hqn : 0 < nq
    ·have hqd : decide ((0 : Int) < (nq : Int)) = true := decide_eq_true (by omega)
     obtain ⟨y, hy⟩ : ∃ y, s[q]? = some y := ⟨_, List.getElem?_eq_getElem (by have := HLEN.out; omega)⟩
     have hy0 : (s.drop q)[0]? = some y := by rw [List.getElem?_drop]; exact hy
     obtain ⟨aq, gf, Af, nf, cg, rfl, ja, jb, jc, jz⟩ := TQ.out.head hy0
     obtain ⟨v, yc⟩ := y
     have HY := hid hy
     have JA := hid ja
     have JB := hid jb
     have JC := hid jc
     have QF := hid (jz.up E.out)
     clear hy hy0 ja jb jc jz
     by_cases hv : v = u
     ·have hvd : (v == u) = true := by rw [hv]; simp
      obtain ⟨Ar, nr, cr, hsl⟩ : ∃ A' n' c', Value.slice (if cq = 1 then some aq else (some aq).map (·.add (1 * 3))) (nq - 1) (cq - 1) = .slice A' n' c' := ⟨_, _, _, rfl⟩
      have HSL := hid (show ∀ w, (Instr.slice 22 (.slice (some aq) nq cq) (some (.int .i64 1)) none none).run Tryz.prog w = .ok (.slice Ar nr cr) w from fun w => hsl ▸ slice_fromL (k := 1) hqn w)
      have TR := hid (show LTm w (.slice Ar nr cr) (s.drop (q + 1)) W by rw [← hsl, ← List.drop_drop]; exact TQ.out.from_ hqn)
      have hnr : nr + (q + 1) = n := by have := TR.out.count.1; rw [List.length_drop] at this; have := HLEN.out; omega
      clear hsl
      go_upto_region 4 with (fail)
      refine wp_region_D [(0, 0), (1, 0), (2, 0), (3, 0), (4, 0), (5, 0), (6, 0), (7, 0), (8, 0), (9, 0), (10, 0), (11, 0)] fun wd hb => ?_
      replace EY := hid (EY.out.trans hb)
      replace QF := hid (QF.out.up hb)
      clear hb
      refine WE.pp 13 (.slice (some aq) nq cq) ?_
      refine WE.pp 14 (.int .i64 (nq : Int)) ?_
      refine WE.pp 15 (.bool true) ?_
      refine WE.pp 16 (.bool true) ?_
      refine WE.pp 17 (.slice (some aq) nq cq) ?_
      refine WE.pp 18 (.pointer (some aq)) ?_
      simp only [Act.put, pA, pB, pC]
      refine WE.pp 19 (.pointer (some aq)) ?_
      refine WE.qq 20 (.int .i64 v) rfl (fun w' hk => by have ce0 : w'.cell? aq = some (.int .i64 v) := (JA.out.up (E.out.trans EY.out)).up hk; go_simp) ?_
      refine WE.pp 21 (.pointer (some ⟨gV4, 0, none⟩)) ?_
      refine WE.qq 22 (.int .i64 u) rfl (fun w' hk => by have ce0 := ((V4.out.up EY.out).up hk).k 0; go_simp) ?_
      refine WE.pp 23 (.bool true) ?_
      refine WE.pp 24 (.bool true) ?_
      simp only [Act.put, pA, pB, pC]
      refine WE.done ?_
      go_upto_region 5 with (fail)
      refine wp_region_D [(0, 0), (1, 0), (2, 0), (3, 0), (4, 0), (5, 0), (6, 1), (7, 0), (8, 4)] fun wd hb => ?_
      replace EY := hid (EY.out.trans hb)
      replace QF := hid (QF.out.up hb)
      clear hb
      refine WE.pp 25 (.pointer (some ⟨gV4, 1, none⟩)) ?_
      refine WE.qq 26 (.agg #[.bool gc, .slice Ac nc cc]) rfl (fun w' hk => by obtain ⟨ce0, ce1, ce2⟩ := ((V4.out.up EY.out).up hk).c3; go_simp) ?_
      refine WE.pp 27 (.slice (some aq) nq cq) ?_
      refine WE.pp 28 (.pointer (some aq)) ?_
      refine WE.pp 29 (.pointer (some ⟨aq.block, aq.off + 1, none⟩)) ?_
      refine WE.qq 30 (.agg #[.bool gf, .slice Af nf cg]) rfl (fun w' hk => by have ce1 : w'.cell? ⟨aq.block, aq.off + 1, none⟩ = some (.bool gf) := (JB.out.up (E.out.trans EY.out)).up hk; have ce2 : w'.cell? ⟨aq.block, aq.off + 2, none⟩ = some (.slice Af nf cg) := (JC.out.up (E.out.trans EY.out)).up hk; go_simp) ?_
      simp only [Act.put, pA, pB, pC]
      refine WE.cc 31 ((add_w (QC.out.up EY.out).worth QF.out.worth (by have := HW.out; have := HN.out; omega) (by have := HW.out; have := HN.out; omega)).mono ?_)
      rintro e wn ⟨v1, rfl, x1, hb⟩
      obtain ⟨g11, A11, n11, c11, rfl⟩ := x1.shape
      refine ⟨_, rfl, hb, ?_⟩
      replace EY := hid (EY.out.trans hb)
      have Q11 := hid x1
      clear hb x1
      refine WE.pp 32 (.pointer (some ⟨gV4, 1, none⟩)) ?_
      simp only [Act.put, pA, pB, pC]
      refine WE.store12 (g := gV4) (x0 := .int .i64 u) (y := .bool g11) (z := .slice A11 n11 c11) (t := 56) rfl rfl (by rfl) (fun w hb => ?_) (V4.out.up EY.out) (by rfl) fun ws hk hs hbx => ?_
      ·obtain ⟨ce0, ce1, ce2⟩ := hb.c3; obtain ⟨f0, f1, f2⟩ := hb.f3; go_simp
      replace OWN := hid ((OWN.out.up EY.out).keptF hk hs HOOWNV4.out)
      replace E := hid ((E.out.trans EY.out).keptG hk HGV4.out)
      replace V4 := hid hbx
      replace QC := hid ((QC.out.up EY.out).kz hs)
      replace Q11 := hid (Q11.out.kz hs)
      clear hk hs hbx
      replace EY := hid (Ext.refl ws)
      refine WE.done ?_
      go_upto_region 6 with (fail)
      refine wp_region_S [(0, 0), (1, 0), (2, 0)] fun wd hb => ?_
      replace EY := hid (EY.out.trans hb)
      clear hb
      refine WE.pp 33 (.slice (some aq) nq cq) ?_
      refine WE.qq 34 (.slice Ar nr cr) rfl (fun w' hk => by have hf := HSL.out; go_simp) ?_
      refine WE.pp 0 (.slice Ar nr cr) ?_
      simp only [Act.put, pA, pB, pC]
      refine WE.done ?_
      go_wp2
      go_roundw
      case rel => exact ⟨q + 1, Ar, nr, cr, g11, A11, n11, c11, (cf + yc), rfl, hnr, by omega, TR.out, (E.out.trans EY.out), (V4.out.up EY.out), (Q11.out.up EY.out).wide (by have := HWS.out _ (List.mem_of_getElem? HY.out); omega), (OWN.out.up EY.out), HOOWNV4.out, HI.out.step HY.out hv⟩
      case measure => simp [lenV]; all_goals omega
     ·have hvd : (v == u) = false := by simpa using hv
      go_upto_region 4 with (fail)
      refine wp_region_D [(0, 0), (1, 0), (2, 0), (3, 0), (4, 0), (5, 0), (6, 0), (7, 0), (8, 0), (9, 0), (10, 0), (11, 0)] fun wd hb => ?_
      replace EY := hid (EY.out.trans hb)
      clear hb
      refine WE.pp 13 (.slice (some aq) nq cq) ?_
      refine WE.pp 14 (.int .i64 (nq : Int)) ?_
      refine WE.pp 15 (.bool true) ?_
      refine WE.pp 16 (.bool true) ?_
      refine WE.pp 17 (.slice (some aq) nq cq) ?_
      refine WE.pp 18 (.pointer (some aq)) ?_
      simp only [Act.put, pA, pB, pC]
      refine WE.pp 19 (.pointer (some aq)) ?_
      refine WE.qq 20 (.int .i64 v) rfl (fun w' hk => by have ce0 : w'.cell? aq = some (.int .i64 v) := (JA.out.up (E.out.trans EY.out)).up hk; go_simp) ?_
      refine WE.pp 21 (.pointer (some ⟨gV4, 0, none⟩)) ?_
      refine WE.qq 22 (.int .i64 u) rfl (fun w' hk => by have ce0 := ((V4.out.up EY.out).up hk).k 0; go_simp) ?_
      refine WE.pp 23 (.bool false) ?_
      refine WE.pp 24 (.bool false) ?_
      simp only [Act.put, pA, pB, pC]
      refine WE.done ?_
      clear QF
      have hex : ∀ x, s[q]? = some x → x.1 ≠ u := fun x hx => by rw [HY.out] at hx; injection hx with hx; subst hx; exact hv
      have hqp : p < q := by rcases Nat.lt_or_ge p q with h | h; exact h; exfalso; exact hex (u, xc) (by rw [show q = p by omega]; exact HX.out) rfl
      have HEX := hid hex
      clear hex
      obtain ⟨sg, hsg⟩ : ∃ s : Int, cf.sign = s := ⟨_, rfl⟩
      have HSG := hid hsg
      by_cases hc0 : cf = 0
      ·have hsd : (sg != 0) = false := by rw [← hsg, hc0]; rfl
       clear hsg
       go_upto_region 7 with (fail)
       refine wp_region_S [(0, 0), (1, 0), (2, 1), (3, 0)] fun wd hb => ?_
       replace EY := hid (EY.out.trans hb)
       clear hb
       refine WE.pp 35 (.pointer (some ⟨gV4, 1, none⟩)) ?_
       refine WE.qq 36 (.agg #[.bool gc, .slice Ac nc cc]) rfl (fun w' hk => by obtain ⟨ce0, ce1, ce2⟩ := ((V4.out.up EY.out).up hk).c3; go_simp) ?_
       refine WE.cc 37 ((sign_e (QC.out.up EY.out).worth (s := sg) (HSG.out)).mono ?_)
       rintro e wn ⟨rfl, hb⟩
       refine ⟨_, rfl, hb, ?_⟩
       replace EY := hid (EY.out.trans hb)
       clear hb
       refine WE.pp 38 (.bool false) ?_
       simp only [Act.put, pA, pB, pC]
       refine WE.done ?_
       go_wp2
       go_roundw
       case rel => exact ⟨q, some aq, nq, cq, Ao, no, co, out, rfl, rfl, hnq, TQ.out, (E.out.trans EY.out), (OWN.out.up EY.out), HOW.out, HI.out.zero HSRT.out HEX.out hc0, by have := HOL.out; omega⟩
       case measure => simp [lenV]; all_goals omega
      ·have hsd : (sg != 0) = true := by rw [← hsg, bne_iff_ne]; exact fun e => hc0 (Int.sign_eq_zero_iff_zero.1 e)
       clear hsg
       go_upto_region 7 with (fail)
       refine wp_region_S [(0, 0), (1, 0), (2, 1), (3, 0)] fun wd hb => ?_
       replace EY := hid (EY.out.trans hb)
       clear hb
       refine WE.pp 35 (.pointer (some ⟨gV4, 1, none⟩)) ?_
       refine WE.qq 36 (.agg #[.bool gc, .slice Ac nc cc]) rfl (fun w' hk => by obtain ⟨ce0, ce1, ce2⟩ := ((V4.out.up EY.out).up hk).c3; go_simp) ?_
       refine WE.cc 37 ((sign_e (QC.out.up EY.out).worth (s := sg) (HSG.out)).mono ?_)
       rintro e wn ⟨rfl, hb⟩
       refine ⟨_, rfl, hb, ?_⟩
       replace EY := hid (EY.out.trans hb)
       clear hb
       refine WE.pp 38 (.bool true) ?_
       simp only [Act.put, pA, pB, pC]
       refine WE.done ?_
       have HBH := hid E.out.size
       have HBW := hid (Nat.le_refl w.heap.size)
       go_upto_region 8 with (fail)
       refine wp_region_S [(0, 0), (1, 0), (2, 1), (3, 4), (4, 0)] fun wd hb => ?_
       replace EY := hid (EY.out.trans hb)
       clear hb
       refine WE.pp 39 (.slice Ao no co) ?_
       refine WE.qq 40 (.agg #[.int .i64 u, .bool gc, .slice Ac nc cc]) rfl (fun w' hk => by obtain ⟨ce0, ce1, ce2⟩ := ((V4.out.up EY.out).up hk).c3; go_simp) ?_
       simp only [Act.put, pA, pB, pC]
       refine WE.new (d := some 41) (cs := #[.int .i64 u, .bool gc, .slice Ac nc cc]) (t := 56) (v := fun g => (.slice (some ⟨g, 0, none⟩) 1 1)) rfl rfl (by rfl) (fun w => by go_simp) fun gL1 wv hx0 hbox hge => ?_
       replace EY := hid (EY.out.trans hx0)
       have L1 : Hid (Box wv gL1 #[.int .i64 u, .bool gc, .slice Ac nc cc] 56) := hid hbox
       clear hx0 hbox hge
       simp only [Act.put, pA, pB, pC]
       obtain ⟨v9, wk, hrun, ho9, hk9, hs9⟩ := appL_run (V := u) (OWN.out.up EY.out) L1.out (QC.out.up EY.out).fields.2.1 (by rw [List.length_map]; have := HOL.out; have := HN.out; omega) (Nat.le_trans HBH.out EY.out.size) 22
       obtain ⟨A9, n9, c9, rfl⟩ := ho9.shape
       have HBLK := hid (OWN.out.up EY.out).blk
       refine WE.actK (d := some 42) rfl rfl (by rfl) (exec_app (.tmp 39) (.tmp 41) rfl rfl rfl hrun) hk9.1.size ?_
       have HQ9 := hid (QC.out.up EY.out).fields
       replace E := hid (((E.out.trans EY.out)).own hk9 HBLK.out HBW.out)
       replace QC := hid ((QC.out.up EY.out).kz hs9)
       have HSZ := hid hk9.1.size
       replace HBH := hid (Nat.le_trans HBH.out (Nat.le_trans EY.out.size HSZ.out))
       replace OWN := hid ho9
       replace EY := hid (Ext.refl wk)
       clear hrun ho9 hk9 hs9 HBLK HSZ L1 V4
       refine WE.pp 3 (.slice A9 n9 c9) ?_
       simp only [Act.put, pA, pB, pC]
       refine WE.done ?_
       go_wp2
       go_roundw
       case rel => exact ⟨q, some aq, nq, cq, A9, n9, c9, out ++ [(u, cf)], rfl, rfl, hnq, TQ.out, (E.out.trans EY.out), by rw [List.map_append]; have := (OWN.out.up EY.out); rw [HQ9.out.1] at this; exact this, fun x hx => by rcases List.mem_append.1 hx with hx | hx; exact HOW.out x hx; simp at hx; subst hx; exact Nat.le_trans HQ9.out.2.2 (by omega), HI.out.some HSRT.out HEX.out hc0, by rw [List.length_append]; have := HOL.out; simp; omega⟩
       case measure => simp [lenV]; all_goals omega
    ·obtain rfl : nq = 0 := by omega
     have hqd : decide ((0 : Int) < ((0 : Nat) : Int)) = false := by simp
     have hqd' : decide ((0 : Int) < 0) = false := by simp
     go_upto_region 4 with (fail)
     refine wp_region_D [(0, 0), (1, 0), (2, 0), (3, 0), (4, 0), (5, 0), (6, 0), (7, 0), (8, 0), (9, 0), (10, 0), (11, 0)] fun wd hb => ?_
     replace EY := hid (EY.out.trans hb)
     clear hb
     refine WE.pp 13 (.slice Aq 0 cq) ?_
     refine WE.pp 14 (.int .i64 (0 : Int)) ?_
     refine WE.pp 15 (.bool false) ?_
     refine WE.pp 16 (.bool false) ?_
     refine WE.ss 17 ?_
     refine WE.ss 18 ?_
     simp only [Act.put, pA, pB, pC]
     refine WE.ss 19 ?_
     refine WE.ss 20 ?_
     refine WE.ss 21 ?_
     refine WE.ss 22 ?_
     refine WE.ss 23 ?_
     refine WE.pp 24 (.bool false) ?_
     simp only [Act.put, pA, pB, pC]
     refine WE.done ?_
     have hex : ∀ x, s[q]? = some x → x.1 ≠ u := fun x hx => by have := (List.getElem?_eq_some_iff.1 hx).1; have := HLEN.out; omega
     have hqp : p < q := by rcases Nat.lt_or_ge p q with h | h; exact h; exfalso; exact hex (u, xc) (by rw [show q = p by omega]; exact HX.out) rfl
     have HEX := hid hex
     clear hex
     obtain ⟨sg, hsg⟩ : ∃ s : Int, cf.sign = s := ⟨_, rfl⟩
     have HSG := hid hsg
     by_cases hc0 : cf = 0
     ·have hsd : (sg != 0) = false := by rw [← hsg, hc0]; rfl
      clear hsg
      go_upto_region 7 with (fail)
      refine wp_region_S [(0, 0), (1, 0), (2, 1), (3, 0)] fun wd hb => ?_
      replace EY := hid (EY.out.trans hb)
      clear hb
      refine WE.pp 35 (.pointer (some ⟨gV4, 1, none⟩)) ?_
      refine WE.qq 36 (.agg #[.bool gc, .slice Ac nc cc]) rfl (fun w' hk => by obtain ⟨ce0, ce1, ce2⟩ := ((V4.out.up EY.out).up hk).c3; go_simp) ?_
      refine WE.cc 37 ((sign_e (QC.out.up EY.out).worth (s := sg) (HSG.out)).mono ?_)
      rintro e wn ⟨rfl, hb⟩
      refine ⟨_, rfl, hb, ?_⟩
      replace EY := hid (EY.out.trans hb)
      clear hb
      refine WE.pp 38 (.bool false) ?_
      simp only [Act.put, pA, pB, pC]
      refine WE.done ?_
      go_wp2
      go_roundw
      case rel => exact ⟨q, Aq, 0, cq, Ao, no, co, out, rfl, rfl, hnq, TQ.out, (E.out.trans EY.out), (OWN.out.up EY.out), HOW.out, HI.out.zero HSRT.out HEX.out hc0, by have := HOL.out; omega⟩
      case measure => simp [lenV]; all_goals omega
     ·have hsd : (sg != 0) = true := by rw [← hsg, bne_iff_ne]; exact fun e => hc0 (Int.sign_eq_zero_iff_zero.1 e)
      clear hsg
      go_upto_region 7 with (fail)
      refine wp_region_S [(0, 0), (1, 0), (2, 1), (3, 0)] fun wd hb => ?_
      replace EY := hid (EY.out.trans hb)
      clear hb
      refine WE.pp 35 (.pointer (some ⟨gV4, 1, none⟩)) ?_
      refine WE.qq 36 (.agg #[.bool gc, .slice Ac nc cc]) rfl (fun w' hk => by obtain ⟨ce0, ce1, ce2⟩ := ((V4.out.up EY.out).up hk).c3; go_simp) ?_
      refine WE.cc 37 ((sign_e (QC.out.up EY.out).worth (s := sg) (HSG.out)).mono ?_)
      rintro e wn ⟨rfl, hb⟩
      refine ⟨_, rfl, hb, ?_⟩
      replace EY := hid (EY.out.trans hb)
      clear hb
      refine WE.pp 38 (.bool true) ?_
      simp only [Act.put, pA, pB, pC]
      refine WE.done ?_
      have HBH := hid E.out.size
      have HBW := hid (Nat.le_refl w.heap.size)
      go_upto_region 8 with (fail)
      refine wp_region_S [(0, 0), (1, 0), (2, 1), (3, 4), (4, 0)] fun wd hb => ?_
      replace EY := hid (EY.out.trans hb)
      clear hb
      refine WE.pp 39 (.slice Ao no co) ?_
      refine WE.qq 40 (.agg #[.int .i64 u, .bool gc, .slice Ac nc cc]) rfl (fun w' hk => by obtain ⟨ce0, ce1, ce2⟩ := ((V4.out.up EY.out).up hk).c3; go_simp) ?_
      simp only [Act.put, pA, pB, pC]
      refine WE.new (d := some 41) (cs := #[.int .i64 u, .bool gc, .slice Ac nc cc]) (t := 56) (v := fun g => (.slice (some ⟨g, 0, none⟩) 1 1)) rfl rfl (by rfl) (fun w => by go_simp) fun gL1 wv hx0 hbox hge => ?_
      replace EY := hid (EY.out.trans hx0)
      have L1 : Hid (Box wv gL1 #[.int .i64 u, .bool gc, .slice Ac nc cc] 56) := hid hbox
      clear hx0 hbox hge
      simp only [Act.put, pA, pB, pC]
      obtain ⟨v9, wk, hrun, ho9, hk9, hs9⟩ := appL_run (V := u) (OWN.out.up EY.out) L1.out (QC.out.up EY.out).fields.2.1 (by rw [List.length_map]; have := HOL.out; have := HN.out; omega) (Nat.le_trans HBH.out EY.out.size) 22
      obtain ⟨A9, n9, c9, rfl⟩ := ho9.shape
      have HBLK := hid (OWN.out.up EY.out).blk
      refine WE.actK (d := some 42) rfl rfl (by rfl) (exec_app (.tmp 39) (.tmp 41) rfl rfl rfl hrun) hk9.1.size ?_
      have HQ9 := hid (QC.out.up EY.out).fields
      replace E := hid (((E.out.trans EY.out)).own hk9 HBLK.out HBW.out)
      have HSZ := hid hk9.1.size
      replace OWN := hid ho9
      replace EY := hid (Ext.refl wk)
      clear hrun ho9 hk9 hs9 HBLK HSZ L1 V4
      refine WE.pp 3 (.slice A9 n9 c9) ?_
      simp only [Act.put, pA, pB, pC]
      refine WE.done ?_
      go_wp2
      go_roundw
      case rel => exact ⟨q, Aq, 0, cq, A9, n9, c9, out ++ [(u, cf)], rfl, rfl, hnq, TQ.out, (E.out.trans EY.out), by rw [List.map_append]; have := (OWN.out.up EY.out); rw [HQ9.out.1] at this; exact this, fun x hx => by rcases List.mem_append.1 hx with hx | hx; exact HOW.out x hx; simp at hx; subst hx; exact Nat.le_trans HQ9.out.2.2 (by omega), HI.out.some HSRT.out HEX.out hc0, by rw [List.length_append]; have := HOL.out; simp; omega⟩
      case measure => simp [lenV]; all_goals omega
  ·obtain rfl : np = 0 := by omega
   obtain rfl : p = n := by omega
   have hqd : decide ((0 : Int) < ((0 : Nat) : Int)) = false := by simp
   have hqd' : decide ((0 : Int) < 0) = false := by simp
   go_upto_region 2 with (fail)
   refine wp_region_S [(0, 0), (1, 0), (2, 0)] fun wd hb => ?_
   replace EY := hid (EY.out.trans hb)
   clear hb
   refine WE.pp 5 (.slice An 0 cn) ?_
   refine WE.pp 6 (.int .i64 (0 : Int)) ?_
   refine WE.pp 7 (.bool false) ?_
   simp only [Act.put, pA, pB, pC]
   refine WE.done ?_
   go_upto_region 9 with (fail)
   refine wp_region_S [(0, 0), (1, 0)] fun wd hb => ?_
   replace EY := hid (EY.out.trans hb)
   clear hb
   refine WE.pp 43 (.slice Ao no co) ?_
   refine WE.pp 2 (.slice Ao no co) ?_
   simp only [Act.put, pA, pB, pC]
   refine WE.done ?_
   repeat go_step
   go_ret
   exact ⟨_, out, rfl, ((OWN.out.up EY.out)).tm HOW.out, HT.out.ok, fun x => M.TogO.fin (by have := HT.out; rwa [HLEN.out] at this) x, (E.out.trans EY.out)⟩

end Go.Proofs.YtklmnmkmpkobhaaGreat
