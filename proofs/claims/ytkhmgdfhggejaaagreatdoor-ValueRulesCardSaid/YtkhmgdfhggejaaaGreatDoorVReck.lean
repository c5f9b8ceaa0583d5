/-
  Layer 12: contract of package value: reckoned.
-/
import Derived.Test.YtkhmgdfhggejaaaGreatDoorWVB
namespace Go.Proofs.YtkhmgdfhggejaaaGreatDoor.Q
set_option linter.unusedSimpArgs false
set_option linter.unusedVariables false
open Go.RowKit
theorem slice_fromZ {A : Option Addr} {n c k : Nat} (hk : k ≤ n) (w : World) :
 (Instr.slice 121 (.slice A n c) (some (.int .i64 (k : Int))) none none).run Tryz.prog w = .ok (.slice (if c = k then A else A.map (·.add (k * 2))) (n - k) (c - k)) w := by
 obtain ⟨i0, hi, hz0, hz1, hz2⟩ := info_parts info_IntJ
 simp [Instr.slice, run_underlying Tryz.underlying121, Instr.sliceBounds, run_sliceBound, sizeOf, typeInfo, hi, hz1, hk]
theorem ZAt.shift {w : World} {ad : Addr} {k j : Nat} {x : Bool × List Nat} (h : ZAt w ad (k + j) x) : ZAt w (ad.add (k * 2)) j x := by
 obtain ⟨A, n, c, h0, h1, h2⟩ := h
 have e : (ad.add (k * 2)).add (j * 2) = ad.add ((k + j) * 2) := by rw [Addr.add_add, Nat.add_mul]
 exact ⟨A, n, c, by rw [e]; exact h0, by rw [e]; exact h1, h2⟩
theorem ZList.from_ {w : World} {A : Option Addr} {n c : Nat} {ls : List (Bool × List Nat)} (h : ZList w (.slice A n c) ls) {k : Nat} (hk : k ≤ n) : ZList w (.slice (if c = k then A else A.map (·.add (k * 2))) (n - k) (c - k)) (ls.drop k) := by
 have hcount := h.count
 obtain ⟨A', n', c', e, hn, hc, hm, hz⟩ := h
 injection e with e1 e2 e3
 subst e1
 refine ⟨_, _, _, rfl, by rw [List.length_drop]; omega, by omega, by unfold maxLen at *; omega, fun j x hx => ?_⟩
 rw [List.getElem?_drop] at hx
 have hlt : k + j < ls.length := (List.getElem?_eq_some_iff.1 hx).1
 obtain ⟨ad, ha, hbl, hcell⟩ := hz _ _ hx
 rw [if_neg (by omega), ha]
 exact ⟨ad.add (k * 2), rfl, by rw [addr_block]; exact hbl, hcell.shift⟩
theorem ZList.at0 {w : World} {A : Option Addr} {n c : Nat} {l : List (Bool × List Nat)} {x : Bool × List Nat} (h : ZList w (.slice A n c) l) (hx : l[0]? = some x) : ∃ ad N nn nc, A = some ad ∧ (w.cell? ad = some (.bool x.1) ∧ w.cell? ⟨ad.block, ad.off + 1, none⟩ = some (.slice N nn nc)) ∧ LNum w (.slice N nn nc) x.2 := by
 obtain ⟨ad, N, nn, nc, rfl, c0, c1, hv⟩ := h.get hx
 rw [Nat.zero_mul, Addr.add_zero'] at c0 c1
 exact ⟨ad, N, nn, nc, rfl, ⟨c0, c1⟩, hv⟩
theorem ZList.at1 {w : World} {ad : Addr} {n c : Nat} {l : List (Bool × List Nat)} {x : Bool × List Nat} (h : ZList w (.slice (some ad) n c) l) (hx : l[1]? = some x) : ∃ N nn nc, (w.cell? ⟨ad.block, ad.off + 2, none⟩ = some (.bool x.1) ∧ w.cell? ⟨ad.block, ad.off + 2 + 1, none⟩ = some (.slice N nn nc)) ∧ LNum w (.slice N nn nc) x.2 := by
 obtain ⟨ad', N, nn, nc, e, c0, c1, hv⟩ := h.get hx
 injection e with e
 subst e
 exact ⟨N, nn, nc, ⟨c0, c1⟩, hv⟩
theorem z_stored {w0 w : World} {g n c : Nat} {A : Option Addr} {d : Bool} {Z : Int} {K : Nat} {x0 x1 : Value} (hb : Box w g #[.bool false, .slice none 0 0] 24) (hd : decide (Z < 0) = d) (hn : LNum w (.slice A n c) (M.limbs Z.natAbs)) (hk : (M.limbs Z.natAbs).length ≤ K) (e : Ext w0 w) (hg : w0.heap.size ≤ g) :
 GivesZ w0 Z K (.returned (.agg #[.bool d, .slice A n c])) (put2v w g x0 x1) := by
 have hkp : Kept [g] w (put2v w g x0 x1) := (kept_setAt _).trans (kept_setAt _)
 exact ⟨_, rfl, ⟨A, n, c, by rw [hd], keeps_store hb rfl hkp _ _ hn, hk⟩, e.keptG hkp hg⟩
theorem M.reck_less {x : Int} {r : List Int} : M.mReck 14 (x :: r) = M.mLess x r := by
 cases r <;> rfl
set_option maxHeartbeats 8000000 in
theorem reckoned_v {ls : List (Bool × List Nat)} {op : Int} {v : Value} {w : World} {W K : Nat} (h : ZList w v ls) (hlen : ls.length ≤ 100000) (hW : ∀ x ∈ ls, x.2.length ≤ W) (hW2 : W ≤ 100000)
 (hop : op = 13 ∨ (op = 14 ∧ ls ≠ []) ∨ (op = 15 ∧ ∃ a b, ls = [a, b] ∧ (a.2.length < 64 ∨ b.2.length < 64)) ∨ (op = 18 ∧ ls ≠ []) ∨ ((op = 16 ∨ op = 17) ∧ ∃ a b, ls = [a, b]))
 (hK : op ≠ 15 → W + ls.length + 4 ≤ K) (hK2 : ∀ a b, ls = [a, b] → op = 15 → a.2.length + b.2.length ≤ K) :
 Calls Tryz.prog 96 #[.int .i64 op, v] w (GivesZ w (M.mReck op (ls.map fun x => M.zv x.1 x.2)) K) := by
 obtain ⟨A, n, c, rfl⟩ := h.shape
 obtain ⟨hn, hl2, hl3⟩ := h.count
 have HL := hid h
 have HN := hid hn.symm
 have HW := hid hW
 have hb0 := Box.new w #[.bool false, .slice none 0 0] 24
 have E0 := hid (Ext.alloc w (.cells #[.bool false, .slice none 0 0] 24))
 have HB := hid hb0
 clear hb0
 have entry : ∀ {Q : Prop}, Q → Q := fun h => h
 rcases hop with rfl | ⟨rfl, hne⟩ | ⟨rfl, a, b, hab, hm⟩ | ⟨rfl, hne⟩ | ⟨hop, a, b, hab⟩
 ·have HC := hid (show ∀ w', Ext w w' → Calls Tryz.prog 116 #[.slice A n c] w' (GivesZ w' (M.mReck 13 (ls.map fun x => M.zv x.1 x.2)) (W + ls.length)) from fun w' e => sum_v (h.up e) hlen hW hW2)
  have HK := hid (hK (by decide))
  obtain ⟨Z, hZ⟩ : ∃ Z, M.mReck 13 (ls.map fun x => M.zv x.1 x.2) = Z := ⟨_, rfl⟩
  rw [hZ] at HC ⊢
  clear h hn hlen hW hK hK2 hZ
  go_enter Tryz.func96, Tryz.ntmps96
  go_wp2_with fail
  refine (HC.out _ E0.out).mono ?_
  rintro e w1 ⟨v1, rfl, ⟨A1, n1, c1, rfl, hn1, hk1⟩, hx⟩
  have E := hid (E0.out.trans hx)
  have HB1 := hid (HB.out.up hx)
  have HN1 := hid hn1
  have HK1 := hid hk1
  obtain ⟨⟨r0, r1⟩, ⟨f0, f1⟩, hz⟩ := box2v HB1.out
  obtain ⟨d1, hd1⟩ : ∃ d1, decide (Z < 0) = d1 := ⟨_, rfl⟩
  rw [hd1]
  have HD := hid hd1
  clear hx hn1 hk1 hd1 HC
  go_wp2_with fail
  refine bodyPost_ret (v := .agg #[.bool d1, .slice A1 n1 c1]) (by simp [results, Tryz.results96, go_sem, r0, r1, hz]) rfl ?_
  exact z_stored HB1.out HD.out HN1.out (Nat.le_trans HK1.out (by have := HK.out; omega)) E.out (Nat.le_refl _)
 ·obtain ⟨x, r, rfl⟩ : ∃ x r, ls = x :: r := by
   cases ls with
   | nil => exact absurd rfl hne
   | cons x r => exact ⟨x, r, rfl⟩
  have hn1 : 1 ≤ n := by rw [hn]; simp
  have hn1' : (1 : Int) ≤ (n : Int) := by omega
  have hn0' : (0 : Int) < (n : Int) := by omega
  have hn0 : ¬ n = 0 := by omega
  obtain ⟨A1, n1, c1, hA1⟩ : ∃ A' n' c', Value.slice (if c = 1 then A else A.map (·.add (1 * 2))) (n - 1) (c - 1) = .slice A' n' c' := ⟨_, _, _, rfl⟩
  have HSL := hid (show ∀ w, (Instr.slice 121 (.slice A n c) (some (.int .i64 1)) none none).run Tryz.prog w = .ok (.slice A1 n1 c1) w from fun w => hA1 ▸ slice_fromZ (k := 1) hn1 w)
  have HT := hid (show ZList w (.slice A1 n1 c1) r from hA1 ▸ h.from_ (k := 1) hn1)
  obtain ⟨ad, N, nn, nc, rfl, ⟨c0, c1'⟩, hx⟩ := h.at0 (x := x) rfl
  have HC := hid (show ∀ w', Ext w w' → Calls Tryz.prog 117 #[.agg #[.bool x.1, .slice N nn nc], .slice A1 n1 c1] w' (GivesZ w' (M.mReck 14 ((x :: r).map fun x => M.zv x.1 x.2)) (max x.2.length (W + r.length) + 1)) from fun w' e => by
   rw [List.map_cons, M.reck_less]
   exact less_v (worth_up (worth_tm (g := x.1) hx) e) (HT.out.up e) (by simp at hlen; omega) (fun y hy => hW y (List.mem_cons_of_mem _ hy)) hW2 (by have := hW x (List.mem_cons_self ..); omega))
  have HK := hid (show max x.2.length (W + r.length) + 1 ≤ K by have h1 := hK (by decide); have h2 := hW x (List.mem_cons_self ..); simp at h1; omega)
  obtain ⟨Z, hZ⟩ : ∃ Z, M.mReck 14 ((x :: r).map fun x => M.zv x.1 x.2) = Z := ⟨_, rfl⟩
  rw [hZ] at HC ⊢
  have HC0 := hid (And.intro c0 c1')
  clear h hn hlen hW hK hK2 hZ hA1 hx c0 c1' hne hn1
  go_enter Tryz.func96, Tryz.ntmps96
  go_upto_region 5 with (fail)
  refine wp_region_D [(0, 0), (1, 0), (2, 0), (3, 0), (4, 0), (5, 1), (6, 4)] fun wd hb => ?_
  replace E0 := hid (E0.out.trans hb)
  replace HB := hid (HB.out.up hb)
  clear hb
  refine WE.p 14 (.slice (some ad) n c) ?_
  simp only [pX]
  refine WE.q 15 (.pointer (some ad)) rfl (fun w' hk => by go_simp) ?_
  simp only [pX]
  refine WE.q 16 (.agg #[.bool x.1, .slice N nn nc]) rfl (fun w' hk => by
   have ee := E0.out.trans hk
   have x0 := ee.cell HC0.out.1
   have x1 := ee.cell HC0.out.2
   go_simp) ?_
  simp only [pX]
  refine WE.p 17 (.slice (some ad) n c) ?_
  simp only [pX]
  refine WE.q 18 (.slice A1 n1 c1) rfl (fun w' hk => by have hs := HSL.out; go_simp) ?_
  simp only [pX]
  refine WE.c 19 ((HC.out _ E0.out).mono ?_)
  rintro e w1 ⟨v1, rfl, ⟨A2, n2, c2, rfl, hn1, hk1⟩, hb⟩
  refine ⟨_, rfl, hb, ?_⟩
  have E := hid (E0.out.trans hb)
  have HB1 := hid (HB.out.up hb)
  have HN1 := hid hn1
  have HK1 := hid hk1
  obtain ⟨⟨r0, r1⟩, ⟨f0, f1⟩, hz⟩ := box2v HB1.out
  obtain ⟨d1, hd1⟩ : ∃ d1, decide (Z < 0) = d1 := ⟨_, rfl⟩
  rw [hd1]
  have HD := hid hd1
  clear hb hn1 hk1 hd1 HC
  simp only [pX]
  refine WE.store (w' := put2v w1 w.heap.size (.bool d1) (.slice A2 n2 c2)) rfl rfl (by rfl) (by go_simp) (by simp) ?_
  refine WE.done ?_
  have HP := hid (show GivesZ w Z K (.returned (.agg #[.bool d1, .slice A2 n2 c2])) (put2v w1 w.heap.size (.bool d1) (.slice A2 n2 c2)) from z_stored HB1.out HD.out HN1.out (Nat.le_trans HK1.out HK.out) E.out (Nat.le_refl _))
  have hB2 := HB1.out.set2 (.bool d1) (.slice A2 n2 c2)
  obtain ⟨W3, hW3⟩ : ∃ W3, W3 = put2v w1 w.heap.size (.bool d1) (.slice A2 n2 c2) := ⟨_, rfl⟩
  rw [← hW3] at HP ⊢
  replace hB2 : Box W3 w.heap.size #[.bool d1, .slice A2 n2 c2] 24 := hW3 ▸ hB2
  clear hW3 r0 r1 f0 f1 hz
  obtain ⟨⟨r0, r1⟩, -, hz⟩ := box2v hB2
  go_wp2_with fail
  exact bodyPost_ret (v := .agg #[.bool d1, .slice A2 n2 c2]) (by simp [results, Tryz.results96, go_sem, r0, r1, hz]) rfl HP.out
 ·subst hab
  have hn2 : n = 2 := hn
  subst hn2
  obtain ⟨ad, N, nn, nc, rfl, ⟨c0, c1'⟩, hx⟩ := h.at0 (x := a) rfl
  obtain ⟨N', nn', nc', ⟨d0, d1'⟩, hy⟩ := h.at1 (x := b) rfl
  have HC := hid (show ∀ w', Ext w w' → Calls Tryz.prog 118 #[.agg #[.bool a.1, .slice N nn nc], .agg #[.bool b.1, .slice N' nn' nc']] w' (GivesZ w' (M.mReck 15 ([a, b].map fun x => M.zv x.1 x.2)) (a.2.length + b.2.length)) from fun w' e =>
   mul_w (worth_up (worth_tm (g := a.1) hx) e) (worth_up (worth_tm (g := b.1) hy) e) (by have := hW a (by simp); omega) (by have := hW b (by simp); omega) hm)
  have HK := hid (hK2 a b rfl rfl)
  obtain ⟨Z, hZ⟩ : ∃ Z, M.mReck 15 ([a, b].map fun x => M.zv x.1 x.2) = Z := ⟨_, rfl⟩
  rw [hZ] at HC ⊢
  have HC0 := hid (And.intro c0 (And.intro c1' (And.intro d0 d1')))
  clear h hn hlen hW hK hK2 hZ hx hy c0 c1' d0 d1' hm
  go_enter Tryz.func96, Tryz.ntmps96
  go_upto_region 7 with (fail)
  refine wp_region_D [(0, 0), (1, 0), (2, 0), (3, 0), (4, 0), (5, 0), (6, 1), (7, 4)] fun wd hb => ?_
  replace E0 := hid (E0.out.trans hb)
  replace HB := hid (HB.out.up hb)
  clear hb
  refine WE.p 22 (.slice (some ad) 2 c) ?_
  simp only [pX]
  refine WE.q 23 (.pointer (some ad)) rfl (fun w' hk => by go_simp) ?_
  simp only [pX]
  refine WE.q 24 (.agg #[.bool a.1, .slice N nn nc]) rfl (fun w' hk => by
   have ee := E0.out.trans hk
   have x0 := ee.cell HC0.out.1
   have x1 := ee.cell HC0.out.2.1
   go_simp) ?_
  simp only [pX]
  refine WE.p 25 (.slice (some ad) 2 c) ?_
  simp only [pX]
  refine WE.q 26 (.pointer (some ⟨ad.block, ad.off + 2, none⟩)) rfl (fun w' hk => by go_simp) ?_
  simp only [pX]
  refine WE.q 27 (.agg #[.bool b.1, .slice N' nn' nc']) rfl (fun w' hk => by
   have ee := E0.out.trans hk
   have x0 := ee.cell HC0.out.2.2.1
   have x1 := ee.cell HC0.out.2.2.2
   go_simp) ?_
  simp only [pX]
  refine WE.c 28 ((HC.out _ E0.out).mono ?_)
  rintro e w1 ⟨v1, rfl, ⟨A2, n2, c2, rfl, hn1, hk1⟩, hb⟩
  refine ⟨_, rfl, hb, ?_⟩
  have E := hid (E0.out.trans hb)
  have HB1 := hid (HB.out.up hb)
  have HN1 := hid hn1
  have HK1 := hid hk1
  obtain ⟨⟨r0, r1⟩, ⟨f0, f1⟩, hz⟩ := box2v HB1.out
  obtain ⟨d1, hd1⟩ : ∃ d1, decide (Z < 0) = d1 := ⟨_, rfl⟩
  rw [hd1]
  have HD := hid hd1
  clear hb hn1 hk1 hd1 HC
  simp only [pX]
  refine WE.store (w' := put2v w1 w.heap.size (.bool d1) (.slice A2 n2 c2)) rfl rfl (by rfl) (by go_simp) (by simp) ?_
  refine WE.done ?_
  have HP := hid (show GivesZ w Z K (.returned (.agg #[.bool d1, .slice A2 n2 c2])) (put2v w1 w.heap.size (.bool d1) (.slice A2 n2 c2)) from z_stored HB1.out HD.out HN1.out (Nat.le_trans HK1.out HK.out) E.out (Nat.le_refl _))
  have hB2 := HB1.out.set2 (.bool d1) (.slice A2 n2 c2)
  obtain ⟨W3, hW3⟩ : ∃ W3, W3 = put2v w1 w.heap.size (.bool d1) (.slice A2 n2 c2) := ⟨_, rfl⟩
  rw [← hW3] at HP ⊢
  replace hB2 : Box W3 w.heap.size #[.bool d1, .slice A2 n2 c2] 24 := hW3 ▸ hB2
  clear hW3 r0 r1 f0 f1 hz
  obtain ⟨⟨r0, r1⟩, -, hz⟩ := box2v hB2
  go_wp2_with fail
  exact bodyPost_ret (v := .agg #[.bool d1, .slice A2 n2 c2]) (by simp [results, Tryz.results96, go_sem, r0, r1, hz]) rfl HP.out
 ·obtain ⟨x, r, rfl⟩ : ∃ x r, ls = x :: r := by
   cases ls with
   | nil => exact absurd rfl hne
   | cons x r => exact ⟨x, r, rfl⟩
  have hn0 : ¬ n = 0 := by rw [hn]; simp
  have hn0' : (0 : Int) < (n : Int) := by omega
  obtain ⟨ad, N, nn, nc, rfl, ⟨c0, c1'⟩, hx⟩ := h.at0 (x := x) rfl
  have HC := hid (show ∀ w', Ext w w' → Calls Tryz.prog 119 #[.agg #[.bool x.1, .slice N nn nc]] w' (GivesZ w' (M.mReck 18 ((x :: r).map fun x => M.zv x.1 x.2)) x.2.length) from fun w' e =>
   abs_w (worth_up (worth_tm (g := x.1) hx) e) (by have := hW x (List.mem_cons_self ..); omega))
  have HK := hid (show x.2.length ≤ K by have h1 := hK (by decide); have h2 := hW x (List.mem_cons_self ..); omega)
  obtain ⟨Z, hZ⟩ : ∃ Z, M.mReck 18 ((x :: r).map fun x => M.zv x.1 x.2) = Z := ⟨_, rfl⟩
  rw [hZ] at HC ⊢
  replace c0 := E0.out.cell c0
  replace c1' := E0.out.cell c1'
  clear h hn hlen hW hK hK2 hZ hx hne
  go_enter Tryz.func96, Tryz.ntmps96
  go_wp2_with fail
  refine (HC.out _ E0.out).mono ?_
  rintro e w1 ⟨v1, rfl, ⟨A1, n1, c1, rfl, hn1, hk1⟩, hx⟩
  have E := hid (E0.out.trans hx)
  have HB1 := hid (HB.out.up hx)
  have HN1 := hid hn1
  have HK1 := hid hk1
  obtain ⟨⟨r0, r1⟩, ⟨f0, f1⟩, hz⟩ := box2v HB1.out
  obtain ⟨d1, hd1⟩ : ∃ d1, decide (Z < 0) = d1 := ⟨_, rfl⟩
  rw [hd1]
  have HD := hid hd1
  clear hx hn1 hk1 hd1 HC c0 c1'
  go_wp2_with fail
  refine bodyPost_ret (v := .agg #[.bool d1, .slice A1 n1 c1]) (by simp [results, Tryz.results96, go_sem, r0, r1, hz]) rfl ?_
  exact z_stored HB1.out HD.out HN1.out (Nat.le_trans HK1.out HK.out) E.out (Nat.le_refl _)
 ·subst hab
  have hn2 : n = 2 := hn
  subst hn2
  obtain ⟨ad, N, nn, nc, rfl, ⟨c0, c1'⟩, hx⟩ := h.at0 (x := a) rfl
  obtain ⟨N', nn', nc', ⟨d0, d1'⟩, hy⟩ := h.at1 (x := b) rfl
  obtain ⟨X, hX⟩ : ∃ X, M.zv a.1 a.2 / M.zv b.1 b.2 = X := ⟨_, rfl⟩
  obtain ⟨Y, hY⟩ : ∃ Y, M.zv a.1 a.2 % M.zv b.1 b.2 = Y := ⟨_, rfl⟩
  have HC := hid (show ∀ w', Ext w w' → Calls Tryz.prog 120 #[.agg #[.bool a.1, .slice N nn nc], .agg #[.bool b.1, .slice N' nn' nc']] w' (GivesZ2 w' X (max a.2.length 3 + 1) Y (max a.2.length b.2.length + 1)) from fun w' e => by
   rw [← hX, ← hY]
   exact euclid_w (worth_up (worth_tm (g := a.1) hx) e) (worth_up (worth_tm (g := b.1) hy) e) (by have := hW a (by simp); omega) (by have := hW b (by simp); omega))
  have HK := hid (show max a.2.length 3 + 1 ≤ K ∧ max a.2.length b.2.length + 1 ≤ K by
   have h1 := hK (by rcases hop with rfl | rfl <;> decide); have h2 := hW a (by simp); have h3 := hW b (by simp); simp at h1; omega)
  have HC0 := hid (And.intro c0 (And.intro c1' (And.intro d0 d1')))
  have ho13 : (op == 13) = false := by rcases hop with rfl | rfl <;> rfl
  have ho14 : (op == 14) = false := by rcases hop with rfl | rfl <;> rfl
  have ho15 : (op == 15) = false := by rcases hop with rfl | rfl <;> rfl
  have ho18 : (op == 18) = false := by rcases hop with rfl | rfl <;> rfl
  have HR := hid (show M.mReck op ([a, b].map fun x => M.zv x.1 x.2) = if op = 16 then X else Y by rw [← hX, ← hY]; rcases hop with rfl | rfl <;> rfl)
  obtain ⟨R, hRR⟩ : ∃ R, M.mReck op ([a, b].map fun x => M.zv x.1 x.2) = R := ⟨_, rfl⟩
  rw [hRR] at HR ⊢
  clear h hn hlen hW hK hK2 hx hy c0 c1' d0 d1' hX hY hRR
  have HSZ := hid HB.out.lt
  have HOP := hid hop
  clear hop
  go_enter Tryz.func96, Tryz.ntmps96
  go_upto_region 10 with (fail)
  clear ho13 ho14 ho15 ho18
  refine wp_region_L [(0, 0), (1, 0), (2, 0), (3, 0), (4, 0), (5, 0), (6, 2), (7, 0), (8, 0), (9, 5), (10, 3), (11, 3), (12, 4), (13, 4)] 24 #[.bool false, .slice none 0 0] fun wd hb => ?_
  replace E0 := hid (E0.out.trans hb)
  replace HB := hid (HB.out.up hb)
  have HWD := hid HB.out.lt
  clear hb
  refine WE.p 36 (.slice (some ad) 2 c) ?_
  simp only [pX]
  refine WE.q 37 (.pointer (some ad)) rfl (fun w' hk => by go_simp) ?_
  simp only [pX]
  refine WE.q 38 (.agg #[.bool a.1, .slice N nn nc]) rfl (fun w' hk => by
   have ee := E0.out.trans hk
   have x0 := ee.cell HC0.out.1
   have x1 := ee.cell HC0.out.2.1
   go_simp) ?_
  simp only [pX]
  refine WE.p 39 (.slice (some ad) 2 c) ?_
  simp only [pX]
  refine WE.q 40 (.pointer (some ⟨ad.block, ad.off + 2, none⟩)) rfl (fun w' hk => by go_simp) ?_
  simp only [pX]
  refine WE.q 41 (.agg #[.bool b.1, .slice N' nn' nc']) rfl (fun w' hk => by
   have ee := E0.out.trans hk
   have x0 := ee.cell HC0.out.2.2.1
   have x1 := ee.cell HC0.out.2.2.2
   go_simp) ?_
  simp only [pX]
  refine WE.callR (d := some 42) rfl rfl (by rfl) (fun w => by go_simp) fun wa hea => ((HC.out _ (E0.out.trans hea)).mono ?_)
  rintro e w1 ⟨u1, v1, rfl, ⟨A2, n2, c2, rfl, hn2, hk2⟩, ⟨A3, n3, c3, rfl, hn3, hk3⟩, hx⟩
  refine ⟨_, rfl, hx, ?_⟩
  obtain ⟨p2, hp2⟩ : ∃ d, decide (X < 0) = d := ⟨_, rfl⟩
  obtain ⟨p3, hp3⟩ : ∃ d, decide (Y < 0) = d := ⟨_, rfl⟩
  have E1 := hid ((E0.out.trans hea).trans hx)
  have HB1 := hid ((HB.out.up hea).up hx)
  have HX := hid (And.intro hp2 (And.intro hn2 hk2))
  have HY := hid (And.intro hp3 (And.intro hn3 hk3))
  simp only [Act.put, pA, pB, pC, hp2, hp3]
  clear hea hx hn2 hk2 hn3 hk3 hp2 hp3 HC
  refine WE.p 35 (.tuple #[.agg #[.bool p2, .slice A2 n2 c2], .agg #[.bool p3, .slice A3 n3 c3]]) ?_
  simp only [pX]
  refine WE.p 43 (.agg #[.bool p2, .slice A2 n2 c2]) ?_
  simp only [pX]
  refine WE.y 44 (.agg #[.bool p3, .slice A3 n3 c3]) ?_
  simp only [pX]
  refine WE.var (d := some 5) rfl fun g1 w2 hx2 hbx1 hge1 _ => ?_
  simp only [pX]
  refine WE.var (d := some 6) rfl fun g2 w3 hx3 hbx2 hge2 hng => ?_
  simp only [pX]
  have hg12 : g2 ≠ g1 := by intro e; exact hng (by simp [e])
  have e13 := hx2.trans hx3
  have H1 := hid (show Box w3 g1 #[.bool false, .slice none 0 0] 24 from hbx1.up hx3)
  have H2 := hid (show Box w3 g2 #[.bool false, .slice none 0 0] 24 from hbx2)
  have H0 := hid (HB1.out.up e13)
  have EX := hid (show LNum w3 (.slice A2 n2 c2) (M.limbs X.natAbs) from LNum.up HX.out.2.1 e13)
  have EY := hid (show LNum w3 (.slice A3 n3 c3) (M.limbs Y.natAbs) from LNum.up HY.out.2.1 e13)
  have E3 := hid (E1.out.trans e13)
  have HGE := hid (show w.heap.size < g1 ∧ w.heap.size < g2 ∧ g2 ≠ g1 from ⟨Nat.lt_of_lt_of_le HWD.out hge1, Nat.lt_of_lt_of_le HWD.out hge2, hg12⟩)
  clear hx2 hx3 hbx1 hbx2 hge1 hge2 hng hg12 e13 HB1 E1
  obtain ⟨⟨x0, x1⟩, ⟨y0, y1⟩, hz1⟩ := box2v H1.out
  refine WE.store (w' := put2v w3 g1 (.bool p2) (.slice A2 n2 c2)) rfl rfl (by rfl) (by go_simp) (by simp) ?_
  have hkp : Kept [g1] w3 (put2v w3 g1 (.bool p2) (.slice A2 n2 c2)) := (kept_setAt _).trans (kept_setAt _)
  have hks := keeps_store H1.out rfl hkp
  have G1 := hid (show Box (put2v w3 g1 (.bool p2) (.slice A2 n2 c2)) g1 #[.bool p2, .slice A2 n2 c2] 24 from H1.out.set2 (.bool p2) (.slice A2 n2 c2))
  have G2 := hid (H2.out.kept hkp (by simpa using HGE.out.2.2))
  have G0 := hid (H0.out.kept hkp (by have := HGE.out.1; simp; omega))
  have FX := hid (hks _ _ EX.out)
  have FY := hid (hks _ _ EY.out)
  have E4 := hid (E3.out.keptG hkp (by have := HGE.out.1; omega))
  obtain ⟨W4, hW4⟩ : ∃ W4, W4 = put2v w3 g1 (.bool p2) (.slice A2 n2 c2) := ⟨_, rfl⟩
  rw [← hW4] at G1 G2 G0 E4 ⊢
  have FX' : Hid (LNum W4 (.slice A2 n2 c2) (M.limbs X.natAbs)) := hid (by rw [hW4]; exact FX.out)
  have FY' : Hid (LNum W4 (.slice A3 n3 c3) (M.limbs Y.natAbs)) := hid (by rw [hW4]; exact FY.out)
  clear hW4 hkp hks x0 x1 y0 y1 hz1 H1 H2 H0 EX EY E3 FX FY
  obtain ⟨⟨x0, x1⟩, ⟨y0, y1⟩, hz2⟩ := box2v G2.out
  refine WE.store (w' := put2v W4 g2 (.bool p3) (.slice A3 n3 c3)) rfl rfl (by rfl) (by go_simp) (by simp) ?_
  refine WE.done ?_
  have hkp : Kept [g2] W4 (put2v W4 g2 (.bool p3) (.slice A3 n3 c3)) := (kept_setAt _).trans (kept_setAt _)
  have hks := keeps_store G2.out rfl hkp
  have K2 := hid (show Box (put2v W4 g2 (.bool p3) (.slice A3 n3 c3)) g2 #[.bool p3, .slice A3 n3 c3] 24 from G2.out.set2 (.bool p3) (.slice A3 n3 c3))
  have K1 := hid (G1.out.kept hkp (by simpa using HGE.out.2.2.symm))
  have K0 := hid (G0.out.kept hkp (by have := HGE.out.2.1; simp; omega))
  have FX := hid (hks _ _ FX'.out)
  have FY := hid (hks _ _ FY'.out)
  have E5 := hid (E4.out.keptG hkp (by have := HGE.out.2.1; omega))
  obtain ⟨W5, hW5⟩ : ∃ W5, W5 = put2v W4 g2 (.bool p3) (.slice A3 n3 c3) := ⟨_, rfl⟩
  rw [← hW5] at K1 K2 K0 E5 ⊢
  have FX5 : Hid (LNum W5 (.slice A2 n2 c2) (M.limbs X.natAbs)) := hid (by rw [hW5]; exact FX.out)
  have FY5 : Hid (LNum W5 (.slice A3 n3 c3) (M.limbs Y.natAbs)) := hid (by rw [hW5]; exact FY.out)
  clear hW5 hkp hks x0 x1 y0 y1 hz2 G0 G1 G2 E4 FX FY FX' FY'
  by_cases h16 : op = 16
  ·have HF := hid (show R = X by rw [HR.out, if_pos h16])
   subst h16
   obtain ⟨⟨x0, x1⟩, -, -⟩ := box2v K1.out
   obtain ⟨⟨r0, r1⟩, ⟨f0, f1⟩, hz⟩ := box2v K0.out
   go_wp2_with fail
   refine bodyPost_ret (v := .agg #[.bool p2, .slice A2 n2 c2]) (by simp [results, Tryz.results96, go_sem, r0, r1, hz]) rfl ?_
   rw [HF.out]
   exact z_stored K0.out HX.out.1 FX5.out (Nat.le_trans HX.out.2.2 HK.out.1) E5.out (Nat.le_refl _)
  ·have HF := hid (show R = Y by rw [HR.out, if_neg h16])
   have hb16 : (op == 16) = false := by simpa using h16
   clear h16
   obtain ⟨⟨x0, x1⟩, -, -⟩ := box2v K2.out
   obtain ⟨⟨r0, r1⟩, ⟨f0, f1⟩, hz⟩ := box2v K0.out
   go_wp2_with fail
   refine bodyPost_ret (v := .agg #[.bool p3, .slice A3 n3 c3]) (by simp [results, Tryz.results96, go_sem, r0, r1, hz]) rfl ?_
   rw [HF.out]
   exact z_stored K0.out HY.out.1 FY5.out (Nat.le_trans HY.out.2.2 HK.out.2) E5.out (Nat.le_refl _)
end Go.Proofs.YtkhmgdfhggejaaaGreatDoor.Q
