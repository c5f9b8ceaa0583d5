/-
  Layer 12: contracts of package value: what holds of several values: distinct, told.
-/
import Derived.Test.YtkhmgdfhggejaaaGreatDoorWVA
namespace Go.Proofs.YtkhmgdfhggejaaaGreatDoor.Q
set_option linter.unusedSimpArgs false
set_option linter.unusedVariables false
open Go.RowKit
namespace M
theorem any_take {α : Type} {l : List α} {k : Nat} {x : α} {p : α → Bool} (h : l[k]? = some x) : (l.take (k + 1)).any p = ((l.take k).any p || p x) := by
 rw [List.take_add_one, h, List.any_append]; simp
theorem vDist_snoc : ∀ (l : List Vl) (x : Vl), vDist (l ++ [x]) = (vDist l && !(l.any fun e => vSame e x))
 | [], x => by simp [vDist]
 | y :: r, x => by
  rw [List.cons_append, vDist, vDist, vDist_snoc r x, List.any_append, List.any_cons]
  simp only [List.any_cons, List.any_nil, Bool.or_false]
  cases r.any fun z => vSame y z <;> cases vSame y x <;> cases vDist r <;> cases r.any fun e => vSame e x <;> rfl
theorem vDist_pre : ∀ (a b : List Vl), vDist a = false → vDist (a ++ b) = false
 | [], b, h => by simp [vDist] at h
 | x :: r, b, h => by
  rw [vDist, Bool.and_eq_false_iff] at h
  rw [List.cons_append, vDist, List.any_append]
  rcases h with h | h
  ·have : (r.any fun y => vSame x y) = true := by simpa using h
   rw [this]; rfl
  ·rw [vDist_pre r b h, Bool.and_false]
theorem vDist_no {l : List Vl} {k : Nat} {x : Vl} (h : l[k]? = some x) (hk : ((l.take k).any fun e => vSame e x) = true) : vDist l = false := by
 rw [← List.take_append_drop (k + 1) l]
 apply vDist_pre
 rw [List.take_add_one, h]
 show vDist (l.take k ++ [x]) = false
 rw [vDist_snoc, hk, Bool.not_true, Bool.and_false]
end M
theorem slice_toV {A : Option Addr} {n c k : Nat} (hk : k ≤ c) (w : World) :
 (Instr.slice 63 (.slice A n c) none (some (.int .i64 (k : Int))) none).run Tryz.prog w = .ok (.slice (if c = 0 then A else A.map (·.add (0 * 3))) k c) w := by
 obtain ⟨i0, hi, hz0, hz1, hz2⟩ := info_parts info_Value
 simp [Instr.slice, run_underlying Tryz.underlying63, Instr.sliceBounds, run_sliceBound, sizeOf, typeInfo, hi, hz1, hk]
theorem VList.to_ {w : World} {A : Option Addr} {n c : Nat} {ls : List M.Vl} (h : VList w (.slice A n c) ls) {k : Nat} (hk : k ≤ n) : VList w (.slice (if c = 0 then A else A.map (·.add (0 * 3))) k c) (ls.take k) := by
 obtain ⟨A', n', c', e, hn, hc, hm, hz⟩ := h
 injection e with e1 e2 e3
 subst e1 e2 e3
 refine ⟨_, _, _, rfl, by rw [List.length_take]; omega, by omega, hm, fun j x hx => ?_⟩
 rw [List.getElem?_take] at hx
 split at hx
 ·have hlt : j < ls.length := (List.getElem?_eq_some_iff.1 hx).1
  obtain ⟨ad, ha, hbl, B, m, d, g0, g1, g2, g3⟩ := hz _ _ hx
  rw [if_neg (by omega), ha]
  have e : (ad.add (0 * 3)).add (j * 3) = ad.add (j * 3) := by rw [Addr.add_add, Nat.zero_mul, Nat.zero_add]
  exact ⟨ad.add (0 * 3), rfl, by rw [addr_block]; exact hbl, B, m, d, by rw [e]; exact g0, by rw [e]; exact g1, by rw [e]; exact g2, g3⟩
 ·cases hx
theorem VList.at_ {w : World} {A : Option Addr} {n c : Nat} {l : List M.Vl} (h : VList w (.slice A n c) l) {k : Nat} {x : M.Vl} (hx : l[k]? = some x) :
 ∃ ad N nn nc, A = some ad ∧ (w.cell? (ad.add (k * 3)) = some (.int .i64 x.1) ∧ w.cell? ⟨(ad.add (k * 3)).block, (ad.add (k * 3)).off + 1, none⟩ = some (.bool x.2.1) ∧ w.cell? ⟨(ad.add (k * 3)).block, (ad.add (k * 3)).off + 2, none⟩ = some (.slice N nn nc)) ∧ IsVl w x (vv x.1 x.2.1 N nn nc) := by
 obtain ⟨ad, N, nn, nc, rfl, c0, c1, c2, hv⟩ := h.get hx
 exact ⟨ad, N, nn, nc, rfl, ⟨c0, c1, c2⟩, N, nn, nc, rfl, hv⟩
set_option maxHeartbeats 4000000 in
theorem indexV_n {f : Nat} {cap : Array Value} {p : M.Vl → Bool} {v : Value} {l : List M.Vl} {w : World} (hcap : cap = #[] ∨ ∃ p0, cap = #[p0]) (hcf : ∀ a w, (callFunc f a).run Tryz.prog w = .ok (.enter f a) w) (h : VList w v l) (hc : ∀ x u w', Ext w w' → IsVl w' x u → Calls Tryz.prog f (#[u] ++ cap) w' (GivesB w' (p x))) :
 Calls Tryz.prog 152 #[v, .func (.func f) #[] cap] w (fun e w' => ∃ z : Int, e = .returned (.int .i64 z) ∧ Hid (decide (0 ≤ z) = l.any p) ∧ Ext w w') := by
 obtain ⟨A, n, c, rfl⟩ := h.shape
 obtain ⟨hn, hl2, hl3⟩ := h.count
 have HR := hid h
 have HN := hid hn.symm
 have HF := hid hc
 have HCAP := hid hcap
 have HCF := hid hcf
 clear h hn hc hcap hcf
 go_enter Tryz.func152, Tryz.ntmps152
 go_wp2_with fail
 go_loopw [8] (fun i wr => ∃ k : Nat, k ≤ n ∧ i = .int .i64 k ∧ Hid ((l.take k).any p = false ∧ Ext w wr)) (fun i _ => n - (intOf i).toNat)
 case atStart => exact ⟨0, Nat.zero_le _, rfl, by simp, Ext.refl _⟩
 case round =>
  obtain ⟨k, hk, rfl, hR⟩ := hrel
  have E := hid hR.out.2
  have HS := hid hR.out.1
  clear hR
  rcases Nat.lt_or_ge k n with hlt | hge
  ·have hlt' : (k : Int) < (n : Int) := by omega
   obtain ⟨x, hx⟩ : ∃ x, l[k]? = some x := ⟨_, List.getElem?_eq_getElem (by rw [HN.out]; exact hlt)⟩
   obtain ⟨ad, N, nn, nc, rfl, ⟨c0, c1, c2⟩, hv⟩ := (HR.out.up E.out).at_ hx
   have HX := hid hx
   have HC := hid (show ∀ w', Ext wr w' → Calls Tryz.prog f (#[vv x.1 x.2.1 N nn nc] ++ cap) w' (GivesB w' (p x)) from fun w' e => HF.out x _ w' (E.out.trans e) (hv.up e))
   obtain ⟨q, hq⟩ : ∃ q, p x = q := ⟨_, rfl⟩
   rw [hq] at HC
   have HQ := hid hq
   have HCL := hid (And.intro c0 (And.intro c1 c2))
   clear hx hq hv c0 c1 c2
   go_upto_region 4 with (fail)
   refine wp_region_S [(0, 0), (1, 0), (2, 0), (3, 0), (4, 0), (5, 1)] fun wd hb => ?_
   replace E := hid (E.out.trans hb)
   replace HC := hid (HC.out _ hb)
   have EB := hid hb
   clear hb
   refine WE.p 11 (.func (.func f) #[] cap) ?_
   simp only [pX]
   refine WE.p 12 (.slice (some ad) n c) ?_
   simp only [pX]
   refine WE.p 13 (.int .i64 (k : Int)) ?_
   simp only [pX]
   refine WE.q 14 (.pointer (some (ad.add (k * 3)))) rfl (fun w' hk => by go_simp) ?_
   simp only [pX]
   refine WE.q 15 (vv x.1 x.2.1 N nn nc) rfl (fun w' hk => by
    have ee := EB.out.trans hk
    have x0 := ee.cell HCL.out.1
    have x1 := ee.cell HCL.out.2.1
    have x2 := ee.cell HCL.out.2.2
    go_simp) ?_
   simp only [pX]
   refine WE.call (d := some 16) (f := f) (args := #[vv x.1 x.2.1 N nn nc] ++ cap) rfl rfl (by rfl) (by rcases HCAP.out with rfl | ⟨p0, rfl⟩ <;> (go_simp; exact HCF.out _ _)) (HC.out.mono ?_)
   rintro e w' ⟨rfl, hb⟩
   refine ⟨_, rfl, hb, ?_⟩
   replace E := hid (E.out.trans hb)
   clear hb HC EB HCL
   simp only [pX]
   refine WE.done ?_
   cases q
   ·go_wp2_with fail
    go_roundw
    case rel => exact ⟨k + 1, by omega, by simp, by rw [M.any_take HX.out, HS.out, HQ.out]; rfl, E.out⟩
    case measure => simp [intOf]; omega
   ·go_wp2
    go_ret
    refine ⟨_, rfl, ?_, E.out⟩
    show decide (0 ≤ (k : Int)) = l.any p
    rw [decide_eq_true (by omega), eq_comm, List.any_eq_true]
    exact ⟨x, List.mem_of_getElem? HX.out, HQ.out⟩
  ·obtain rfl : k = n := by omega
   go_wp2
   go_ret
   refine ⟨_, rfl, ?_, E.out⟩
   have h1 := HS.out
   rw [← HN.out, List.take_length] at h1
   show decide ((0 : Int) ≤ -1) = l.any p
   rw [h1]; rfl
theorem containsV_n {f : Nat} {cap : Array Value} {p : M.Vl → Bool} {v : Value} {l : List M.Vl} {w : World} (hcap : cap = #[] ∨ ∃ p0, cap = #[p0]) (hcf : ∀ a w, (callFunc f a).run Tryz.prog w = .ok (.enter f a) w) (h : VList w v l) (hc : ∀ x u w', Ext w w' → IsVl w' x u → Calls Tryz.prog f (#[u] ++ cap) w' (GivesB w' (p x))) :
 Calls Tryz.prog 122 #[v, .func (.func f) #[] cap] w (GivesB w (l.any p)) := by
 have HC := hid (indexV_n hcap hcf h hc)
 obtain ⟨A, n, c, rfl⟩ := h.shape
 obtain ⟨q, hq⟩ : ∃ q, l.any p = q := ⟨_, rfl⟩
 rw [hq] at HC ⊢
 clear h hc hq hcap hcf
 go_enter Tryz.func122, Tryz.ntmps122
 go_wp2_with fail
 refine HC.out.mono ?_
 rintro e w' ⟨z, rfl, hz, hb⟩
 have HZ := hid hz.out
 have E := hid hb
 clear hz hb HC
 go_wp2
 go_ret
 exact ⟨ret_bool HZ.out, E.out⟩
set_option maxHeartbeats 2000000 in
theorem elder_v {x : M.Vl} {u : Value} {s : Int} {g : Bool} {N : Option Addr} {nn nc k : Nat} {ls : List Nat} {w : World} (h : IsVl w x u) (hb : Box w k #[.int .i64 s, .bool g, .slice N nn nc] 38) (hn : LNum w (.slice N nn nc) ls) :
 Calls Tryz.prog 153 #[u, .pointer (some ⟨k, 0, none⟩)] w (GivesB w (M.vSame x (s, g, ls))) := by
 have HS := hid (show ∀ w', Ext w w' → Calls Tryz.prog 26 #[u, vv s g N nn nc] w' (GivesB w' (M.vSame x (s, g, ls))) from fun w' e => same_v (h.up e) ⟨N, nn, nc, rfl, hn.up e⟩)
 obtain ⟨q, hq⟩ : ∃ q, M.vSame x (s, g, ls) = q := ⟨_, rfl⟩
 rw [hq] at HS ⊢
 obtain ⟨s0, g0, ls0⟩ := x
 obtain ⟨N0, nn0, nc0, rfl, h0⟩ := h
 have HB := hid (Box.up hb (Ext.alloc w (.cells #[.int .i64 s0, .bool g0, .slice N0 nn0 nc0] 38)))
 have HB2 := hid (Box.new w #[.int .i64 s0, .bool g0, .slice N0 nn0 nc0] 38)
 clear hq hb hn h0
 obtain ⟨⟨c0, c1, c2⟩, -, -⟩ := box3v HB.out
 obtain ⟨⟨d0, d1, d2⟩, -, -⟩ := box3v HB2.out
 go_enter Tryz.func153, Tryz.ntmps153
 go_wp2_with fail
 refine (HS.out _ (Ext.alloc w _)).mono ?_
 rintro e w1 ⟨rfl, hx⟩
 have E := hid ((Ext.alloc w _).trans hx)
 clear hx c0 c1 c2 d0 d1 d2 HS HB HB2
 go_wp2
 go_ret
 exact ⟨rfl, E.out⟩
set_option maxHeartbeats 4000000 in
theorem distinct_v {l : List M.Vl} {v : Value} {w : World} (h : VList w v l) : Calls Tryz.prog 123 #[v] w (GivesB w (M.vDist l)) := by
 obtain ⟨A, n, c, rfl⟩ := h.shape
 obtain ⟨hn, hl2, hl3⟩ := h.count
 obtain ⟨R, hRR⟩ : ∃ R, M.vDist l = R := ⟨_, rfl⟩
 rw [hRR]
 have HRR := hid hRR
 have HR := hid h
 have HN := hid hn.symm
 clear h hn hRR
 go_enter Tryz.func123, Tryz.ntmps123
 go_wp2_with fail
 go_loopw [7] (fun i wr => ∃ k : Nat, k ≤ n ∧ i = .int .i64 k ∧ Hid (M.vDist (l.take k) = true ∧ Ext w wr)) (fun i _ => n - (intOf i).toNat)
 case atStart => exact ⟨0, Nat.zero_le _, rfl, by simp [M.vDist], Ext.refl _⟩
 case round =>
  obtain ⟨k, hk, rfl, hR⟩ := hrel
  have E := hid hR.out.2
  have HS := hid hR.out.1
  clear hR
  rcases Nat.lt_or_ge k n with hlt | hge
  ·have hlt' : (k : Int) < (n : Int) := by omega
   obtain ⟨x, hx⟩ : ∃ x, l[k]? = some x := ⟨_, List.getElem?_eq_getElem (by rw [HN.out]; exact hlt)⟩
   obtain ⟨A1, hA1⟩ : ∃ a, (if c = 0 then A else A.map (·.add (0 * 3))) = a := ⟨_, rfl⟩
   have hsl := fun w => show (Instr.slice 63 (.slice A n c) none (some (.int .i64 (k : Int))) none).run Tryz.prog w = .ok (.slice A1 k c) w from hA1 ▸ slice_toV (k := k) (by omega) w
   have HT := hid (show VList w (.slice A1 k c) (l.take k) from hA1 ▸ HR.out.to_ hk)
   obtain ⟨ad, N, nn, nc, hAd, ⟨c0, c1, c2⟩, hv⟩ := (HR.out.up E.out).at_ hx
   clear hA1
   subst hAd
   obtain ⟨N', nn', nc', he', hnum⟩ := hv
   obtain ⟨rfl, rfl, rfl⟩ : N = N' ∧ nn = nn' ∧ nc = nc' := by
    injection he' with he'; simpa using he'
   have HB := hid (Box.new wr #[.int .i64 x.1, .bool x.2.1, .slice N nn nc] 38)
   have EB := hid (Ext.alloc wr (.cells #[.int .i64 x.1, .bool x.2.1, .slice N nn nc] 38))
   obtain ⟨q, hq⟩ : ∃ q, ((l.take k).any fun e => M.vSame e x) = q := ⟨_, rfl⟩
   have HC := hid (show Calls Tryz.prog 122 #[.slice A1 k c, .func (.func 153) #[] #[.pointer (some ⟨wr.heap.size, 0, none⟩)]] (wr.alloc (.cells #[.int .i64 x.1, .bool x.2.1, .slice N nn nc] 38)) (GivesB (wr.alloc (.cells #[.int .i64 x.1, .bool x.2.1, .slice N nn nc] 38)) q) from hq ▸ containsV_n (.inr ⟨_, rfl⟩) (fun a w => by go_simp) (HT.out.up (E.out.trans EB.out)) (fun y u w' e hy => elder_v hy (HB.out.up e) ((hnum.up EB.out).up e)))
   have HX := hid hx
   have HQ := hid hq
   clear hx hq hnum he'
   go_wp2_with fail
   refine HC.out.mono ?_
   rintro e w' ⟨rfl, hb⟩
   replace E := hid ((E.out.trans EB.out).trans hb)
   clear hb c0 c1 c2 HC hsl
   cases q
   ·go_wp2_with fail
    go_roundw
    case rel => exact ⟨k + 1, by omega, by simp, by rw [List.take_add_one, HX.out]; show M.vDist (l.take k ++ [x]) = true; rw [M.vDist_snoc, HS.out, HQ.out]; rfl, E.out⟩
    case measure => simp [intOf]; omega
   ·have HF := hid (show R = false from HRR.out.symm.trans (M.vDist_no HX.out HQ.out))
    go_wp2
    go_ret
    exact ⟨by rw [HF.out]; rfl, E.out⟩
  ·obtain rfl : k = n := by omega
   have HF := hid (show R = true by have h1 := HS.out; rw [← HN.out, List.take_length] at h1; exact HRR.out.symm.trans h1)
   go_wp2
   go_ret
   exact ⟨by rw [HF.out]; rfl, E.out⟩
theorem M.mComp_zcmp {op : Int} (h : op = 19 ∨ op = 20 ∨ op = 21 ∨ op = 22) (x y : M.Vl) : M.mComp op (M.zcmp (M.cz x) (M.cz y)) = M.mTold op [x, y] := by
 have hs : (M.cz x < M.cz y ∧ M.zcmp (M.cz x) (M.cz y) = -1) ∨ (M.cz x = M.cz y ∧ M.zcmp (M.cz x) (M.cz y) = 0) ∨ (M.cz y < M.cz x ∧ M.zcmp (M.cz x) (M.cz y) = 1) := by
  rcases Int.lt_trichotomy (M.cz x) (M.cz y) with h | h | h
  ·exact .inl ⟨h, M.zcmp_lt h⟩
  ·exact .inr (.inl ⟨h, M.zcmp_same h⟩)
  ·exact .inr (.inr ⟨h, M.zcmp_gt h⟩)
 have e : M.mTold op [x, y] = if op = 19 then decide (M.cz x ≤ M.cz y) else if op = 20 then decide (M.cz x < M.cz y) else if op = 21 then decide (M.cz y ≤ M.cz x) else decide (M.cz y < M.cz x) := by
  rcases h with rfl | rfl | rfl | rfl <;> rfl
 rw [e]
 generalize M.cz x = X at *
 generalize M.cz y = Y at *
 unfold M.mComp
 rcases hs with ⟨h1, h2⟩ | ⟨h1, h2⟩ | ⟨h1, h2⟩ <;> rw [h2] <;> rcases h with rfl | rfl | rfl | rfl <;> simp <;> omega
theorem M.all_not_any (l : List M.Vl) : (!l.any fun x => !M.vHolds x) = l.all M.vHolds := by
 induction l with
 | nil => rfl
 | cons x r ih => rw [List.any_cons, List.all_cons, ← ih]; cases M.vHolds x <;> cases (r.any fun x => !M.vHolds x) <;> rfl
set_option maxHeartbeats 8000000 in
theorem told_v {l : List M.Vl} {op : Int} {v : Value} {w : World} (h : VList w v l)
 (hop : (op = 5 ∧ ∃ x, l = [x]) ∨ op = 6 ∨ op = 7 ∨ op = 8 ∨ op = 11 ∨ (op = 9 ∧ ∃ x y, l = [x, y]) ∨ (op = 10 ∧ ∃ x y, l = [x, y]) ∨ ((op = 19 ∨ op = 20 ∨ op = 21 ∨ op = 22) ∧ ∃ x y, l = [x, y])) :
 Calls Tryz.prog 98 #[.int .i64 op, v] w (GivesB w (M.mTold op l)) := by
 obtain ⟨A, n, c, rfl⟩ := h.shape
 obtain ⟨hn, hl2, hl3⟩ := h.count
 obtain ⟨R, hRR⟩ : ∃ R, M.mTold op l = R := ⟨_, rfl⟩
 rw [hRR]
 have HR := hid hRR
 clear hRR
 have CF := fun a w => show (callFunc 121 a).run Tryz.prog w = .ok (.enter 121 a) w from by go_simp
 have CH := fun a w => show (callFunc 115 a).run Tryz.prog w = .ok (.enter 115 a) w from by go_simp
 rcases hop with ⟨rfl, x, rfl⟩ | rfl | rfl | rfl | rfl | ⟨rfl, x, y, rfl⟩ | ⟨rfl, x, y, rfl⟩ | ⟨hop, x, y, rfl⟩
 ·obtain rfl : n = 1 := hn
  obtain ⟨ad, N, nn, nc, rfl, ⟨c0, c1, c2⟩, hx⟩ := h.at0 (x := x) rfl
  have HC := hid (show Calls Tryz.prog 121 #[vv x.1 x.2.1 N nn nc] w (GivesB w (!M.vHolds x)) from fails_v ⟨N, nn, nc, rfl, hx⟩)
  obtain ⟨q, hq⟩ : ∃ q, M.vHolds x = q := ⟨_, rfl⟩
  have HE := hid (show R = !q by rw [← HR.out, ← hq]; rfl)
  rw [hq] at HC
  clear h CF CH HR hx hq
  go_enter Tryz.func98, Tryz.ntmps98
  go_wp2_with fail
  refine HC.out.mono ?_
  rintro e w1 ⟨rfl, hb⟩
  have E := hid hb
  clear hb c0 c1 c2 HC
  go_wp2
  go_ret
  exact ⟨by rw [HE.out]; rfl, E.out⟩
 ·have HC := hid (containsV_n (f := 121) (cap := #[]) (p := fun x => !M.vHolds x) (.inl rfl) CF h (fun x u w' e hu => fails_v hu))
  obtain ⟨q, hq⟩ : ∃ q, (l.any fun x => !M.vHolds x) = q := ⟨_, rfl⟩
  have HE := hid (show R = !q by rw [← HR.out, ← hq, M.all_not_any]; rfl)
  rw [hq] at HC
  clear h hn CF CH HR hq
  go_enter Tryz.func98, Tryz.ntmps98
  go_wp2_with fail
  refine HC.out.mono ?_
  rintro e w1 ⟨rfl, hb⟩
  have E := hid hb
  clear hb HC
  go_wp2
  go_ret
  exact ⟨by rw [HE.out]; rfl, E.out⟩
 ·have HC := hid (containsV_n (f := 115) (cap := #[]) (p := M.vHolds) (.inl rfl) CH h (fun x u w' e hu => holds_v hu))
  obtain ⟨q, hq⟩ : ∃ q, l.any M.vHolds = q := ⟨_, rfl⟩
  have HE := hid (show R = q by rw [← HR.out, ← hq]; rfl)
  rw [hq] at HC
  clear h hn CF CH HR hq
  go_enter Tryz.func98, Tryz.ntmps98
  go_wp2_with fail
  refine HC.out.mono ?_
  rintro e w1 ⟨rfl, hb⟩
  have E := hid hb
  clear hb HC
  go_wp2
  go_ret
  exact ⟨by rw [HE.out]; rfl, E.out⟩
 ·have HC := hid (distinct_v h)
  obtain ⟨q, hq⟩ : ∃ q, M.vDist l = q := ⟨_, rfl⟩
  have HE := hid (show R = q by rw [← HR.out, ← hq]; rfl)
  rw [hq] at HC
  clear h hn CF CH HR hq
  go_enter Tryz.func98, Tryz.ntmps98
  go_wp2_with fail
  refine HC.out.mono ?_
  rintro e w1 ⟨rfl, hb⟩
  have E := hid hb
  clear hb HC
  go_wp2
  go_ret
  exact ⟨by rw [HE.out]; rfl, E.out⟩
 ·have HC := hid (distinct_v h)
  obtain ⟨q, hq⟩ : ∃ q, M.vDist l = q := ⟨_, rfl⟩
  have HE := hid (show R = q by rw [← HR.out, ← hq]; rfl)
  rw [hq] at HC
  clear h hn CF CH HR hq
  go_enter Tryz.func98, Tryz.ntmps98
  go_wp2_with fail
  refine HC.out.mono ?_
  rintro e w1 ⟨rfl, hb⟩
  have E := hid hb
  clear hb HC
  go_wp2
  go_ret
  exact ⟨by rw [HE.out]; rfl, E.out⟩
 ·obtain rfl : n = 2 := hn
  obtain ⟨ad, N, nn, nc, rfl, ⟨c0, c1, c2⟩, hx⟩ := h.at0 (x := x) rfl
  obtain ⟨N', nn', nc', ⟨d0, d1, d2⟩, hy⟩ := h.at1 (k := 1) (m := 3) rfl (by decide) (x := y) rfl
  have HC := hid (show Calls Tryz.prog 121 #[vv x.1 x.2.1 N nn nc] w (GivesB w (!M.vHolds x)) from fails_v ⟨N, nn, nc, rfl, hx⟩)
  have HC2 := hid (show ∀ w', Ext w w' → Calls Tryz.prog 115 #[vv y.1 y.2.1 N' nn' nc'] w' (GivesB w' (M.vHolds y)) from fun w' e => holds_v ⟨N', nn', nc', rfl, LNum.up hy e⟩)
  obtain ⟨q, hq⟩ : ∃ q, M.vHolds x = q := ⟨_, rfl⟩
  obtain ⟨q2, hq2⟩ : ∃ q, M.vHolds y = q := ⟨_, rfl⟩
  have HE := hid (show R = (!q || q2) by rw [← HR.out, ← hq, ← hq2]; rfl)
  rw [hq] at HC
  rw [hq2] at HC2
  have HD := hid (And.intro d0 (And.intro d1 d2))
  clear h CF CH HR hx hy hq hq2 d0 d1 d2
  go_enter Tryz.func98, Tryz.ntmps98
  cases q
  ·go_wp2_with fail
   refine HC.out.mono ?_
   rintro e w1 ⟨rfl, hb⟩
   have E := hid hb
   clear hb c0 c1 c2 HC HC2
   go_wp2
   go_ret
   exact ⟨by rw [HE.out]; rfl, E.out⟩
  ·go_wp2_with fail
   refine HC.out.mono ?_
   rintro e w1 ⟨rfl, hb⟩
   have E := hid hb
   have x0 := hb.cell HD.out.1
   have x1 := hb.cell HD.out.2.1
   have x2 := hb.cell HD.out.2.2
   clear hb c0 c1 c2 HC
   go_wp2_with fail
   refine (HC2.out _ E.out).mono ?_
   rintro e w2 ⟨rfl, hb⟩
   have E2 := hid (E.out.trans hb)
   clear hb x0 x1 x2 HC2
   go_wp2
   go_ret
   exact ⟨by rw [HE.out]; rfl, E2.out⟩
 ·obtain rfl : n = 2 := hn
  obtain ⟨ad, N, nn, nc, rfl, ⟨c0, c1, c2⟩, hx⟩ := h.at0 (x := x) rfl
  obtain ⟨N', nn', nc', ⟨d0, d1, d2⟩, hy⟩ := h.at1 (k := 1) (m := 3) rfl (by decide) (x := y) rfl
  have HC := hid (show ∀ w', Ext w w' → Calls Tryz.prog 26 #[vv x.1 x.2.1 N nn nc, vv y.1 y.2.1 N' nn' nc'] w' (GivesB w' (M.vSame x y)) from fun w' e => same_v ⟨N, nn, nc, rfl, LNum.up hx e⟩ ⟨N', nn', nc', rfl, LNum.up hy e⟩)
  obtain ⟨q, hq⟩ : ∃ q, M.vSame x y = q := ⟨_, rfl⟩
  have HE := hid (show R = q by rw [← HR.out, ← hq]; rfl)
  rw [hq] at HC
  have HD := hid (And.intro (And.intro c0 (And.intro c1 c2)) (And.intro d0 (And.intro d1 d2)))
  clear h CF CH HR hx hy hq c0 c1 c2 d0 d1 d2
  go_enter Tryz.func98, Tryz.ntmps98
  go_upto_region 11 with (fail)
  refine wp_region_D [(0, 0), (1, 0), (2, 0), (3, 0), (4, 0), (5, 0), (6, 1), (7, 0)] fun wd hb => ?_
  have E := hid hb
  clear hb
  refine WE.p 35 (.slice (some ad) 2 c) ?_
  simp only [pX]
  refine WE.q 36 (.pointer (some ad)) rfl (fun w' hk => by go_simp) ?_
  simp only [pX]
  refine WE.q 37 (vv x.1 x.2.1 N nn nc) rfl (fun w' hk => by
   have ee := E.out.trans hk
   have x0 := ee.cell HD.out.1.1
   have x1 := ee.cell HD.out.1.2.1
   have x2 := ee.cell HD.out.1.2.2
   go_simp) ?_
  simp only [pX]
  refine WE.p 38 (.slice (some ad) 2 c) ?_
  simp only [pX]
  refine WE.q 39 (.pointer (some ⟨ad.block, ad.off + 3, none⟩)) rfl (fun w' hk => by go_simp) ?_
  simp only [pX]
  refine WE.q 40 (vv y.1 y.2.1 N' nn' nc') rfl (fun w' hk => by
   have ee := E.out.trans hk
   have x0 := ee.cell HD.out.2.1
   have x1 := ee.cell HD.out.2.2.1
   have x2 := ee.cell HD.out.2.2.2
   go_simp) ?_
  simp only [pX]
  refine WE.c 41 ((HC.out _ E.out).mono ?_)
  rintro e w1 ⟨rfl, hb⟩
  refine ⟨_, rfl, hb, ?_⟩
  replace E := hid (E.out.trans hb)
  clear hb HC
  simp only [pX]
  refine WE.p 4 (.bool q) ?_
  simp only [pX]
  refine WE.done ?_
  go_wp2
  go_ret
  exact ⟨by rw [HE.out]; rfl, E.out⟩
 ·obtain rfl : n = 2 := hn
  obtain ⟨ad, N, nn, nc, rfl, ⟨c0, c1, c2⟩, hx⟩ := h.at0 (x := x) rfl
  obtain ⟨N', nn', nc', ⟨d0, d1, d2⟩, hy⟩ := h.at1 (k := 1) (m := 3) rfl (by decide) (x := y) rfl
  obtain ⟨z, hz⟩ : ∃ z, M.zcmp (M.cz x) (M.cz y) = z := ⟨_, rfl⟩
  have HC := hid (show ∀ w', Ext w w' → Calls Tryz.prog 81 #[.agg #[.bool x.2.1, .slice N nn nc], .agg #[.bool y.2.1, .slice N' nn' nc']] w' (fun e w'' => e = .returned (.int .i64 z) ∧ Ext w' w'') from fun w' e =>
   cmp_w (worth_up (worth_tm (g := x.2.1) hx) e) (worth_up (worth_tm (g := y.2.1) hy) e) hz)
  have HQ := hid (show ∀ w', Calls Tryz.prog 124 #[.int .i64 op, .int .i64 z] w' (GivesB w' R) from fun w' => by
   rw [← HR.out, ← M.mComp_zcmp hop, hz]
   exact compared_v op z w')
  have b5 : (op == 5) = false := by rcases hop with rfl | rfl | rfl | rfl <;> rfl
  have b6 : (op == 6) = false := by rcases hop with rfl | rfl | rfl | rfl <;> rfl
  have b7 : (op == 7) = false := by rcases hop with rfl | rfl | rfl | rfl <;> rfl
  have b8 : (op == 8) = false := by rcases hop with rfl | rfl | rfl | rfl <;> rfl
  have b9 : (op == 9) = false := by rcases hop with rfl | rfl | rfl | rfl <;> rfl
  have b10 : (op == 10) = false := by rcases hop with rfl | rfl | rfl | rfl <;> rfl
  have b11 : (op == 11) = false := by rcases hop with rfl | rfl | rfl | rfl <;> rfl
  have HD := hid (And.intro (And.intro c0 (And.intro c1 c2)) (And.intro d0 (And.intro d1 d2)))
  clear h CF CH HR hx hy hz hop c0 c1 c2 d0 d1 d2
  go_enter Tryz.func98, Tryz.ntmps98
  go_upto_region 15 with (fail)
  clear b5 b6 b7 b8 b9 b10 b11
  refine wp_region_D [(0, 0), (1, 0), (2, 0), (3, 0), (4, 0), (5, 0), (6, 0), (7, 0), (8, 0), (9, 1), (10, 1), (11, 0)] fun wd hb => ?_
  have E := hid hb
  clear hb
  refine WE.p 47 (.int .i64 op) ?_
  simp only [pX]
  refine WE.p 48 (.slice (some ad) 2 c) ?_
  simp only [pX]
  refine WE.q 49 (.pointer (some ad)) rfl (fun w' hk => by go_simp) ?_
  simp only [pX]
  refine WE.q 50 (.pointer (some ⟨ad.block, ad.off + 1, none⟩)) rfl (fun w' hk => by go_simp) ?_
  simp only [pX]
  refine WE.q 51 (.agg #[.bool x.2.1, .slice N nn nc]) rfl (fun w' hk => by
   have ee := E.out.trans hk
   have x1 := ee.cell HD.out.1.2.1
   have x2 := ee.cell HD.out.1.2.2
   go_simp) ?_
  simp only [pX]
  refine WE.p 52 (.slice (some ad) 2 c) ?_
  simp only [pX]
  refine WE.q 53 (.pointer (some ⟨ad.block, ad.off + 3, none⟩)) rfl (fun w' hk => by go_simp) ?_
  simp only [pX]
  refine WE.q 54 (.pointer (some ⟨ad.block, ad.off + 3 + 1, none⟩)) rfl (fun w' hk => by go_simp) ?_
  simp only [pX]
  refine WE.q 55 (.agg #[.bool y.2.1, .slice N' nn' nc']) rfl (fun w' hk => by
   have ee := E.out.trans hk
   have x1 := ee.cell HD.out.2.2.1
   have x2 := ee.cell HD.out.2.2.2
   go_simp) ?_
  simp only [pX]
  refine WE.c 56 ((HC.out _ E.out).mono ?_)
  rintro e w1 ⟨rfl, hb⟩
  refine ⟨_, rfl, hb, ?_⟩
  replace E := hid (E.out.trans hb)
  clear hb HC
  simp only [pX]
  refine WE.c 57 ((HQ.out _).mono ?_)
  rintro e w2 ⟨rfl, hb⟩
  refine ⟨_, rfl, hb, ?_⟩
  replace E := hid (E.out.trans hb)
  clear hb HQ
  simp only [pX]
  refine WE.p 4 (.bool R) ?_
  simp only [pX]
  refine WE.done ?_
  go_wp2
  go_ret
  exact ⟨rfl, E.out⟩
end Go.Proofs.YtkhmgdfhggejaaaGreatDoor.Q
