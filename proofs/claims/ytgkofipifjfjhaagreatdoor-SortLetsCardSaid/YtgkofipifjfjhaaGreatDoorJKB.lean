/-
  Layer 10, the reference: the same integer, the same term.
-/
import Derived.Test.YtgkofipifjfjhaaGreatDoorJKA
import Derived.Test.YtgkofipifjfjhaaGreatDoorJA
import Derived.Test.YtgkofipifjfjhaaGreatDoorJQH
import Derived.Test.YtgkofipifjfjhaaGreatDoorJRZ
namespace Go.Proofs.YtgkofipifjfjhaaGreatDoor.Q
set_option linter.unusedSimpArgs false
set_option linter.unusedVariables false
open Go.RowKit

theorem requal_n {w : World} {g g' : Bool} {A A' : Option Addr} {n c n' c' : Nat} {ls ls' : List Nat} (h : LNum w (.slice A n c) ls) (h' : LNum w (.slice A' n' c') ls') : Calls Tryz.prog 44 #[.agg #[.bool g, .slice A n c], .agg #[.bool g', .slice A' n' c']] w (GivesB w (decide (g = g' ∧ ls = ls'))) := by
 by_cases hg : g = g'
 case neg =>
  have hr : decide (g = g' ∧ ls = ls') = false := by simp [hg]
  rw [hr]
  have hb : (g == g') = false := by simpa using hg
  clear h h' hr hg
  go_enter Tryz.func44, Tryz.ntmps44
  go_wp2
  go_ret
  exact ⟨rfl, (Ext.alloc w _).alloc' _⟩
 case pos =>
  subst hg
  obtain ⟨q, hq⟩ : ∃ q, decide (ls = ls') = q := ⟨_, rfl⟩
  have hr : decide (g = g ∧ ls = ls') = q := by rw [← hq]; simp
  rw [hr]
  have H := hid (show ∀ w', Ext w w' → Calls Tryz.prog 88 #[.slice A n c, .slice A' n' c'] w' (fun e w'' => e = .returned (.bool q) ∧ ∃ k, w'' = w'.drewN k) from fun w' e => by
   have := same_any w' _ _ _ _ (h.up e) (h'.up e)
   rwa [hq] at this)
  clear h h' hr hq
  go_enter Tryz.func44, Tryz.ntmps44
  go_wp2_with fail
  refine (H.out _ ((Ext.alloc w _).alloc' _)).mono ?_
  rintro e w' ⟨rfl, k, rfl⟩
  go_wp2_with fail
  go_ret
  exact ⟨by cases g <;> rfl, ((Ext.alloc w _).alloc' _).drewN' k⟩
theorem box66 {w wN : World} {x0 x1 x2 x3 x4 x5 y0 y1 y2 y3 y4 y5 : Value} {T T' : TypeId} (h : Ext ((w.alloc (.cells #[x0, x1, x2, x3, x4, x5] T)).alloc (.cells #[y0, y1, y2, y3, y4, y5] T')) wN) :
 (wN.cell? ⟨w.heap.size, 0, none⟩ = some x0 ∧ wN.cell? ⟨w.heap.size, 1, none⟩ = some x1 ∧ wN.cell? ⟨w.heap.size, 2, none⟩ = some x2 ∧ wN.cell? ⟨w.heap.size, 3, none⟩ = some x3 ∧ wN.cell? ⟨w.heap.size, 4, none⟩ = some x4 ∧ wN.cell? ⟨w.heap.size, 5, none⟩ = some x5) ∧
 (wN.cell? ⟨w.heap.size + 1, 0, none⟩ = some y0 ∧ wN.cell? ⟨w.heap.size + 1, 1, none⟩ = some y1 ∧ wN.cell? ⟨w.heap.size + 1, 2, none⟩ = some y2 ∧ wN.cell? ⟨w.heap.size + 1, 3, none⟩ = some y3 ∧ wN.cell? ⟨w.heap.size + 1, 4, none⟩ = some y4 ∧ wN.cell? ⟨w.heap.size + 1, 5, none⟩ = some y5) := by
 have h1 := (Box.new w #[x0, x1, x2, x3, x4, x5] T).alloc (.cells #[y0, y1, y2, y3, y4, y5] T')
 have h2 := Box.at_ (w := w.alloc (.cells #[x0, x1, x2, x3, x4, x5] T)) (g := w.heap.size + 1) #[y0, y1, y2, y3, y4, y5] T' (by simp)
 replace h1 := h1.up h
 replace h2 := h2.up h
 exact ⟨⟨h1.k 0, h1.k 1, h1.k 2, h1.k 3, h1.k 4, h1.k 5⟩, h2.k 0, h2.k 1, h2.k 2, h2.k 3, h2.k 4, h2.k 5⟩
abbrev kboxed2 (w : World) (op : Int) (g : Bool) (N : Option Addr) (nn nc : Nat) (nm : List UInt8) (s : Int) (A : Option Addr) (n c : Nat) (op' : Int) (g' : Bool) (N' : Option Addr) (nn' nc' : Nat) (nm' : List UInt8) (s' : Int) (A' : Option Addr) (n' c' : Nat) : World :=
 (kboxed w op g N nn nc nm s A n c).alloc (.cells #[.int .i64 op', .bool g', .slice N' nn' nc', str nm', .int .i64 s', .slice A' n' c'] 33)
theorem alloc_two (w : World) (o o' : Obj) : Ext w ((w.alloc o).alloc o') := (Ext.alloc w _).alloc' _
set_option maxHeartbeats 8000000 in
set_option maxRecDepth 100000 in
theorem rkSame_n (t : M.Tm) : ∀ {t' : M.Tm} {v v' : Value} {w : World}, IsTm w t v → IsTm w t' v' → Calls Tryz.prog 20 #[v, v'] w (GivesB w (M.ksame t t')) := by
 refine M.Tm.indA (P := fun t => ∀ {t' : M.Tm} {v v' : Value} {w : World}, IsTm w t v → IsTm w t' v' → Calls Tryz.prog 20 #[v, v'] w (GivesB w (M.ksame t t'))) (fun op g ls nm so ks ih t' v v' w h h' => ?_) t
 obtain ⟨op', g', ls', nm', so', ks'⟩ := t'
 obtain ⟨N, nn, nc, A, c, rfl, hn, hk⟩ := h
 obtain ⟨N', nn', nc', A', c', rfl, hn', hk'⟩ := h'
 replace hk : Tms w ks (.slice A ks.length c) := hk
 replace hk' : Tms w ks' (.slice A' ks'.length c') := hk'
 replace hn : LNum w (.slice N nn nc) ls := hn
 replace hn' : LNum w (.slice N' nn' nc') ls' := hn'
 show Calls Tryz.prog 20 #[kv op g N nn nc nm so A ks.length c, kv op' g' N' nn' nc' nm' so' A' ks'.length c'] w _
 obtain ⟨hl1, hl2, hl3⟩ := hk.le
 obtain ⟨hm1, hm2, hm3⟩ := hk'.le
 obtain ⟨n, hnn⟩ : ∃ n, ks.length = n := ⟨_, rfl⟩
 obtain ⟨n', hnn'⟩ : ∃ n', ks'.length = n' := ⟨_, rfl⟩
 obtain ⟨z, hz⟩ : ∃ z, M.ksame (.mk op g ls nm so ks) (.mk op' g' ls' nm' so' ks') = z := ⟨_, rfl⟩
 obtain ⟨p, hp⟩ : ∃ p, decide (g = g' ∧ ls = ls') = p := ⟨_, rfl⟩
 have hz' : z = (decide (op = op') && (p && (decide (nm = nm') && (decide (so = so') && (decide (n = n') && M.ksames ks ks'))))) := by rw [← hz, M.ksame, ← hnn, ← hnn', ← hp]; rfl
 have HE := hid (show ∀ w', Ext w w' → Calls Tryz.prog 44 #[.agg #[.bool g, .slice N nn nc], .agg #[.bool g', .slice N' nn' nc']] w' (GivesB w' p) from fun w' e => by
  have := requal_n (g := g) (g' := g') (hn.up e) (hn'.up e)
  rwa [hp] at this)
 rw [hz]
 rw [hnn] at hk hl2 ⊢
 rw [hnn'] at hk' hm2 ⊢
 have HN := hid hnn
 clear hl1 hz hnn hm1 hnn' hn hn' hp
 by_cases hop : op = op'
 case neg =>
  have HZ := hid (show false = z by rw [hz', decide_eq_false hop]; rfl)
  clear hk ih hz' hk' HE
  go_enter Tryz.func20, Tryz.ntmps20
  go_wp2
  go_ret
  obtain rfl := HZ.out
  exact ⟨rfl, (Ext.alloc w _).alloc' _⟩
 case pos =>
 subst hop
 rw [decide_eq_true rfl, Bool.true_and] at hz'
 cases p
 ·have HZ := hid (show false = z by rw [hz']; rfl)
  clear hk ih hz' hk'
  go_enter Tryz.func20, Tryz.ntmps20
  go_wp2_with fail
  refine (HE.out _ (alloc_two w _ _)).mono ?_
  rintro e w1 ⟨rfl, hb⟩
  have E := hid ((alloc_two w _ _).trans hb)
  obtain ⟨⟨b0, b1, b2, b3, b4, b5⟩, d0, d1, d2, d3, d4, d5⟩ := box66 hb
  clear hb
  go_wp2_with fail
  go_ret
  obtain rfl := HZ.out
  exact ⟨rfl, E.out⟩
 rw [Bool.true_and] at hz'
 have hstep : (decide (nm = nm') && (decide (so = so') && decide (n = n'))) = false ∨ (nm = nm' ∧ so = so' ∧ n = n') := by
  by_cases h1 : nm = nm'
  ·by_cases h2 : so = so'
   ·by_cases h3 : n = n'
    ·exact .inr ⟨h1, h2, h3⟩
    ·exact .inl (by simp [h3])
   ·exact .inl (by simp [h2])
  ·exact .inl (by simp [h1])
 rcases hstep with hs | ⟨rfl, rfl, rfl⟩
 ·have HZ := hid (show false = z by
   rw [hz', ← Bool.and_assoc (decide (so = so')), ← Bool.and_assoc (decide (nm = nm')), hs]; rfl)
  clear hk ih hz' hk'
  go_enter Tryz.func20, Tryz.ntmps20
  go_wp2_with fail
  refine (HE.out _ (alloc_two w _ _)).mono ?_
  rintro e w1 ⟨rfl, hb⟩
  have E := hid ((alloc_two w _ _).trans hb)
  obtain ⟨⟨b0, b1, b2, b3, b4, b5⟩, d0, d1, d2, d3, d4, d5⟩ := box66 hb
  clear hb
  by_cases h1 : nm = nm'
  ·subst h1
   by_cases h2 : so = so'
   ·subst h2
    have h3 : ((n : Int) == (n' : Int)) = false := by
     rcases hq : ((n : Int) == (n' : Int)) with _ | _
     ·rfl
     ·have h4 : (n : Int) = (n' : Int) := by simpa using hq
      have h5 : n = n' := by omega
      rw [h5] at hs; simp at hs
    clear hs
    go_wp2_with fail
    go_ret
    obtain rfl := HZ.out
    exact ⟨rfl, E.out⟩
   ·clear hs
    go_wp2_with fail
    go_ret
    obtain rfl := HZ.out
    exact ⟨rfl, E.out⟩
  ·clear hs
   go_wp2_with fail
   go_ret
   obtain rfl := HZ.out
   exact ⟨rfl, E.out⟩
 have HZ := hid (show z = M.ksames ks ks' by rw [hz', decide_eq_true rfl, decide_eq_true rfl, decide_eq_true rfl, Bool.true_and, Bool.true_and, Bool.true_and])
 have HK := hid hk
 have HK' := hid hk'
 have IH := @hid _ @ih
 clear hk ih hz' hk'
 go_enter Tryz.func20, Tryz.ntmps20
 go_wp2_with fail
 refine (HE.out _ (alloc_two w _ _)).mono ?_
 rintro e w1 ⟨rfl, hb⟩
 have E0 := hid hb
 obtain ⟨⟨b0, b1, b2, b3, b4, b5⟩, d0, d1, d2, d3, d4, d5⟩ := box66 hb
 clear hb
 go_wp2_with fail
 clear b0 b1 b2 b3 b4 b5 d0 d1 d2 d3 d4 d5
 go_loopw [5] (fun i wr => ∃ (k : Nat), i = .int .i64 (k : Int) ∧ k ≤ n ∧ Hid (M.ksames (ks.take k) ks' = true ∧ Ext (kboxed2 w op g N nn nc nm so A n c op g' N' nn' nc' nm so A' n c') wr)) (fun i _ => n - (intOf i).toNat)
 case atStart => exact ⟨0, rfl, Nat.zero_le _, by simp [M.ksames], E0.out⟩
 case round =>
  obtain ⟨k, rfl, hk, hR⟩ := hrel
  have E := hid hR.out.2
  obtain ⟨⟨b0, b1, b2, b3, b4, b5⟩, d0, d1, d2, d3, d4, d5⟩ := box66 E.out
  have hz1 : w.heap.size + 1 < wr.heap.size := by have := E.out.size; simp at this; omega
  have HS := hid hR.out.1
  clear hR
  rcases Nat.lt_or_ge k n with hlt | hge
  ·have hlt' : (k : Int) < (n : Int) := by omega
   obtain ⟨ad, u, N2, nn2, nc2, B, d, rfl, hu, ⟨c0, c1, c2, c3, c4, c5⟩, hv⟩ := (HK.out.up ((alloc_two w _ _).trans E.out)).get hlt
   obtain ⟨ad', u', N3, nn3, nc3, B', d', rfl, hu', ⟨e0, e1, e2, e3, e4, e5⟩, hv'⟩ := (HK'.out.up ((alloc_two w _ _).trans E.out)).get hlt
   have HU := hid hu
   have HU' := hid hu'
   have HV := hid hv
   have HV' := hid hv'
   have HC := hid (fun (w' : World) (e : Ext wr w') => IH.out k u HU.out (HV.out.up e) (HV'.out.up e))
   obtain ⟨q, hq⟩ : ∃ q, M.ksame u u' = q := ⟨_, rfl⟩
   have HQ := hid hq
   rw [hq] at HC
   clear hu hv hu' hv' hq
   go_wp2_with fail
   cases q
   ·refine wp_region_D [(0, 0), (1, 0), (2, 0), (3, 0), (4, 0), (5, 0), (6, 0), (7, 0), (8, 0), (9, 0), (10, 1), (11, 0)] fun wd hb => ?_
    have E6 := hid hb
    replace b5 := hb.cell b5
    replace d5 := hb.cell d5
    replace c0 := hb.cell c0
    replace c1 := hb.cell c1
    replace c2 := hb.cell c2
    replace c3 := hb.cell c3
    replace c4 := hb.cell c4
    replace c5 := hb.cell c5
    replace e0 := hb.cell e0
    replace e1 := hb.cell e1
    replace e2 := hb.cell e2
    replace e3 := hb.cell e3
    replace e4 := hb.cell e4
    replace e5 := hb.cell e5
    clear hb
    refine WE.p 49 (.pointer (some ⟨w.heap.size, 5, none⟩)) ?_
    simp only [Act.put, pA, pB, pC]
    refine WE.q 50 (.slice (some ad) n c) rfl (fun w' hk => by have ce := hk.cell b5; go_simp) ?_
    simp only [Act.put, pA, pB, pC]
    refine WE.p 51 (.int .i64 (k : Int)) ?_
    simp only [Act.put, pA, pB, pC]
    refine WE.p 52 (.pointer (some (ad.add (k * 6)))) ?_
    simp only [Act.put, pA, pB, pC]
    refine WE.q 53 (kv u.op u.g N2 nn2 nc2 u.name u.sort B u.kids.length d) rfl (fun w' hk => by have x0 := hk.cell c0; have x1 := hk.cell c1; have x2 := hk.cell c2; have x3 := hk.cell c3; have x4 := hk.cell c4; have x5 := hk.cell c5; go_simp) ?_
    simp only [Act.put, pA, pB, pC]
    refine WE.p 54 (.pointer (some ⟨w.heap.size + 1, 5, none⟩)) ?_
    simp only [Act.put, pA, pB, pC]
    refine WE.q 55 (.slice (some ad') n c') rfl (fun w' hk => by have ce := hk.cell d5; go_simp) ?_
    simp only [Act.put, pA, pB, pC]
    refine WE.p 56 (.int .i64 (k : Int)) ?_
    simp only [Act.put, pA, pB, pC]
    refine WE.p 57 (.pointer (some (ad'.add (k * 6)))) ?_
    simp only [Act.put, pA, pB, pC]
    refine WE.q 58 (kv u'.op u'.g N3 nn3 nc3 u'.name u'.sort B' u'.kids.length d') rfl (fun w' hk => by have x0 := hk.cell e0; have x1 := hk.cell e1; have x2 := hk.cell e2; have x3 := hk.cell e3; have x4 := hk.cell e4; have x5 := hk.cell e5; go_simp) ?_
    simp only [Act.put, pA, pB, pC]
    refine WE.c 59 ((HC.out _ E6.out).mono ?_)
    rintro e w6 ⟨rfl, hb6⟩
    refine ⟨_, rfl, hb6, ?_⟩
    replace E6 := hid (E6.out.trans hb6)
    clear hb6
    simp only [Act.put, pA, pB, pC]
    refine WE.p 60 (.bool true) ?_
    simp only [Act.put, pA, pB, pC]
    refine WE.done ?_
    go_wp2_with fail
    go_ret
    obtain rfl : false = z := by rw [HZ.out, M.not_ksames HU.out HU'.out HQ.out]
    exact ⟨rfl, ((Ext.alloc w _).alloc' _).trans (E.out.trans E6.out)⟩
   ·refine wp_region_D [(0, 0), (1, 0), (2, 0), (3, 0), (4, 0), (5, 0), (6, 0), (7, 0), (8, 0), (9, 0), (10, 1), (11, 0)] fun wd hb => ?_
    have E6 := hid hb
    replace b5 := hb.cell b5
    replace d5 := hb.cell d5
    replace c0 := hb.cell c0
    replace c1 := hb.cell c1
    replace c2 := hb.cell c2
    replace c3 := hb.cell c3
    replace c4 := hb.cell c4
    replace c5 := hb.cell c5
    replace e0 := hb.cell e0
    replace e1 := hb.cell e1
    replace e2 := hb.cell e2
    replace e3 := hb.cell e3
    replace e4 := hb.cell e4
    replace e5 := hb.cell e5
    clear hb
    refine WE.p 49 (.pointer (some ⟨w.heap.size, 5, none⟩)) ?_
    simp only [Act.put, pA, pB, pC]
    refine WE.q 50 (.slice (some ad) n c) rfl (fun w' hk => by have ce := hk.cell b5; go_simp) ?_
    simp only [Act.put, pA, pB, pC]
    refine WE.p 51 (.int .i64 (k : Int)) ?_
    simp only [Act.put, pA, pB, pC]
    refine WE.p 52 (.pointer (some (ad.add (k * 6)))) ?_
    simp only [Act.put, pA, pB, pC]
    refine WE.q 53 (kv u.op u.g N2 nn2 nc2 u.name u.sort B u.kids.length d) rfl (fun w' hk => by have x0 := hk.cell c0; have x1 := hk.cell c1; have x2 := hk.cell c2; have x3 := hk.cell c3; have x4 := hk.cell c4; have x5 := hk.cell c5; go_simp) ?_
    simp only [Act.put, pA, pB, pC]
    refine WE.p 54 (.pointer (some ⟨w.heap.size + 1, 5, none⟩)) ?_
    simp only [Act.put, pA, pB, pC]
    refine WE.q 55 (.slice (some ad') n c') rfl (fun w' hk => by have ce := hk.cell d5; go_simp) ?_
    simp only [Act.put, pA, pB, pC]
    refine WE.p 56 (.int .i64 (k : Int)) ?_
    simp only [Act.put, pA, pB, pC]
    refine WE.p 57 (.pointer (some (ad'.add (k * 6)))) ?_
    simp only [Act.put, pA, pB, pC]
    refine WE.q 58 (kv u'.op u'.g N3 nn3 nc3 u'.name u'.sort B' u'.kids.length d') rfl (fun w' hk => by have x0 := hk.cell e0; have x1 := hk.cell e1; have x2 := hk.cell e2; have x3 := hk.cell e3; have x4 := hk.cell e4; have x5 := hk.cell e5; go_simp) ?_
    simp only [Act.put, pA, pB, pC]
    refine WE.c 59 ((HC.out _ E6.out).mono ?_)
    rintro e w6 ⟨rfl, hb6⟩
    refine ⟨_, rfl, hb6, ?_⟩
    replace E6 := hid (E6.out.trans hb6)
    clear hb6
    simp only [Act.put, pA, pB, pC]
    refine WE.p 60 (.bool false) ?_
    simp only [Act.put, pA, pB, pC]
    refine WE.done ?_
    go_wp2_with fail
    go_roundw
    case rel => exact ⟨k + 1, by simp, by omega, by rw [M.ksames_take HU.out HU'.out, HS.out, HQ.out]; rfl, E.out.trans E6.out⟩
    case measure => simp [intOf]; omega
  ·obtain rfl : k = n := by omega
   go_wp2
   go_ret
   obtain rfl : true = z := by rw [HZ.out, ← HS.out, ← HN.out, List.take_length]
   exact ⟨rfl, (alloc_two w _ _).trans E.out⟩
end Go.Proofs.YtgkofipifjfjhaaGreatDoor.Q

/-
  Layer 10, the reference: how many, of what sorts, linear; a number's value.
-/
namespace Go.Proofs.YtgkofipifjfjhaaGreatDoor.Q
set_option linter.unusedSimpArgs false
set_option linter.unusedVariables false
open Go.RowKit

theorem kops {op : Int} (h : 5 ≤ op ∧ op ≤ 22) : op = 5 ∨ op = 6 ∨ op = 7 ∨ op = 8 ∨ op = 9 ∨ op = 10 ∨ op = 11 ∨ op = 12 ∨ op = 13 ∨ op = 14 ∨ op = 15 ∨ op = 16 ∨ op = 17 ∨ op = 18 ∨ op = 19 ∨ op = 20 ∨ op = 21 ∨ op = 22 := by omega
theorem addr_pos {ad : Addr} {n : Nat} (h : 0 < n) : ad.add n = ⟨ad.block, ad.off + n, none⟩ := by
 obtain ⟨m, rfl⟩ : ∃ m, n = m + 1 := ⟨n - 1, by omega⟩
 rfl
/-- The first ones' cells, as a constant index spells them. -/
theorem Tms.at0 {w : World} {A : Option Addr} {n c : Nat} {l : List M.Tm} (h : Tms w l (.slice A n c)) (hn : 0 < n) : ∃ ad N nn nc B d, A = some ad ∧ (w.cell? ad = some (.int .i64 (M.kat l 0).op) ∧ w.cell? ⟨ad.block, ad.off + 1, none⟩ = some (.bool (M.kat l 0).g) ∧ w.cell? ⟨ad.block, ad.off + 2, none⟩ = some (.slice N nn nc) ∧ w.cell? ⟨ad.block, ad.off + 3, none⟩ = some (str (M.kat l 0).name) ∧ w.cell? ⟨ad.block, ad.off + 4, none⟩ = some (.int .i64 (M.kat l 0).sort) ∧ w.cell? ⟨ad.block, ad.off + 5, none⟩ = some (.slice B (M.kat l 0).kids.length d))
 ∧ IsTm w (M.kat l 0) (kv (M.kat l 0).op (M.kat l 0).g N nn nc (M.kat l 0).name (M.kat l 0).sort B (M.kat l 0).kids.length d) := by
 obtain ⟨ad, u, N, nn, nc, B, d, rfl, hu, ⟨c0, c1, c2, c3, c4, c5⟩, hv⟩ := h.get hn
 rw [Nat.zero_mul, Addr.add_zero'] at c0 c1 c2 c3 c4 c5
 rw [M.kat_of hu]
 exact ⟨ad, N, nn, nc, B, d, rfl, ⟨c0, c1, c2, c3, c4, c5⟩, hv⟩
theorem Tms.at1 {w : World} {ad : Addr} {n c : Nat} {l : List M.Tm} (h : Tms w l (.slice (some ad) n c)) {k m : Nat} (hm : k * 6 = m) (hk0 : 0 < k) (hn : k < n) : ∃ N nn nc B d, (w.cell? ⟨ad.block, ad.off + m, none⟩ = some (.int .i64 (M.kat l k).op) ∧ w.cell? ⟨ad.block, ad.off + m + 1, none⟩ = some (.bool (M.kat l k).g) ∧ w.cell? ⟨ad.block, ad.off + m + 2, none⟩ = some (.slice N nn nc) ∧ w.cell? ⟨ad.block, ad.off + m + 3, none⟩ = some (str (M.kat l k).name) ∧ w.cell? ⟨ad.block, ad.off + m + 4, none⟩ = some (.int .i64 (M.kat l k).sort) ∧ w.cell? ⟨ad.block, ad.off + m + 5, none⟩ = some (.slice B (M.kat l k).kids.length d))
 ∧ IsTm w (M.kat l k) (kv (M.kat l k).op (M.kat l k).g N nn nc (M.kat l k).name (M.kat l k).sort B (M.kat l k).kids.length d) := by
 obtain ⟨ad', u, N, nn, nc, B, d, e, hu, ⟨c0, c1, c2, c3, c4, c5⟩, hv⟩ := h.get hn
 injection e with e
 subst e
 rw [M.kat_of hu]
 rw [addr_pos (show 0 < k * 6 by omega), hm] at c0 c1 c2 c3 c4 c5
 exact ⟨N, nn, nc, B, d, ⟨c0, c1, c2, c3, c4, c5⟩, hv⟩
theorem kargs_len {op : Int} {n : Nat} (h : M.kargs op n = true) : 1 ≤ n ∧ (op = 12 → n = 3) ∧ ((op = 15 ∨ op = 16 ∨ op = 17) → n = 2) := by
 unfold M.kargs at h
 split at h
 ·have := of_decide_eq_true h
  exact ⟨by omega, by omega, by omega⟩
 ·split at h
  ·have := of_decide_eq_true h
   exact ⟨by omega, by omega, by omega⟩
  ·split at h
   ·have := of_decide_eq_true h
    exact ⟨by omega, by omega, by omega⟩
   ·have := of_decide_eq_true h
    exact ⟨by omega, by omega, by omega⟩
theorem IsTm.num {w : World} {t : M.Tm} {op : Int} {g : Bool} {N : Option Addr} {nn nc : Nat} {nm : List UInt8} {s : Int} {A : Option Addr} {n c : Nat} (h : IsTm w t (kv op g N nn nc nm s A n c)) : LNum w (.slice N nn nc) t.ls ∧ Tms w t.kids (.slice A n c) := by
 obtain ⟨N', nn', nc', A', c', e, hn, hk⟩ := h
 injection e with e
 have e1 : Value.slice N nn nc = .slice N' nn' nc' := by have := congrArg (fun a => a[2]?) e; simpa using this
 have e2 : Value.slice A n c = .slice A' t.kids.length c' := by have := congrArg (fun a => a[5]?) e; simpa using this
 rw [e1, e2]
 exact ⟨hn, hk⟩
/-- A number's value that a call gives, if it is one. -/
def GivesNum (w : World) (t : M.Tm) (e : Ending) (w' : World) : Prop := ∃ b A n c, e = .returned (.tuple #[.agg #[.bool b, .slice A n c], .bool (M.knum t).isSome]) ∧ (∀ z, M.knum t = some z → ∃ j, Worth w' (.agg #[.bool b, .slice A n c]) z j) ∧ Ext w w'
theorem worth_tm {w : World} {g : Bool} {N : Option Addr} {nn nc : Nat} {ls : List Nat} (h : LNum w (.slice N nn nc) ls) : Worth w (.agg #[.bool g, .slice N nn nc]) (M.zv g ls) ls.length := ⟨g, N, nn, nc, ls, rfl, h, Nat.le_refl _, rfl⟩
theorem worth_up {w w' : World} {v : Value} {Z : Int} {k : Nat} (h : Worth w v Z k) (e : Ext w w') : Worth w' v Z k := Worth.up h e
theorem GivesNum.none_ {w w' : World} {t : M.Tm} (h : M.knum t = none) (e : Ext w w') : GivesNum w t (.returned (.tuple #[.agg #[.bool false, .slice none 0 0], .bool false])) w' := by
 refine ⟨false, none, 0, 0, by rw [h]; rfl, ?_, e⟩
 intro z hz
 rw [h] at hz
 cases hz
end Go.Proofs.YtgkofipifjfjhaaGreatDoor.Q

/-
  Layer 10, the reference: of what sorts, linear, how great: what Make errs.
-/
namespace Go.Proofs.YtgkofipifjfjhaaGreatDoor.Q
set_option linter.unusedSimpArgs false
set_option linter.unusedVariables false
open Go.RowKit

/-- An int that a call gives. -/
abbrev GivesN (w : World) (z : Int) (e : Ending) (w' : World) : Prop := e = .returned (.int .i64 z) ∧ Ext w w'
theorem IsTm.row {w : World} {l : List M.Tm} {A : Option Addr} {n c : Nat} (ht : Tms w l (.slice A n c)) : IsTm w (.mk 0 false [] [] 0 l) (kv 0 false none 0 0 [] 0 A n c) := by
 have hn := ht.le.1
 subst hn
 exact ⟨none, 0, 0, A, c, rfl, LNum.nil w, ht⟩
end Go.Proofs.YtgkofipifjfjhaaGreatDoor.Q

