/-
  Contracts: what layer 10's laws make and ask of their own: num, con, fewSig; the reference's SameSig.
-/
import Derived.Test.YtaoboilkpgphaaaDoorJKC
namespace Go.Proofs.YtaoboilkpgphaaaDoor.Q
set_option linter.unusedSimpArgs false
set_option linter.unusedVariables false
open Go.RowKit

theorem con_n (nm : List UInt8) (so : Int) (w : World) : Calls Tryd.prog 23 #[str nm, .int .i64 so] w (GivesT1 w (.mk 4 false [] nm so [])) := by
 go_enter Tryd.func23, Tryd.ntmps23
 go_wp2_with fail
 refine bodyPost_ret (v := kv 4 false none 0 0 nm so none 0 0) (by simp [results, Tryd.results23, go_sem]) rfl ?_
 exact ⟨_, rfl, ⟨none, 0, 0, none, 0, rfl, LNum.nil _, Tms.nil _⟩, Ext.alloc _ _⟩
set_option maxHeartbeats 4000000 in
theorem num_n {Z : Int} (h1 : -9223372036854775808 ≤ Z) (h2 : Z ≤ 9223372036854775807) (w : World) : Calls Tryd.prog 22 #[.int .i64 Z] w (GivesT1 w (M.knumT Z)) := by
 have HC := hid (show ∀ w', Calls Tryd.prog 21 #[.int .i64 Z] w' (GivesZ w' Z 3) from fun w' => rOf_z h1 h2 w')
 clear h1 h2
 go_enter Tryd.func22, Tryd.ntmps22
 go_wp2_with fail
 refine (HC.out _).mono ?_
 rintro e w1 ⟨v1, rfl, hv1, hx⟩
 obtain ⟨A1, n1, c1, rfl, hn1, hk1⟩ := hv1
 have hbx : Ext (w.alloc (.cells zero6 27)) w1 := hx
 obtain ⟨⟨r0, r1, r2, r3, r4, r5⟩, ⟨q0, q1, q2, q3, q4, q5⟩, hz⟩ := boxF6 ((Box.new w zero6 27).up hbx)
 have E := hid (show Ext w w1 from (Ext.alloc w _).trans hbx)
 have HN1 := hid hn1
 have HB := hid ((Box.new w zero6 27).up hbx)
 obtain ⟨d, hd⟩ : ∃ d, decide (Z < 0) = d := ⟨_, rfl⟩
 rw [hd]
 have HD := hid hd
 clear hx hbx hn1 hk1 hd
 go_wp2_with fail
 refine bodyPost_ret (v := kv 1 d A1 n1 c1 [] 2 none 0 0) (by simp [results, Tryd.results22, go_sem, r0, r1, r2, r3, r4, r5, hz]) rfl ?_
 refine ⟨_, rfl, ⟨A1, n1, c1, none, 0, by rw [← HD.out]; rfl, ?_, Tms.nil _⟩, put6_ext E.out (Nat.le_refl _)⟩
 exact num_put6 HN1.out HB.out rfl
namespace M
def kfewS (s : Sg) : Bool := decide (s.name.length ≤ 40) && decide (s.args.length ≤ 6)
def ksameS (a b : Sg) : Bool := decide (a = b)
end M
theorem box33 {w wN : World} {x0 x1 x2 y0 y1 y2 : Value} {T T' : TypeId} (h : Ext ((w.alloc (.cells #[x0, x1, x2] T)).alloc (.cells #[y0, y1, y2] T')) wN) :
 (wN.cell? ⟨w.heap.size, 0, none⟩ = some x0 ∧ wN.cell? ⟨w.heap.size, 1, none⟩ = some x1 ∧ wN.cell? ⟨w.heap.size, 2, none⟩ = some x2) ∧ (wN.cell? ⟨w.heap.size + 1, 0, none⟩ = some y0 ∧ wN.cell? ⟨w.heap.size + 1, 1, none⟩ = some y1 ∧ wN.cell? ⟨w.heap.size + 1, 2, none⟩ = some y2) := by
 have h1 := ((Box.new w #[x0, x1, x2] T).alloc (.cells #[y0, y1, y2] T')).up h
 have h2 := (Box.at_ (w := w.alloc (.cells #[x0, x1, x2] T)) (g := w.heap.size + 1) #[y0, y1, y2] T' (by simp)).up h
 exact ⟨⟨h1.k 0, h1.k 1, h1.k 2⟩, h2.k 0, h2.k 1, h2.k 2⟩
theorem take_ne {a b : List Int} {k : Nat} {x y : Int} (ha : a[k]? = some x) (hb : b[k]? = some y) (hne : x ≠ y) : a ≠ b := by
 intro e; rw [e, hb] at ha; injection ha with ha; exact hne ha.symm
set_option maxHeartbeats 8000000 in
set_option maxRecDepth 100000 in
theorem kSameSig_n {s s' : M.Sg} {v v' : Value} {w : World} (h : IsSg w s v) (h' : IsSg w s' v') : Calls Tryd.prog 41 #[v, v'] w (GivesB w (M.ksameS s s')) := by
 obtain ⟨nm, ag, rt⟩ := s
 obtain ⟨nm', ag', rt'⟩ := s'
 obtain ⟨A, c, rfl, hi⟩ := h
 obtain ⟨A', c', rfl, hi'⟩ := h'
 replace hi : Ints w ag (.slice A ag.length c) := hi
 replace hi' : Ints w ag' (.slice A' ag'.length c') := hi'
 show Calls Tryd.prog 41 #[sgv nm A ag.length c rt, sgv nm' A' ag'.length c' rt'] w _
 obtain ⟨hl1, hl2, hl3⟩ := hi.le
 obtain ⟨hm1, hm2, hm3⟩ := hi'.le
 obtain ⟨n, hn'⟩ : ∃ n, ag.length = n := ⟨_, rfl⟩
 obtain ⟨n', hn''⟩ : ∃ n', ag'.length = n' := ⟨_, rfl⟩
 obtain ⟨z, hz⟩ : ∃ z, M.ksameS ⟨nm, ag, rt⟩ ⟨nm', ag', rt'⟩ = z := ⟨_, rfl⟩
 have hz1 : z = decide (nm = nm' ∧ ag = ag' ∧ rt = rt') := by rw [← hz]; unfold M.ksameS; rw [decide_eq_decide]; simp
 rw [hz]
 rw [hn'] at hi hl2
 rw [hn''] at hi' hm2
 rw [hn', hn'']
 have HN := hid hn'
 have HN' := hid hn''
 clear hz hl1 hm1
 have E2 : Ext w ((w.alloc (.cells #[str nm, .slice A n c, .int .i64 rt] 53)).alloc (.cells #[str nm', .slice A' n' c', .int .i64 rt'] 53)) := alloc_two w _ _
 by_cases h1 : nm = nm'
 case neg =>
  have HZ := hid (show false = z by rw [hz1, decide_eq_false (fun h => h1 h.1)])
  clear hz1 hi hi' hn' hn''
  go_enter Tryd.func41, Tryd.ntmps41
  go_wp2
  go_ret
  obtain rfl := HZ.out
  exact ⟨rfl, E2⟩
 case pos =>
 subst h1
 by_cases h2 : rt = rt'
 case neg =>
  have HZ := hid (show false = z by rw [hz1, decide_eq_false (fun h => h2 h.2.2)])
  clear hz1 hi hi' hn' hn''
  go_enter Tryd.func41, Tryd.ntmps41
  go_wp2
  go_ret
  obtain rfl := HZ.out
  exact ⟨rfl, E2⟩
 case pos =>
 subst h2
 by_cases h3 : n = n'
 case neg =>
  have HZ := hid (show false = z by rw [hz1, decide_eq_false (fun h => h3 (by rw [← hn', ← hn'', h.2.1]))])
  have hq : ((n : Int) == (n' : Int)) = false := by simp; omega
  clear hz1 hi hi' hn' hn''
  go_enter Tryd.func41, Tryd.ntmps41
  go_wp2
  go_ret
  obtain rfl := HZ.out
  exact ⟨rfl, E2⟩
 case pos =>
 subst h3
 have HI := hid hi
 have HI' := hid hi'
 have HZ1 := hid (show z = decide (ag = ag') by rw [hz1, decide_eq_decide]; simp)
 clear hz1 hi hi' hn' hn'' E2
 go_enter Tryd.func41, Tryd.ntmps41
 go_wp2_with fail
 go_loopw [5] (fun i wr => ∃ (k : Nat), i = .int .i64 (k : Int) ∧ k ≤ n ∧ Hid (ag.take k = ag'.take k ∧ Ext ((w.alloc (.cells #[str nm, .slice A n c, .int .i64 rt] 53)).alloc (.cells #[str nm, .slice A' n c', .int .i64 rt] 53)) wr)) (fun i _ => n - (intOf i).toNat)
 case atStart => exact ⟨0, rfl, Nat.zero_le _, rfl, Ext.refl _⟩
 case round =>
  obtain ⟨k, rfl, hk, hR⟩ := hrel
  have E := hid hR.out.2
  have HS := hid hR.out.1
  obtain ⟨⟨b0, b1, b2⟩, d0, d1, d2⟩ := box33 E.out
  clear hR
  rcases Nat.lt_or_ge k n with hlt | hge
  ·have hlt' : (k : Int) < (n : Int) := by omega
   obtain ⟨ad, x, rfl, hx, a0⟩ := (HI.out.up ((alloc_two w _ _).trans E.out)).get hlt
   obtain ⟨ad', y, rfl, hy, a1⟩ := (HI'.out.up ((alloc_two w _ _).trans E.out)).get hlt
   have HX := hid hx
   have HY := hid hy
   clear hx hy
   by_cases hxy : x = y
   ·subst hxy
    have HS2 := hid (show ag.take (k + 1) = ag'.take (k + 1) by rw [List.take_add_one, List.take_add_one, HX.out, HY.out, HS.out])
    go_wp2_with fail
    refine wp_region_D [(0, 0), (1, 0), (2, 0), (3, 0), (4, 0), (5, 0), (6, 0), (7, 0), (8, 0), (9, 0), (10, 0)] fun wd hb => ?_
    replace E := hid (E.out.trans hb)
    replace b1 := hb.cell b1
    replace d1 := hb.cell d1
    replace a0 := hb.cell a0
    replace a1 := hb.cell a1
    clear hb
    refine WE.p 34 (.pointer (some ⟨w.heap.size, 1, none⟩)) ?_
    simp only [Act.put, pA, pB, pC]
    refine WE.q 35 (.slice (some ad) n c) rfl (fun w' hk => by have ce := hk.cell b1; go_simp) ?_
    simp only [Act.put, pA, pB, pC]
    refine WE.p 36 (.int .i64 (k : Int)) ?_
    simp only [Act.put, pA, pB, pC]
    refine WE.p 37 (.pointer (some (ad.add k))) ?_
    simp only [Act.put, pA, pB, pC]
    refine WE.q 38 (.int .i64 x) rfl (fun w' hk => by have ce := hk.cell a0; go_simp) ?_
    simp only [Act.put, pA, pB, pC]
    refine WE.p 39 (.pointer (some ⟨w.heap.size + 1, 1, none⟩)) ?_
    simp only [Act.put, pA, pB, pC]
    refine WE.q 40 (.slice (some ad') n c') rfl (fun w' hk => by have ce := hk.cell d1; go_simp) ?_
    simp only [Act.put, pA, pB, pC]
    refine WE.p 41 (.int .i64 (k : Int)) ?_
    simp only [Act.put, pA, pB, pC]
    refine WE.p 42 (.pointer (some (ad'.add k))) ?_
    simp only [Act.put, pA, pB, pC]
    refine WE.q 43 (.int .i64 x) rfl (fun w' hk => by have ce := hk.cell a1; go_simp) ?_
    simp only [Act.put, pA, pB, pC]
    refine WE.p 44 (.bool false) ?_
    simp only [Act.put, pA, pB, pC]
    refine WE.done ?_
    go_wp2_with fail
    go_roundw
    case rel => exact ⟨k + 1, by simp, by omega, HS2.out, E.out⟩
    case measure => simp [intOf]; omega
   ·have hq : (x != y) = true := by simpa using hxy
    have HZ := hid (show false = z by rw [HZ1.out, decide_eq_false (take_ne HX.out HY.out hxy)])
    clear hxy
    go_wp2_with fail
    refine wp_region_D [(0, 0), (1, 0), (2, 0), (3, 0), (4, 0), (5, 0), (6, 0), (7, 0), (8, 0), (9, 0), (10, 0)] fun wd hb => ?_
    replace E := hid (E.out.trans hb)
    replace b1 := hb.cell b1
    replace d1 := hb.cell d1
    replace a0 := hb.cell a0
    replace a1 := hb.cell a1
    clear hb
    refine WE.p 34 (.pointer (some ⟨w.heap.size, 1, none⟩)) ?_
    simp only [Act.put, pA, pB, pC]
    refine WE.q 35 (.slice (some ad) n c) rfl (fun w' hk => by have ce := hk.cell b1; go_simp) ?_
    simp only [Act.put, pA, pB, pC]
    refine WE.p 36 (.int .i64 (k : Int)) ?_
    simp only [Act.put, pA, pB, pC]
    refine WE.p 37 (.pointer (some (ad.add k))) ?_
    simp only [Act.put, pA, pB, pC]
    refine WE.q 38 (.int .i64 x) rfl (fun w' hk => by have ce := hk.cell a0; go_simp) ?_
    simp only [Act.put, pA, pB, pC]
    refine WE.p 39 (.pointer (some ⟨w.heap.size + 1, 1, none⟩)) ?_
    simp only [Act.put, pA, pB, pC]
    refine WE.q 40 (.slice (some ad') n c') rfl (fun w' hk => by have ce := hk.cell d1; go_simp) ?_
    simp only [Act.put, pA, pB, pC]
    refine WE.p 41 (.int .i64 (k : Int)) ?_
    simp only [Act.put, pA, pB, pC]
    refine WE.p 42 (.pointer (some (ad'.add k))) ?_
    simp only [Act.put, pA, pB, pC]
    refine WE.q 43 (.int .i64 y) rfl (fun w' hk => by have ce := hk.cell a1; go_simp) ?_
    simp only [Act.put, pA, pB, pC]
    refine WE.p 44 (.bool true) ?_
    simp only [Act.put, pA, pB, pC]
    refine WE.done ?_
    go_wp2_with fail
    go_ret
    obtain rfl := HZ.out
    exact ⟨rfl, (alloc_two w _ _).trans E.out⟩
  ·obtain rfl : n = k := by omega
   have HZ := hid (show true = z by
    have h1 := HS.out
    rw [← HN.out, List.take_length, HN.out, ← HN'.out, List.take_length] at h1
    rw [HZ1.out, decide_eq_true h1])
   go_wp2
   go_ret
   obtain rfl := HZ.out
   exact ⟨rfl, (alloc_two w _ _).trans E.out⟩
end Go.Proofs.YtaoboilkpgphaaaDoor.Q
