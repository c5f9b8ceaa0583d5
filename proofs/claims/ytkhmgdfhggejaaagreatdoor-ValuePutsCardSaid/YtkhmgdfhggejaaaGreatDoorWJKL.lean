/-
  Contracts: what layer 10's laws make and ask of their own: num, con, fewSig; the reference's SameSig.
-/
import Derived.Test.YtkhmgdfhggejaaaGreatDoorWJKC
import Derived.Test.YtkhmgdfhggejaaaGreatDoorWJQH
import Derived.Maps.AppendAt
namespace Go.Proofs.YtkhmgdfhggejaaaGreatDoor.Q
set_option linter.unusedSimpArgs false
set_option linter.unusedVariables false
open Go.RowKit

namespace M
def ksameS (a b : Sg) : Bool := decide (a = b)
end M
theorem box33 {w wN : World} {x0 x1 x2 y0 y1 y2 : Value} {T T' : TypeId} (h : Ext ((w.alloc (.cells #[x0, x1, x2] T)).alloc (.cells #[y0, y1, y2] T')) wN) :
 (wN.cell? ⟨w.heap.size, 0, none⟩ = some x0 ∧ wN.cell? ⟨w.heap.size, 1, none⟩ = some x1 ∧ wN.cell? ⟨w.heap.size, 2, none⟩ = some x2) ∧ (wN.cell? ⟨w.heap.size + 1, 0, none⟩ = some y0 ∧ wN.cell? ⟨w.heap.size + 1, 1, none⟩ = some y1 ∧ wN.cell? ⟨w.heap.size + 1, 2, none⟩ = some y2) := by
 have h1 := ((Box.new w #[x0, x1, x2] T).alloc (.cells #[y0, y1, y2] T')).up h
 have h2 := (Box.at_ (w := w.alloc (.cells #[x0, x1, x2] T)) (g := w.heap.size + 1) #[y0, y1, y2] T' (by simp)).up h
 exact ⟨⟨h1.k 0, h1.k 1, h1.k 2⟩, h2.k 0, h2.k 1, h2.k 2⟩
theorem take_ne {a b : List Int} {k : Nat} {x y : Int} (ha : a[k]? = some x) (hb : b[k]? = some y) (hne : x ≠ y) : a ≠ b := by
 intro e; rw [e, hb] at ha; injection ha with ha; exact hne ha.symm
set_option maxHeartbeats 8000000 in
set_option maxRecDepth 100000 in
theorem kSameSig_n {s s' : M.Sg} {v v' : Value} {w : World} (h : IsSg w s v) (h' : IsSg w s' v') : Calls Tryz.prog 53 #[v, v'] w (GivesB w (M.ksameS s s')) := by
 obtain ⟨nm, ag, rt⟩ := s
 obtain ⟨nm', ag', rt'⟩ := s'
 obtain ⟨A, c, rfl, hi⟩ := h
 obtain ⟨A', c', rfl, hi'⟩ := h'
 replace hi : Ints w ag (.slice A ag.length c) := hi
 replace hi' : Ints w ag' (.slice A' ag'.length c') := hi'
 show Calls Tryz.prog 53 #[sgv nm A ag.length c rt, sgv nm' A' ag'.length c' rt'] w _
 obtain ⟨hl1, hl2, hl3⟩ := hi.le
 obtain ⟨hm1, hm2, hm3⟩ := hi'.le
 obtain ⟨n, hn'⟩ : ∃ n, ag.length = n := ⟨_, rfl⟩
 obtain ⟨n', hn''⟩ : ∃ n', ag'.length = n' := ⟨_, rfl⟩
 obtain ⟨z, hz⟩ : ∃ z, M.ksameS ⟨nm, ag, rt⟩ ⟨nm', ag', rt'⟩ = z := ⟨_, rfl⟩
 have hz1 : z = decide (nm = nm' ∧ ag = ag' ∧ rt = rt') := by rw [← hz]; unfold M.ksameS; rw [decide_eq_decide]; simp
 rw [hz]
 rw [hn'] at hi hl2
 rw [hn''] at hi' hm2
 rw [hn', hn'']
 have HN := hid hn'
 have HN' := hid hn''
 clear hz hl1 hm1
 have E2 : Ext w ((w.alloc (.cells #[str nm, .slice A n c, .int .i64 rt] 52)).alloc (.cells #[str nm', .slice A' n' c', .int .i64 rt'] 52)) := alloc_two w _ _
 by_cases h1 : nm = nm'
 case neg =>
  have HZ := hid (show false = z by rw [hz1, decide_eq_false (fun h => h1 h.1)])
  clear hz1 hi hi' hn' hn''
  go_enter Tryz.func53, Tryz.ntmps53
  go_wp2
  go_ret
  obtain rfl := HZ.out
  exact ⟨rfl, E2⟩
 case pos =>
 subst h1
 by_cases h2 : rt = rt'
 case neg =>
  have HZ := hid (show false = z by rw [hz1, decide_eq_false (fun h => h2 h.2.2)])
  clear hz1 hi hi' hn' hn''
  go_enter Tryz.func53, Tryz.ntmps53
  go_wp2
  go_ret
  obtain rfl := HZ.out
  exact ⟨rfl, E2⟩
 case pos =>
 subst h2
 by_cases h3 : n = n'
 case neg =>
  have HZ := hid (show false = z by rw [hz1, decide_eq_false (fun h => h3 (by rw [← hn', ← hn'', h.2.1]))])
  have hq : ((n : Int) == (n' : Int)) = false := by simp; omega
  clear hz1 hi hi' hn' hn''
  go_enter Tryz.func53, Tryz.ntmps53
  go_wp2
  go_ret
  obtain rfl := HZ.out
  exact ⟨rfl, E2⟩
 case pos =>
 subst h3
 have HI := hid hi
 have HI' := hid hi'
 have HZ1 := hid (show z = decide (ag = ag') by rw [hz1, decide_eq_decide]; simp)
 clear hz1 hi hi' hn' hn'' E2
 go_enter Tryz.func53, Tryz.ntmps53
 go_wp2_with fail
 go_loopw [5] (fun i wr => ∃ (k : Nat), i = .int .i64 (k : Int) ∧ k ≤ n ∧ Hid (ag.take k = ag'.take k ∧ Ext ((w.alloc (.cells #[str nm, .slice A n c, .int .i64 rt] 52)).alloc (.cells #[str nm, .slice A' n c', .int .i64 rt] 52)) wr)) (fun i _ => n - (intOf i).toNat)
 case atStart => exact ⟨0, rfl, Nat.zero_le _, rfl, Ext.refl _⟩
 case round =>
  obtain ⟨k, rfl, hk, hR⟩ := hrel
  have E := hid hR.out.2
  have HS := hid hR.out.1
  obtain ⟨⟨b0, b1, b2⟩, d0, d1, d2⟩ := box33 E.out
  clear hR
  rcases Nat.lt_or_ge k n with hlt | hge
  ·have hlt' : (k : Int) < (n : Int) := by omega
   obtain ⟨ad, x, rfl, hx, a0⟩ := (HI.out.up ((alloc_two w _ _).trans E.out)).get hlt
   obtain ⟨ad', y, rfl, hy, a1⟩ := (HI'.out.up ((alloc_two w _ _).trans E.out)).get hlt
   have HX := hid hx
   have HY := hid hy
   clear hx hy
   by_cases hxy : x = y
   ·subst hxy
    have HS2 := hid (show ag.take (k + 1) = ag'.take (k + 1) by rw [List.take_add_one, List.take_add_one, HX.out, HY.out, HS.out])
    go_wp2_with fail
    refine wp_region_D [(0, 0), (1, 0), (2, 0), (3, 0), (4, 0), (5, 0), (6, 0), (7, 0), (8, 0), (9, 0), (10, 0)] fun wd hb => ?_
    replace E := hid (E.out.trans hb)
    replace b1 := hb.cell b1
    replace d1 := hb.cell d1
    replace a0 := hb.cell a0
    replace a1 := hb.cell a1
    clear hb
    refine WE.p 34 (.pointer (some ⟨w.heap.size, 1, none⟩)) ?_
    simp only [Act.put, pA, pB, pC]
    refine WE.q 35 (.slice (some ad) n c) rfl (fun w' hk => by have ce := hk.cell b1; go_simp) ?_
    simp only [Act.put, pA, pB, pC]
    refine WE.p 36 (.int .i64 (k : Int)) ?_
    simp only [Act.put, pA, pB, pC]
    refine WE.p 37 (.pointer (some (ad.add k))) ?_
    simp only [Act.put, pA, pB, pC]
    refine WE.q 38 (.int .i64 x) rfl (fun w' hk => by have ce := hk.cell a0; go_simp) ?_
    simp only [Act.put, pA, pB, pC]
    refine WE.p 39 (.pointer (some ⟨w.heap.size + 1, 1, none⟩)) ?_
    simp only [Act.put, pA, pB, pC]
    refine WE.q 40 (.slice (some ad') n c') rfl (fun w' hk => by have ce := hk.cell d1; go_simp) ?_
    simp only [Act.put, pA, pB, pC]
    refine WE.p 41 (.int .i64 (k : Int)) ?_
    simp only [Act.put, pA, pB, pC]
    refine WE.p 42 (.pointer (some (ad'.add k))) ?_
    simp only [Act.put, pA, pB, pC]
    refine WE.q 43 (.int .i64 x) rfl (fun w' hk => by have ce := hk.cell a1; go_simp) ?_
    simp only [Act.put, pA, pB, pC]
    refine WE.p 44 (.bool false) ?_
    simp only [Act.put, pA, pB, pC]
    refine WE.done ?_
    go_wp2_with fail
    go_roundw
    case rel => exact ⟨k + 1, by simp, by omega, HS2.out, E.out⟩
    case measure => simp [intOf]; omega
   ·have hq : (x != y) = true := by simpa using hxy
    have HZ := hid (show false = z by rw [HZ1.out, decide_eq_false (take_ne HX.out HY.out hxy)])
    clear hxy
    go_wp2_with fail
    refine wp_region_D [(0, 0), (1, 0), (2, 0), (3, 0), (4, 0), (5, 0), (6, 0), (7, 0), (8, 0), (9, 0), (10, 0)] fun wd hb => ?_
    replace E := hid (E.out.trans hb)
    replace b1 := hb.cell b1
    replace d1 := hb.cell d1
    replace a0 := hb.cell a0
    replace a1 := hb.cell a1
    clear hb
    refine WE.p 34 (.pointer (some ⟨w.heap.size, 1, none⟩)) ?_
    simp only [Act.put, pA, pB, pC]
    refine WE.q 35 (.slice (some ad) n c) rfl (fun w' hk => by have ce := hk.cell b1; go_simp) ?_
    simp only [Act.put, pA, pB, pC]
    refine WE.p 36 (.int .i64 (k : Int)) ?_
    simp only [Act.put, pA, pB, pC]
    refine WE.p 37 (.pointer (some (ad.add k))) ?_
    simp only [Act.put, pA, pB, pC]
    refine WE.q 38 (.int .i64 x) rfl (fun w' hk => by have ce := hk.cell a0; go_simp) ?_
    simp only [Act.put, pA, pB, pC]
    refine WE.p 39 (.pointer (some ⟨w.heap.size + 1, 1, none⟩)) ?_
    simp only [Act.put, pA, pB, pC]
    refine WE.q 40 (.slice (some ad') n c') rfl (fun w' hk => by have ce := hk.cell d1; go_simp) ?_
    simp only [Act.put, pA, pB, pC]
    refine WE.p 41 (.int .i64 (k : Int)) ?_
    simp only [Act.put, pA, pB, pC]
    refine WE.p 42 (.pointer (some (ad'.add k))) ?_
    simp only [Act.put, pA, pB, pC]
    refine WE.q 43 (.int .i64 y) rfl (fun w' hk => by have ce := hk.cell a1; go_simp) ?_
    simp only [Act.put, pA, pB, pC]
    refine WE.p 44 (.bool true) ?_
    simp only [Act.put, pA, pB, pC]
    refine WE.done ?_
    go_wp2_with fail
    go_ret
    obtain rfl := HZ.out
    exact ⟨rfl, (alloc_two w _ _).trans E.out⟩
  ·obtain rfl : n = k := by omega
   have HZ := hid (show true = z by
    have h1 := HS.out
    rw [← HN.out, List.take_length, HN.out, ← HN'.out, List.take_length] at h1
    rw [HZ1.out, decide_eq_true h1])
   go_wp2
   go_ret
   obtain rfl := HZ.out
   exact ⟨rfl, (alloc_two w _ _).trans E.out⟩
end Go.Proofs.YtkhmgdfhggejaaaGreatDoor.Q

/-
  Layer 10: a term's names: mathematics; names' Sigs in memory; the reference's SameSigs.
-/
namespace Go.Proofs.YtkhmgdfhggejaaaGreatDoor.Q
set_option linter.unusedSimpArgs false
set_option linter.unusedVariables false
open Go.RowKit

namespace M
end M
/-- A name's Sig at a place. -/
def SgAt (w : World) (s : M.Sg) (a : Addr) : Prop := ∃ A n c, (w.cell? a = some (str s.name) ∧ w.cell? (a.add 1) = some (.slice A n c) ∧ w.cell? (a.add 2) = some (.int .i64 s.ret)) ∧ Ints w s.args (.slice A n c)
/-- A list of names' Sigs in memory. -/
def Sgs (w : World) (l : List M.Sg) (v : Value) : Prop := ∃ A n c, v = .slice A n c ∧ n = l.length ∧ n ≤ c ∧ c ≤ maxLen ∧ (l ≠ [] → ∃ ad, A = some ad ∧ ad.block < w.heap.size ∧ ∀ k s, l[k]? = some s → SgAt w s (ad.add (k * 3)))
theorem SgAt.up {w w' : World} {s : M.Sg} {a : Addr} (h : SgAt w s a) (e : Ext w w') : SgAt w' s a := by
 obtain ⟨A, n, c, ⟨h1, h2, h3⟩, h4⟩ := h
 exact ⟨A, n, c, ⟨e.cell h1, e.cell h2, e.cell h3⟩, h4.up e⟩
theorem Sgs.up {w w' : World} {l : List M.Sg} {v : Value} (h : Sgs w l v) (e : Ext w w') : Sgs w' l v := by
 obtain ⟨A, n, c, h1, h2, h3, h4, h5⟩ := h
 refine ⟨A, n, c, h1, h2, h3, h4, fun hne => ?_⟩
 obtain ⟨ad, ha, hb, hc⟩ := h5 hne
 exact ⟨ad, ha, Nat.lt_of_lt_of_le hb e.size, fun k s hk => (hc k s hk).up e⟩
theorem Sgs.nil (w : World) : Sgs w [] (.slice none 0 0) := ⟨none, 0, 0, rfl, rfl, Nat.le_refl _, Nat.zero_le _, fun h => absurd rfl h⟩
theorem Sgs.shape {w : World} {l : List M.Sg} {v : Value} (h : Sgs w l v) : ∃ A c, v = .slice A l.length c := by
 obtain ⟨A, n, c, h1, h2, _⟩ := h
 exact ⟨A, c, by rw [h1, h2]⟩
theorem Sgs.le {w : World} {A : Option Addr} {n c : Nat} {l : List M.Sg} (h : Sgs w l (.slice A n c)) : n = l.length ∧ n ≤ c ∧ c ≤ 9223372036854775807 := by
 obtain ⟨A', n', c', e, h2, h3, h4, _⟩ := h
 injection e with e1 e2 e3
 subst e1 e2 e3
 exact ⟨h2, h3, by unfold maxLen at h4; omega⟩
/-- The k-th of them: its cells, what it is. -/
theorem Sgs.get {w : World} {A : Option Addr} {n c : Nat} {l : List M.Sg} (h : Sgs w l (.slice A n c)) {k : Nat} (hk : k < n) :
 ∃ ad s B d, A = some ad ∧ l[k]? = some s ∧ (w.cell? (ad.add (k * 3)) = some (str s.name) ∧ w.cell? ⟨(ad.add (k * 3)).block, (ad.add (k * 3)).off + 1, none⟩ = some (.slice B s.args.length d) ∧ w.cell? ⟨(ad.add (k * 3)).block, (ad.add (k * 3)).off + 2, none⟩ = some (.int .i64 s.ret))
  ∧ IsSg w s (sgv s.name B s.args.length d s.ret) := by
 obtain ⟨A', n', c', e, h2, h3, h4, h5⟩ := h
 injection e with e1 e2 e3
 subst e1 e2 e3
 obtain ⟨ad, ha, hb, hc⟩ := h5 (by intro e; subst e; simp at h2; omega)
 have hx : l[k]? = some l[k] := List.getElem?_eq_getElem (by omega)
 obtain ⟨B, m, d, ⟨c0, c1, c2⟩, hi⟩ := hc k _ hx
 have hm := hi.le.1
 subst hm
 exact ⟨ad, _, B, d, ha, hx, ⟨c0, c1, c2⟩, B, d, rfl, hi⟩
end Go.Proofs.YtkhmgdfhggejaaaGreatDoor.Q

/-
  Layer 10, the reference: an application's Sig.
-/
namespace Go.Proofs.YtkhmgdfhggejaaaGreatDoor.Q
set_option linter.unusedSimpArgs false
set_option linter.unusedVariables false
open Go.RowKit

theorem kshape {w : World} {base : Nat} {e : TypeId} {size : Nat} {v : Value} {n : Nat} {xs : List Value} (h : w.ownsRow base e size v n xs) : ∃ A c, v = .slice A n c ∧ n ≤ c ∧ c ≤ maxLen := by
 rcases h.2 with ⟨rfl, rfl⟩ | ⟨g, cap', cur, rfl, h3, h4, h5, h6, _⟩
 ·exact ⟨none, 0, rfl, Nat.le_refl _, Nat.zero_le _⟩
 ·exact ⟨_, _, rfl, h5, h6⟩
theorem kgrown {w w' : World} {row : Option Nat} (h : w.grownBy w' row) : Kept row.toList w w' :=
 ⟨⟨h.os, h.tape, h.output, h.size, fun k hk => absurd hk (Nat.not_lt_zero _)⟩, fun k hk hn => h.block k hk fun e => hn (by rw [← e]; simp)⟩
theorem kexec_app {P : Program} {w w' : World} {v u v' : Value} {o : Oper} {a : Act} {t : TypeId} (s x : Operand) (ho : o.op = .call { callee := .builtin .append, args := #[s, x], argTypes := #[t, t] }) (hs : a.eval s = v) (hx : a.eval x = u)
 (h : (Builtin.append_ #[t, t] o.type #[v, u]).run P w = .ok v' w') : (execOp a.eval o).run P w = .ok (.value v') w' := by
 unfold execOp
 simp only [ho, resolve, invoke, builtin, Sem.run_bind, Sem.run_pure, Result.andThen_ok, List.map_toArray, List.map_cons, List.map_nil, hs, hx, h]
theorem kframe {w w' : World} {base size n : Nat} {e : TypeId} {v : Value} {xs : List Value} (h : w.ownsRow base e size v n xs) (hb : ∀ b, base ≤ b → b < w.heap.size → w'.heap[b]? = w.heap[b]?) : w'.ownsRow base e size v n xs := by
 obtain ⟨hl, h2⟩ := h
 refine ⟨hl, h2.imp id ?_⟩
 rintro ⟨g, cap, cur, h3, h4, h5, h6⟩
 exact ⟨g, cap, cur, h3, h4, by rw [hb g h4 (Array.getElem?_eq_some_iff.1 h5).1]; exact h5, h6⟩
theorem kown_base {w : World} {base size n : Nat} {e : TypeId} {v : Value} {xs : List Value} (h : w.ownsRow base e size v n xs) {b : Nat} (hb : b ∈ v.ownBlock.toList) : base ≤ b := by
 simp at hb
 exact (World.ownsRow.lt h b hb).1
/-- A row of ints of the call's own. -/
def OwnI (base : Nat) (w : World) (v : Value) (l : List Int) : Prop := w.ownsRow base 3 1 v l.length (l.map fun x : Int => Value.int .i64 x)
theorem OwnI.nil (base : Nat) (w : World) : OwnI base w (.slice none 0 0) [] := World.ownsRow_nil w base _ 1
theorem OwnI.frame {base : Nat} {w w' : World} {v : Value} {l : List Int} (h : OwnI base w v l) (hb : ∀ b, base ≤ b → b < w.heap.size → w'.heap[b]? = w.heap[b]?) : OwnI base w' v l := kframe h hb
theorem OwnI.ints {base : Nat} {w : World} {v : Value} {l : List Int} (h : OwnI base w v l) : Ints w l v := by
 have hh := h
 obtain ⟨hl, h3⟩ := h
 rcases h3 with ⟨rfl, h0⟩ | ⟨b, cap, cur, rfl, hb, hc, hc1, hm, _, _⟩
 ·obtain rfl : l = [] := List.eq_nil_of_length_eq_zero h0
  exact ⟨none, 0, 0, rfl, rfl, Nat.le_refl _, Nat.zero_le _, fun h => absurd rfl h⟩
 ·refine ⟨_, _, _, rfl, rfl, hc1, hm, fun hn => ⟨_, rfl, (Array.getElem?_eq_some_iff.1 hc).1, fun k x hk => ?_⟩⟩
  exact World.ownsRow.cells hh (g := b) rfl _ _ (by rw [List.getElem?_map, hk]; rfl)
theorem info_int8 : (Tryz.prog.info? 3).map (fun i => (i.zero, i.size, i.bytes)) = some (some (.int .i64 0), 1, 8) := by kernel_rfl
theorem appI_run {base : Nat} {w : World} {v : Value} {l : List Int} {x : Int} {gL : Nat} {tL : TypeId} (h : OwnI base w v l) (hL : Box w gL #[.int .i64 x] tL) (hlen : l.length + 1 ≤ 1000000000) (hbase : base ≤ w.heap.size) (ty : TypeId) :
 ∃ v' w', (Builtin.append_ #[50, 50] ty #[v, .slice (some ⟨gL, 0, none⟩) 1 1]).run Tryz.prog w = .ok v' w' ∧ OwnI base w' v' (l ++ [x]) ∧ Below base w w' ∧ Kept v.ownBlock.toList w w' := by
 obtain ⟨i0, hi, hz0, hz1, hz2⟩ := info_parts info_int8
 obtain ⟨v', w', hrun, ho', hg, _, hv'⟩ := run_append_own_at (P := Tryz.prog) w base 50 ty 3 i0 _ 1 8 Tryz.underlying50 hi hz0 hz1 hz2 rfl (by decide) v l.length _ h ⟨gL, 0, none⟩ 1 1 [.int .i64 x] rfl (by
  intro j u hj
  rw [Addr.add_lit, Nat.zero_add]
  rcases j with _ | j
  ·simp at hj; subst hj; exact hL.k 0
  ·simp at hj) (by intro u hu; simp at hu; subst hu; rfl) (by unfold maxLen; omega) (by omega) hbase
 exact ⟨v', w', hrun, by unfold OwnI; rw [List.length_append, List.map_append]; exact ho', (Below.refl _ _).grown hg hbase fun k hk => (World.ownsRow.lt h k hk).1, kgrown hg⟩
namespace M
def sigOf (t : Tm) : Sg := ⟨t.name, t.kids.map Tm.sort, t.sort⟩
end M
/-- A Sig that a call gives. -/
def GivesSg (w : World) (s : M.Sg) (e : Ending) (w' : World) : Prop := ∃ A c, e = .returned (sgv s.name A s.args.length c s.ret) ∧ Ints w' s.args (.slice A s.args.length c) ∧ Ext w w'
theorem box3b {w : World} {k : Nat} {x0 x1 x2 : Value} {T : TypeId} (h : Box w k #[x0, x1, x2] T) : w.cell? ⟨k, 0, none⟩ = some x0 ∧ w.cell? ⟨k, 1, none⟩ = some x1 ∧ w.cell? ⟨k, 2, none⟩ = some x2 := ⟨h.k 0, h.k 1, h.k 2⟩
theorem free3 {w : World} {k : Nat} {x0 x1 x2 : Value} {T : TypeId} (h : Box w k #[x0, x1, x2] T) : w.frozen? ⟨k, 0, none⟩ = false ∧ w.frozen? ⟨k, 1, none⟩ = false ∧ w.frozen? ⟨k, 2, none⟩ = false := ⟨h.free 0, h.free 1, h.free 2⟩
end Go.Proofs.YtkhmgdfhggejaaaGreatDoor.Q

