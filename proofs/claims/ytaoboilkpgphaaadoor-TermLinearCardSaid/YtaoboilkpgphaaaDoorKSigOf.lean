/-
  Layer 10, the reference: an application's Sig.
-/
import Derived.Test.YtaoboilkpgphaaaDoorKSgs
import Derived.Test.YtaoboilkpgphaaaDoorQTHeld
import Derived.Maps.AppendAt
namespace Go.Proofs.YtaoboilkpgphaaaDoor.Q
set_option linter.unusedSimpArgs false
set_option linter.unusedVariables false
open Go.RowKit

theorem kshape {w : World} {base : Nat} {e : TypeId} {size : Nat} {v : Value} {n : Nat} {xs : List Value} (h : w.ownsRow base e size v n xs) : ∃ A c, v = .slice A n c ∧ n ≤ c ∧ c ≤ maxLen := by
 rcases h.2 with ⟨rfl, rfl⟩ | ⟨g, cap', cur, rfl, h3, h4, h5, h6, _⟩
 ·exact ⟨none, 0, rfl, Nat.le_refl _, Nat.zero_le _⟩
 ·exact ⟨_, _, rfl, h5, h6⟩
theorem kgrown {w w' : World} {row : Option Nat} (h : w.grownBy w' row) : Kept row.toList w w' :=
 ⟨⟨h.os, h.tape, h.output, h.size, fun k hk => absurd hk (Nat.not_lt_zero _)⟩, fun k hk hn => h.block k hk fun e => hn (by rw [← e]; simp)⟩
theorem kexec_app {P : Program} {w w' : World} {v u v' : Value} {o : Oper} {a : Act} {t : TypeId} (s x : Operand) (ho : o.op = .call { callee := .builtin .append, args := #[s, x], argTypes := #[t, t] }) (hs : a.eval s = v) (hx : a.eval x = u)
 (h : (Builtin.append_ #[t, t] o.type #[v, u]).run P w = .ok v' w') : (execOp a.eval o).run P w = .ok (.value v') w' := by
 unfold execOp
 simp only [ho, resolve, invoke, builtin, Sem.run_bind, Sem.run_pure, Result.andThen_ok, List.map_toArray, List.map_cons, List.map_nil, hs, hx, h]
theorem kframe {w w' : World} {base size n : Nat} {e : TypeId} {v : Value} {xs : List Value} (h : w.ownsRow base e size v n xs) (hb : ∀ b, base ≤ b → b < w.heap.size → w'.heap[b]? = w.heap[b]?) : w'.ownsRow base e size v n xs := by
 obtain ⟨hl, h2⟩ := h
 refine ⟨hl, h2.imp id ?_⟩
 rintro ⟨g, cap, cur, h3, h4, h5, h6⟩
 exact ⟨g, cap, cur, h3, h4, by rw [hb g h4 (Array.getElem?_eq_some_iff.1 h5).1]; exact h5, h6⟩
theorem kown_base {w : World} {base size n : Nat} {e : TypeId} {v : Value} {xs : List Value} (h : w.ownsRow base e size v n xs) {b : Nat} (hb : b ∈ v.ownBlock.toList) : base ≤ b := by
 simp at hb
 exact (World.ownsRow.lt h b hb).1
/-- A row of ints of the call's own. -/
def OwnI (base : Nat) (w : World) (v : Value) (l : List Int) : Prop := w.ownsRow base 3 1 v l.length (l.map fun x : Int => Value.int .i64 x)
theorem OwnI.nil (base : Nat) (w : World) : OwnI base w (.slice none 0 0) [] := World.ownsRow_nil w base _ 1
theorem OwnI.frame {base : Nat} {w w' : World} {v : Value} {l : List Int} (h : OwnI base w v l) (hb : ∀ b, base ≤ b → b < w.heap.size → w'.heap[b]? = w.heap[b]?) : OwnI base w' v l := kframe h hb
theorem OwnI.ints {base : Nat} {w : World} {v : Value} {l : List Int} (h : OwnI base w v l) : Ints w l v := by
 have hh := h
 obtain ⟨hl, h3⟩ := h
 rcases h3 with ⟨rfl, h0⟩ | ⟨b, cap, cur, rfl, hb, hc, hc1, hm, _, _⟩
 ·obtain rfl : l = [] := List.eq_nil_of_length_eq_zero h0
  exact ⟨none, 0, 0, rfl, rfl, Nat.le_refl _, Nat.zero_le _, fun h => absurd rfl h⟩
 ·refine ⟨_, _, _, rfl, rfl, hc1, hm, fun hn => ⟨_, rfl, (Array.getElem?_eq_some_iff.1 hc).1, fun k x hk => ?_⟩⟩
  exact World.ownsRow.cells hh (g := b) rfl _ _ (by rw [List.getElem?_map, hk]; rfl)
theorem info_int8 : (Tryd.prog.info? 3).map (fun i => (i.zero, i.size, i.bytes)) = some (some (.int .i64 0), 1, 8) := by kernel_rfl
theorem appI_run {base : Nat} {w : World} {v : Value} {l : List Int} {x : Int} {gL : Nat} {tL : TypeId} (h : OwnI base w v l) (hL : Box w gL #[.int .i64 x] tL) (hlen : l.length + 1 ≤ 1000000000) (hbase : base ≤ w.heap.size) (ty : TypeId) :
 ∃ v' w', (Builtin.append_ #[51, 51] ty #[v, .slice (some ⟨gL, 0, none⟩) 1 1]).run Tryd.prog w = .ok v' w' ∧ OwnI base w' v' (l ++ [x]) ∧ Below base w w' ∧ Kept v.ownBlock.toList w w' := by
 obtain ⟨i0, hi, hz0, hz1, hz2⟩ := info_parts info_int8
 obtain ⟨v', w', hrun, ho', hg, _, hv'⟩ := run_append_own_at (P := Tryd.prog) w base 51 ty 3 i0 _ 1 8 Tryd.underlying51 hi hz0 hz1 hz2 rfl (by decide) v l.length _ h ⟨gL, 0, none⟩ 1 1 [.int .i64 x] rfl (by
  intro j u hj
  rw [Addr.add_lit, Nat.zero_add]
  rcases j with _ | j
  ·simp at hj; subst hj; exact hL.k 0
  ·simp at hj) (by intro u hu; simp at hu; subst hu; rfl) (by unfold maxLen; omega) (by omega) hbase
 exact ⟨v', w', hrun, by unfold OwnI; rw [List.length_append, List.map_append]; exact ho', (Below.refl _ _).grown hg hbase fun k hk => (World.ownsRow.lt h k hk).1, kgrown hg⟩
namespace M
def sigOf (t : Tm) : Sg := ⟨t.name, t.kids.map Tm.sort, t.sort⟩
end M
/-- A Sig that a call gives. -/
def GivesSg (w : World) (s : M.Sg) (e : Ending) (w' : World) : Prop := ∃ A c, e = .returned (sgv s.name A s.args.length c s.ret) ∧ Ints w' s.args (.slice A s.args.length c) ∧ Ext w w'
theorem kbelow_box {w w' : World} {B g : Nat} {cs : Array Value} {T : TypeId} (h : Box w g cs T) (hb : Below B w w') (hg : g < B) : Box w' g cs T := (hb.block g hg).trans h
theorem box3b {w : World} {k : Nat} {x0 x1 x2 : Value} {T : TypeId} (h : Box w k #[x0, x1, x2] T) : w.cell? ⟨k, 0, none⟩ = some x0 ∧ w.cell? ⟨k, 1, none⟩ = some x1 ∧ w.cell? ⟨k, 2, none⟩ = some x2 := ⟨h.k 0, h.k 1, h.k 2⟩
theorem free3 {w : World} {k : Nat} {x0 x1 x2 : Value} {T : TypeId} (h : Box w k #[x0, x1, x2] T) : w.frozen? ⟨k, 0, none⟩ = false ∧ w.frozen? ⟨k, 1, none⟩ = false ∧ w.frozen? ⟨k, 2, none⟩ = false := ⟨h.free 0, h.free 1, h.free 2⟩
/-- What the loop keeps. -/
def RoundSg (w : World) (op : Int) (g : Bool) (N : Option Addr) (nn nc : Nat) (nm : List UInt8) (so : Int) (A : Option Addr) (n c : Nat) (l : List Int) (iv : Value) (wr : World) : Prop :=
 Box wr w.heap.size #[.int .i64 op, .bool g, .slice N nn nc, str nm, .int .i64 so, .slice A n c] 27 ∧ Box wr (w.heap.size + 1) #[.string ⟨#[]⟩, .slice none 0 0, .int .i64 0] 53 ∧
 Box wr (w.heap.size + 2) #[str nm, iv, .int .i64 so] 53 ∧ OwnI (w.heap.size + 3) wr iv l ∧ Ext w wr
set_option maxHeartbeats 16000000 in
set_option maxRecDepth 100000 in
theorem kSigOf_n {t : M.Tm} {v : Value} {w : World} (h : IsTm w t v) (hlen : t.kids.length ≤ 1000000) : Calls Tryd.prog 65 #[v] w (GivesSg w (M.sigOf t)) := by
 obtain ⟨op, g, ls, nm, so, ks⟩ := t
 obtain ⟨N, nn, nc, A, c, rfl, hn, hk⟩ := h
 replace hk : Tms w ks (.slice A ks.length c) := hk
 show Calls Tryd.prog 65 #[kv op g N nn nc nm so A ks.length c] w (GivesSg w ⟨nm, ks.map M.Tm.sort, so⟩)
 replace hlen : ks.length ≤ 1000000 := hlen
 obtain ⟨hl1, hl2, hl3⟩ := hk.le
 obtain ⟨n, hnn⟩ : ∃ n, ks.length = n := ⟨_, rfl⟩
 rw [hnn] at hk hl2 hlen ⊢
 have HT := hid hk
 have HN := hid hnn
 clear hk hl1 hnn hn
 go_enter Tryd.func65, Tryd.ntmps65
 go_wp2_with fail
 go_loopw [4] (fun i wr => ∃ (k : Nat) (iv : Value), i = .int .i64 (k : Int) ∧ k ≤ n ∧ Hid (RoundSg w op g N nn nc nm so A n c ((ks.take k).map M.Tm.sort) iv wr)) (fun i _ => n - (intOf i).toNat)
 case atStart =>
  refine ⟨0, .slice none 0 0, rfl, Nat.zero_le _, ⟨((Box.new w _ _).alloc _).alloc _, ?_, ?_, OwnI.nil _ _, ((Ext.alloc w _).alloc' _).alloc' _⟩⟩
  ·exact (Box.at_ (w := w.alloc _) (g := w.heap.size + 1) _ _ (by simp)).alloc _
  ·exact Box.at_ (w := (w.alloc _).alloc _) (g := w.heap.size + 2) _ _ (by simp)
 case round =>
  obtain ⟨k, iv, rfl, hk, hR⟩ := hrel
  obtain ⟨L, hL⟩ : ∃ L, (ks.take k).map M.Tm.sort = L := ⟨_, rfl⟩
  have hR' := hR.out
  rw [hL] at hR'
  obtain ⟨hB0, hB1, hB2, hOw, hE⟩ := hR'
  obtain ⟨m, hm⟩ : ∃ m, L.length = m := ⟨_, rfl⟩
  have HL := hid hL
  have HM := hid hm
  obtain ⟨IA, ic, rfl, hi1, hi2⟩ := kshape hOw
  obtain ⟨⟨b0, b1, b2, b3, b4, b5⟩, -, hz0⟩ := boxF6 hB0
  have HB0 := hid hB0
  have HB1 := hid hB1
  have HB2 := hid hB2
  have HO := hid hOw
  have E := hid hE
  rw [hm] at hi1 HB2 HO
  clear hR hB0 hB1 hB2 hOw hE hL hm
  rcases Nat.lt_or_ge k n with hlt | hge
  ·have hlt' : (k : Int) < (n : Int) := by omega
   obtain ⟨ad, u, N', nn', nc', B, d, rfl, hu, ⟨c0, c1, c2, c3, c4, c5⟩, hv⟩ := HT.out.get hlt
   have hadb : (ad.add (k * 6)).block < w.heap.size := by have := World.block_lt_of_cell? w _ c4; exact this
   replace c4 := E.out.cell c4
   obtain ⟨y, hy⟩ : ∃ y, u.sort = y := ⟨_, rfl⟩
   rw [hy] at c4
   have HU := hid hu
   have HY := hid hy
   have HX := hid (show ∀ b, b ∈ (Value.slice IA m ic).ownBlock.toList → w.heap.size + 3 ≤ b from fun b hb => kown_base HO.out hb)
   have HLK := hid (show L.length = k by rw [← HL.out, List.length_map, List.length_take, HN.out]; omega)
   clear hu hv hy c0 c1 c2 c3 c5
   go_wp2_with fail
   refine wp_region_K (Value.slice IA m ic).ownBlock.toList [(0, 0), (1, 0), (2, 0), (3, 0), (4, 0), (5, 0), (6, 0), (7, 0), (8, 1), (9, 1), (10, 2), (11, 3)] fun wd hb => ?_
   have Ed := hid hb
   clear hb
   refine WK.p 17 (.pointer (some ⟨w.heap.size + 2, 1, none⟩)) ?_
   simp only [Act.put, pA, pB, pC]
   refine WK.q 18 (.slice IA m ic) rfl (fun w' hk => by have ce := ((HB2.out.up Ed.out).kept hk (fun h => by have := HX.out _ h; omega)).k 1 (v := .slice IA m ic); go_simp) ?_
   simp only [Act.put, pA, pB, pC]
   refine WK.p 19 (.pointer (some ⟨w.heap.size, 5, none⟩)) ?_
   simp only [Act.put, pA, pB, pC]
   refine WK.q 20 (.slice (some ad) n c) rfl (fun w' hk => by have ce := ((HB0.out.up Ed.out).kept hk (fun h => by have := HX.out _ h; omega)).k 5 (v := .slice (some ad) n c); go_simp) ?_
   simp only [Act.put, pA, pB, pC]
   refine WK.p 21 (.int .i64 (k : Int)) ?_
   simp only [Act.put, pA, pB, pC]
   refine WK.p 22 (.pointer (some (ad.add (k * 6)))) ?_
   simp only [Act.put, pA, pB, pC]
   refine WK.p 23 (.pointer (some ⟨(ad.add (k * 6)).block, (ad.add (k * 6)).off + 4, none⟩)) ?_
   simp only [Act.put, pA, pB, pC]
   refine WK.q 24 (.int .i64 y) rfl (fun w' hk => by have ce := hk.cell (fun h => by have := HX.out _ h; omega) (Ed.out.cell c4); go_simp) ?_
   simp only [Act.put, pA, pB, pC]
   refine WK.act 25 (v := .slice (some ⟨wd.heap.size, 0, none⟩) 1 1) (w' := wd.alloc (.cells #[.int .i64 y] 3)) rfl (by go_simp) ((Ext.alloc _ _).kept _) ?_
   simp only [Act.put, pA, pB, pC]
   have hEd := Ed.out.size
   obtain ⟨v', w5, hrun, hO5, hB5, hK5⟩ := appI_run ((HO.out.frame fun b _ hb => Ed.out.block b hb).frame (w' := wd.alloc (.cells #[.int .i64 y] 3)) fun b _ hb => (Ext.alloc wd _).block b hb) (Box.new wd #[.int .i64 y] 3) (by rw [HLK.out]; omega) (by have := HB2.out.lt; simp; omega) 51
   obtain ⟨A5, c5, rfl, hs5a, hs5b⟩ := kshape hO5
   obtain ⟨m5, hm5⟩ : ∃ m5, (L ++ [y]).length = m5 := ⟨_, rfl⟩
   rw [hm5] at hO5 hrun hs5a
   have HO5 := hid hO5
   have HB5 := hid (show Below (w.heap.size + 3) wd w5 from ((Below.refl _ _).alloc (by have := HB2.out.lt; omega) _).trans hB5)
   have HK5 := hid hK5
   refine WK.act 26 rfl (kexec_app (.tmp 18) (.tmp 25) rfl rfl rfl hrun) hK5 ?_
   clear hrun hO5 hB5 hK5
   simp only [Act.put, pA, pB, pC]
   have hX5 := kbelow_box (HB2.out.up Ed.out) HB5.out (by omega)
   obtain ⟨d0, d1, d2⟩ := box3b hX5
   obtain ⟨f0, f1, f2⟩ := free3 hX5
   have hl5 := hX5.lt
   have HX5 := hid hX5
   refine WK.y 27 (.pointer (some ⟨w.heap.size + 2, 1, none⟩)) ?_
   simp only [Act.put, pA, pB, pC]
   refine WK.st (w' := w5.setCell ⟨w.heap.size + 2, 1, none⟩ (.slice A5 m5 c5)) ?_
   refine WK.done ?_
   have HS2 := hid (show (ks.take (k + 1)).map M.Tm.sort = L ++ [y] by rw [List.take_add_one, HU.out, ← HL.out]; simp [HY.out])
   go_wp2_with fail
   go_roundw
   case rel =>
    refine ⟨k + 1, .slice A5 m5 c5, by simp, by omega, ⟨?_, ?_, ?_, ?_, ?_⟩⟩
    ·exact (kbelow_box (HB0.out.up Ed.out) HB5.out (by omega)).far (show w.heap.size ≠ w.heap.size + 2 by omega) _
    ·exact (kbelow_box (HB1.out.up Ed.out) HB5.out (by omega)).far (show w.heap.size + 1 ≠ w.heap.size + 2 by omega) _
    ·exact HX5.out.setAt 1 _
    ·rw [HS2.out]
     exact HO5.out.frame fun b hb1 hb2 => Below.heap_setCell _ _ _ _ (show b ≠ w.heap.size + 2 by omega)
    ·exact (show Ext w w5 from Below.trans (B := w.heap.size) (E.out.trans Ed.out) (Below.mono HB5.out (by omega))).set' (by show w.heap.size ≤ w.heap.size + 2; omega) _
   case measure => simp [intOf]; omega
  ·obtain rfl : n = k := by omega
   have HS2 := hid (show ks.map M.Tm.sort = L by rw [← HL.out, ← HN.out, List.take_length])
   obtain ⟨d0, d1, d2⟩ := box3b HB2.out
   obtain ⟨r0, r1, r2⟩ := box3b HB1.out
   obtain ⟨q0, q1, q2⟩ := free3 HB1.out
   have hz1 := HB1.out.lt
   have hz2 := HB2.out.lt
   go_wp2_with fail
   refine bodyPost_ret (v := sgv nm IA m ic so) (by simp [results, Tryd.results65, go_sem, r0, r1, r2, hz1]) rfl ?_
   rw [HS2.out]
   refine ⟨IA, ic, by rw [← HM.out], ?_, ?_⟩
   ·rw [show L.length = m from HM.out]
    exact (HO.out.frame fun b hb1 hb2 => ((Below.heap_setCell _ _ _ _ (show b ≠ w.heap.size + 1 by omega)).trans (Below.heap_setCell _ _ _ _ (show b ≠ w.heap.size + 1 by omega))).trans (Below.heap_setCell _ _ _ _ (show b ≠ w.heap.size + 1 by omega))).ints
   ·exact ((E.out.set' (by show w.heap.size ≤ w.heap.size + 1; omega) _).set' (by show w.heap.size ≤ w.heap.size + 1; omega) _).set' (by show w.heap.size ≤ w.heap.size + 1; omega) _
end Go.Proofs.YtaoboilkpgphaaaDoor.Q
