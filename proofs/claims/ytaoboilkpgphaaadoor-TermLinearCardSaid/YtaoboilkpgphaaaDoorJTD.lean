/-
  Package term, words: rows of Sigs copied, put one behind the other.
-/
import Derived.Test.YtaoboilkpgphaaaDoorKTSearch
import Derived.Laws.CopyRow
import Derived.Lib.Overlaps
import Derived.Lib.AppendZerosOnto
namespace Go.Proofs.YtaoboilkpgphaaaDoor.Q
set_option linter.unusedSimpArgs false
set_option linter.unusedVariables false
open Go.RowKit

theorem run_copy3 {P : Program} (w : World) (dT sT ty elem : TypeId) (g o dLen dCap : Nat) (a : Addr) (sLen sCap : Nat) (cur : Array Value) (t : TypeId) (cs : List Value)
 (hu : P.underlying dT = some (.slice elem)) (hs : (P.info? elem).map (·.size) = some 3)
 (hg : w.heap[g]? = some (.cells cur t (0, 0))) (hn : cs.length = Nat.min sLen dLen * 3)
 (hsrc : ∀ j v, cs[j]? = some v → w.cell? (a.add j) = some v) (hfit : o + cs.length ≤ cur.size) (h1 : ∀ v ∈ cs, v.oneCell' = true) :
 (Builtin.copy_ #[dT, sT] ty #[.slice (some ⟨g, o, none⟩) dLen dCap, .slice (some a) sLen sCap]).run P w =
  .ok (goInt (Nat.min sLen dLen)) (w.setRow g (cur.toList.take o ++ cs ++ cur.toList.drop (o + cs.length)).toArray) := by
 have hl := run_loadCells_list (P := P) w a cs hsrc
 have hst := run_storeCells_at P g o t cs 0 cur w hg (by simpa using hfit) h1
 cases hq : P.info? elem with
 | none => simp [hq] at hs
 | some i =>
  have hi : i.size = 3 := by simpa [hq] using hs
  simp [Builtin.copy_, run_underlying hu, Builtin.lenOf, Builtin.firstCells, sizeOf, typeInfo, hq, hi, ← hn, hl, hst]
theorem setRow_box {w : World} {g : Nat} {cur cs : Array Value} {t : TypeId} (h : Box w g cur t) : Box (w.setRow g cs) g cs t := setRow_heap w g cur cs t (0, 0) h
theorem setRow_kept (w : World) (g : Nat) (cs : Array Value) : Kept [g] w (w.setRow g cs) := by
 refine ⟨⟨rfl, rfl, rfl, by simp [World.setRow], fun k hk => by omega⟩, fun k hk hg => ?_⟩
 have hne : g ≠ k := fun e => hg (by simp [e])
 simp [World.setRow, Array.getElem?_modify, hne]
theorem setRow_size (w : World) (g : Nat) (cs : Array Value) : (w.setRow g cs).heap.size = w.heap.size := by simp [World.setRow]
section
variable {P : Program} {ops : Array Oper} {Q : Exit → Act → World → Prop} {A : Nat → TypeId × Array Value} {B : Nat} {i : Nat} {r : List (Nat × Nat)} {G : List Nat} {a : Act} {w : World} {d : Option Tmp}
/-- An act that turns what was there, in its turn. -/
theorem WE.lateV {v : Value} {w' : World} {o : Oper} (ho : ops[i]? = some o) (hd : o.dst = d) (hw : Region.wanted o (yielded ops a.tmps) = true)
 (he : (execOp a.eval o).run P w = .ok (.value v) w') (hk : w.heap.size ≤ w'.heap.size) (h : WE P ops Q A B r G (a.put d v) w') : WE P ops Q A B ((i, 4) :: r) G a w := by
 subst hd
 unfold WE wpOp
 simp only [ho, hw, if_true]
 refine .inl ?_
 unfold Oper.wp
 rw [he]
 exact ⟨hk, h⟩
end
theorem kexec_copy {P : Program} {w w' : World} {v u v' : Value} {o : Oper} {a : Act} {t : TypeId} (s x : Operand) (ho : o.op = .call { callee := .builtin .copy, args := #[s, x], argTypes := #[t, t] }) (hs : a.eval s = v) (hx : a.eval x = u)
 (h : (Builtin.copy_ #[t, t] o.type #[v, u]).run P w = .ok v' w') : (execOp a.eval o).run P w = .ok (.value v') w' := by
 unfold execOp
 simp only [ho, resolve, invoke, builtin, Sem.run_bind, Sem.run_pure, Result.andThen_ok, List.map_toArray, List.map_cons, List.map_nil, hs, hx, h]
theorem kexec_app2 {P : Program} {w w' : World} {v u v' : Value} {o : Oper} {a : Act} {t t' : TypeId} (s x : Operand) (ho : o.op = .call { callee := .builtin .append, args := #[s, x], argTypes := #[t, t'] }) (hs : a.eval s = v) (hx : a.eval x = u)
 (h : (Builtin.append_ #[t, t'] o.type #[v, u]).run P w = .ok v' w') : (execOp a.eval o).run P w = .ok (.value v') w' := by
 unfold execOp
 simp only [ho, resolve, invoke, builtin, Sem.run_bind, Sem.run_pure, Result.andThen_ok, List.map_toArray, List.map_cons, List.map_nil, hs, hx, h]
theorem sl_from {g n c k : Nat} (hk : k ≤ n) (hc : k < c) (w : World) : (Instr.slice 30 (.slice (some ⟨g, 0, none⟩) n c) (some (.int .i64 (k : Int))) none none).run Tryd.prog w = .ok (.slice (some ⟨g, k * 3, none⟩) (n - k) (c - k)) w := by
 have h := slice_fromS (A := some ⟨g, 0, none⟩) (n := n) (c := c) hk w
 rw [if_neg (by omega)] at h
 rw [h]
 show Result.ok (Value.slice (some ((⟨g, 0, none⟩ : Addr).add (k * 3))) _ _) w = _
 rw [Addr.add_lit, Nat.zero_add]
theorem sl_to {g n c k : Nat} (hk : k ≤ c) (hc : 0 < c) (w : World) : (Instr.slice 30 (.slice (some ⟨g, 0, none⟩) n c) none (some (.int .i64 (k : Int))) none).run Tryd.prog w = .ok (.slice (some ⟨g, 0, none⟩) k c) w := by
 have h := slice_toS (A := some ⟨g, 0, none⟩) (n := n) (c := c) hk w
 rw [if_neg (by omega)] at h
 rw [h]
 show Result.ok (Value.slice (some ((⟨g, 0, none⟩ : Addr).add (0 * 3))) _ _) w = _
 rw [Addr.add_lit]
theorem overlaps_n {w : World} {gv g o lb cb : Nat} {cs cur : Array Value} {T T' : TypeId} (h : Box w gv cs T) (h' : Box w g cur T') (hne : gv ≠ g) (hsz : cur.size ≠ 0) :
 (callFunc 97 #[.slice (some ⟨gv, 0, none⟩) 1 1, .slice (some ⟨g, o, none⟩) lb cb]).run Tryd.prog w = .ok (.value (.bool false)) w := by
 have hsa : w.shape? gv = some (T, cs.size) := by
  unfold World.shape?
  rw [show w.heap[gv]? = some (.cells cs T (0, 0)) from h]
 have hsb : w.shape? g = some (T', cur.size) := by
  unfold World.shape?
  rw [show w.heap[g]? = some (.cells cur T' (0, 0)) from h']
 rw [run_callFunc_extern Tryd.func97 (by kernel_rfl) (by kernel_rfl) (by kernel_rfl) (e := Extern.SlicesOverlaps.overlaps #[30, 30] #[4]) (by kernel_rfl),
  Lib.run_overlaps_apart w 30 4 53 Tryd.underlying30 3 (fun w => by
   obtain ⟨i0, hi, hz0, hz1, hz2⟩ := info_parts info_sig8
   simp [sizeOf, typeInfo, hi, hz1]) ⟨gv, 0, none⟩ ⟨g, o, none⟩ 1 1 lb cb hne T T' cs.size cur.size hsa hsb hsz (h.free 0) (h.free cs.size)]
 rfl
/-- What Insert gives: a list of the call's own, one more. -/
def GivesIn (base : Nat) (w : World) (v : Value) (n : Nat) (ys : List Value) (e : Ending) (w' : World) : Prop :=
 ∃ v', e = .returned v' ∧ w'.ownsRow base 53 3 v' (n + 1) ys ∧ Kept v.ownBlock.toList w w' ∧ (v'.ownBlock = v.ownBlock ∨ ∃ b, w.heap.size ≤ b ∧ v'.ownBlock = some b)
end Go.Proofs.YtaoboilkpgphaaaDoor.Q

/-
  Contracts of package term: slices.Insert over Sigs.
-/
namespace Go.Proofs.YtaoboilkpgphaaaDoor.Q
set_option linter.unusedSimpArgs false
set_option linter.unusedVariables false
open Go.RowKit

set_option maxHeartbeats 8000000 in
theorem insert_end {base gv n : Nat} {w : World} {v : Value} {xs : List Value} {x0 x1 x2 : Value} {T : TypeId} (ho : w.ownsRow base 53 3 v n xs) (hb : Box w gv #[x0, x1, x2] T) (h1 : ∀ u ∈ [x0, x1, x2], u.oneCell' = true) (hn : n ≤ 1000000) (hbase : base ≤ w.heap.size) :
 Calls Tryd.prog 89 #[v, .int .i64 (n : Int), .slice (some ⟨gv, 0, none⟩) 1 1] w (GivesIn base w v n (xs ++ [x0, x1, x2])) := by
 obtain ⟨A, c, rfl, hnc, hcm⟩ := kshape ho
 have hc9 : c ≤ 9223372036854775807 := by unfold maxLen at hcm; omega
 have hsl := slice_fromS (A := A) (n := n) (c := c) (k := n) (Nat.le_refl _)
 obtain ⟨A1, hA1⟩ : ∃ A1, (if c = n then A else A.map (·.add (n * 3))) = A1 := ⟨_, rfl⟩
 obtain ⟨p, hp⟩ : ∃ p, n - n = p := ⟨_, rfl⟩
 obtain ⟨c1, hc1⟩ : ∃ p, c - n = p := ⟨_, rfl⟩
 rw [hA1, hp, hc1] at hsl
 have HSL := @hid _ @hsl
 have HO := hid ho
 have HB := hid hb
 have H1 := hid h1
 have E := hid (Ext.refl w)
 clear ho hb h1 hsl hA1 hp hc1 hcm
 go_enter Tryd.func89, Tryd.ntmps89
 go_upto_region 1 with (fail)
 refine wp_region_S [(0, 0), (1, 0), (2, 0)] fun wd hb => ?_
 replace E := hid (E.out.trans hb)
 clear hb
 refine WE.p 10 (.slice A n c) ?_
 simp only [Act.put, pA, pB, pC]
 refine WE.p 11 (.int .i64 (n : Int)) ?_
 simp only [Act.put, pA, pB, pC]
 refine WE.q 12 (.slice A1 p c1) rfl (fun w' hk => by have hs := HSL.out w'; go_simp) ?_
 simp only [Act.put, pA, pB, pC]
 refine WE.done ?_
 go_upto_region 7 with (fail)
 refine wp_region_S [(0, 0), (1, 0), (2, 4), (3, 0)] fun wd2 hb => ?_
 replace E := hid (E.out.trans hb)
 clear hb
 refine WE.p 23 (.slice A n c) ?_
 simp only [Act.put, pA, pB, pC]
 refine WE.p 24 (.slice (some ⟨gv, 0, none⟩) 1 1) ?_
 simp only [Act.put, pA, pB, pC]
 obtain ⟨i0, hi, hz0, hz1, hz2⟩ := info_parts info_sig8
 have hbx := HB.out.up E.out
 obtain ⟨v', w', hrun, ho', hg, -, hv'⟩ := run_append_own_at (P := Tryd.prog) wd2 base 30 30 53 i0 _ 3 48 Tryd.underlying30 hi hz0 hz1 hz2 rfl (by decide) (.slice A n c) n xs (kframe HO.out fun b _ hb => E.out.block b hb) ⟨gv, 0, none⟩ 1 1 [x0, x1, x2] rfl
  (by
   intro j u hj
   rw [Addr.add_lit, Nat.zero_add]
   rcases j with _ | _ | _ | j
   ·simp at hj; subst hj; exact hbx.k 0
   ·simp at hj; subst hj; exact hbx.k 1
   ·simp at hj; subst hj; exact hbx.k 2
   ·simp at hj) H1.out (by unfold maxLen; omega) (by omega) (Nat.le_trans hbase E.out.size)
 obtain ⟨A2, c2, rfl, -, -⟩ := kshape ho'
 refine WE.lateV (d := some 25) rfl rfl (by rfl) (kexec_app2 (.tmp 23) (.tmp 24) rfl rfl rfl hrun) (Nat.le_trans (kgrown hg).1.size (Nat.le_refl _)) ?_
 simp only [Act.put, pA, pB, pC]
 refine WE.p 6 (.slice A2 (n + 1) c2) ?_
 simp only [Act.put, pA, pB, pC]
 refine WE.done ?_
 have HOO := hid ho'
 have HK := hid ((E.out.kept _).trans (kgrown hg))
 have HV := hid hv'
 have HES := hid E.out.size
 clear hrun ho' hg hv' hbx hi hz0 hz1 hz2
 go_wp2_with fail
 go_ret
 exact ⟨_, rfl, HOO.out, HK.out, HV.out.imp id fun h => ⟨_, HES.out, h⟩⟩
theorem ins_list {V : Type} {xs cur ys : List V} {p p1 N : Nat} (hx : cur.take N = xs) (hl : xs.length = N) (hp : p ≤ N) (h1 : p1 = p + ys.length) (hc : p1 ≤ cur.length) :
 ((((cur.take p1 ++ xs.drop p ++ cur.drop (p1 + (xs.drop p).length)).take p) ++ ys ++ ((cur.take p1 ++ xs.drop p ++ cur.drop (p1 + (xs.drop p).length)).drop (p + ys.length))).take (N + ys.length)) = xs.take p ++ ys ++ xs.drop p := by
 have hcp : (cur.take p1).length = p1 := by rw [List.length_take]; omega
 have e1 : (cur.take p1 ++ xs.drop p ++ cur.drop (p1 + (xs.drop p).length)).take p = xs.take p := by
  rw [List.append_assoc, List.take_append_of_le_length (by omega), List.take_take, ← hx, List.take_take]
  congr 1
  omega
 have e2 : (cur.take p1 ++ xs.drop p ++ cur.drop (p1 + (xs.drop p).length)).drop (p + ys.length) = xs.drop p ++ cur.drop (p1 + (xs.drop p).length) := by
  rw [List.append_assoc, ← h1]
  exact List.drop_left' hcp
 rw [e1, e2, ← List.append_assoc]
 rw [List.take_append_of_le_length (by simp [hl]; omega)]
 exact List.take_of_length_le (by simp [hl]; omega)
set_option maxHeartbeats 16000000 in
set_option maxRecDepth 100000 in
theorem insert_room {base gv g n c k : Nat} {w : World} {xs : List Value} {x0 x1 x2 : Value} {T : TypeId} (ho : w.ownsRow base 53 3 (.slice (some ⟨g, 0, none⟩) n c) n xs) (hb : Box w gv #[x0, x1, x2] T) (h1 : ∀ u ∈ [x0, x1, x2], u.oneCell' = true) (h1x : ∀ u ∈ xs, u.oneCell' = true) (hn : n ≤ 1000000) (hk : k < n) (hroom : n + 1 ≤ c) (hne : gv ≠ g) (hbase : base ≤ w.heap.size) :
 Calls Tryd.prog 89 #[.slice (some ⟨g, 0, none⟩) n c, .int .i64 (k : Int), .slice (some ⟨gv, 0, none⟩) 1 1] w (GivesIn base w (.slice (some ⟨g, 0, none⟩) n c) n (xs.take (k * 3) ++ [x0, x1, x2] ++ xs.drop (k * 3))) := by
 obtain ⟨hxl, ho2⟩ := ho
 rcases ho2 with ⟨h, _⟩ | ⟨g', cap, cur, hv, hbg, hg, hnc, hcm, hcs, hct⟩
 ·cases h
 injection hv with hv1 _ hv2
 injection hv1 with hv1
 injection hv1 with hv1
 subst hv1 hv2
 have hc9 : c ≤ 9223372036854775807 := by unfold maxLen at hcm; omega
 obtain ⟨n1, hn1⟩ : ∃ n1, n + 1 = n1 := ⟨_, rfl⟩
 obtain ⟨k1, hk1⟩ : ∃ k1, k + 1 = k1 := ⟨_, rfl⟩
 have hn1i : (n : Int) + 1 = (n1 : Int) := by omega
 have hk1i : (k : Int) + 1 = (k1 : Int) := by omega
 obtain ⟨p, hp⟩ : ∃ p, k * 3 = p := ⟨_, rfl⟩
 obtain ⟨p1, hp1⟩ : ∃ p, k1 * 3 = p := ⟨_, rfl⟩
 obtain ⟨m0, hm0⟩ : ∃ m, n - k = m := ⟨_, rfl⟩
 obtain ⟨m1, hm1⟩ : ∃ m, n1 - k1 = m := ⟨_, rfl⟩
 obtain ⟨m2, hm2⟩ : ∃ m, n1 - k = m := ⟨_, rfl⟩
 obtain ⟨d0, hd0⟩ : ∃ m, c - k = m := ⟨_, rfl⟩
 obtain ⟨d1, hd1⟩ : ∃ m, c - k1 = m := ⟨_, rfl⟩
 have HS0 := hid (show ∀ w, (Instr.slice 30 (.slice (some ⟨g, 0, none⟩) n c) (some (.int .i64 (k : Int))) none none).run Tryd.prog w = .ok (.slice (some ⟨g, p, none⟩) m0 d0) w from fun w => by rw [← hp, ← hm0, ← hd0]; exact sl_from (by omega) (by omega) w)
 have HS1 := hid (show ∀ w, (Instr.slice 30 (.slice (some ⟨g, 0, none⟩) n c) none (some (.int .i64 (n1 : Int))) none).run Tryd.prog w = .ok (.slice (some ⟨g, 0, none⟩) n1 c) w from fun w => sl_to (by omega) (by omega) w)
 have HS2 := hid (show ∀ w, (Instr.slice 30 (.slice (some ⟨g, 0, none⟩) n1 c) (some (.int .i64 (k1 : Int))) none none).run Tryd.prog w = .ok (.slice (some ⟨g, p1, none⟩) m1 d1) w from fun w => by rw [← hp1, ← hm1, ← hd1]; exact sl_from (by omega) (by omega) w)
 have HS3 := hid (show ∀ w, (Instr.slice 30 (.slice (some ⟨g, 0, none⟩) n1 c) (some (.int .i64 (k : Int))) none none).run Tryd.prog w = .ok (.slice (some ⟨g, p, none⟩) m2 d0) w from fun w => by rw [← hp, ← hm2, ← hd0]; exact sl_from (by omega) (by omega) w)
 have HG := hid (show Box w g cur 53 from hg)
 have HB := hid hb
 have H1 := hid h1
 have H1X := hid h1x
 have HX := hid (show xs.length = n * 3 ∧ cur.toList.take (n * 3) = xs ∧ cur.size = c * 3 from ⟨hxl, hct, hcs⟩)
 have HAR := hid (show n1 = n + 1 ∧ k1 = k + 1 ∧ p = k * 3 ∧ p1 = k * 3 + 3 ∧ m0 = n - k ∧ m1 = n - k ∧ m2 = n + 1 - k from ⟨by omega, by omega, by omega, by omega, by omega, by omega, by omega⟩)
 have hw1 : IntKind.i64.wrap (n1 : Int) = (n1 : Int) := by rw [IntKind.wrap_i64]; omega
 have hw2 : IntKind.i64.wrap (k1 : Int) = (k1 : Int) := by rw [IntKind.wrap_i64]; omega
 have hqk : ((k : Int) == (n : Int)) = false := by simp; omega
 have hqc : decide ((c : Int) < (n1 : Int)) = false := by simp; omega
 have hcz : cur.size ≠ 0 := by omega
 have E := hid (Ext.refl w)
 clear hb h1 h1x hxl hct hcs hg hp hp1 hm0 hm1 hm2 hd0 hd1 hk1 hcm hnc
 go_enter Tryd.func89, Tryd.ntmps89
 go_upto_region 1 with (fail)
 refine wp_region_S [(0, 0), (1, 0), (2, 0)] fun wd hb => ?_
 replace E := hid (E.out.trans hb)
 clear hb
 refine WE.p 10 (.slice (some ⟨g, 0, none⟩) n c) ?_
 simp only [Act.put, pA, pB, pC]
 refine WE.p 11 (.int .i64 (k : Int)) ?_
 simp only [Act.put, pA, pB, pC]
 refine WE.q 12 (.slice (some ⟨g, p, none⟩) m0 d0) rfl (fun w' hk => by have hs := HS0.out w'; go_simp) ?_
 simp only [Act.put, pA, pB, pC]
 refine WE.done ?_
 go_upto_region 13 with (fail)
 refine wp_region_S [(0, 0), (1, 0), (2, 0), (3, 0), (4, 0), (5, 0)] fun wd hb => ?_
 replace E := hid (E.out.trans hb)
 clear hb
 refine WE.p 56 (.slice (some ⟨g, 0, none⟩) n c) ?_
 simp only [Act.put, pA, pB, pC]
 refine WE.p 57 (.int .i64 (n : Int)) ?_
 simp only [Act.put, pA, pB, pC]
 refine WE.p 58 (.int .i64 1) ?_
 simp only [Act.put, pA, pB, pC]
 refine WE.p 59 (.int .i64 (n1 : Int)) ?_
 simp only [Act.put, pA, pB, pC]
 refine WE.q 60 (.slice (some ⟨g, 0, none⟩) n1 c) rfl (fun w' hk => by have hs := HS1.out w'; go_simp) ?_
 simp only [Act.put, pA, pB, pC]
 refine WE.p 0 (.slice (some ⟨g, 0, none⟩) n1 c) ?_
 simp only [Act.put, pA, pB, pC]
 refine WE.done ?_
 go_upto_region 14 with (fail)
 refine wp_region_S [(0, 0), (1, 0), (2, 0), (3, 0), (4, 0), (5, 0), (6, 0), (7, 0)] fun wd hb => ?_
 replace E := hid (E.out.trans hb)
 clear hb
 refine WE.p 61 (.slice (some ⟨gv, 0, none⟩) 1 1) ?_
 simp only [Act.put, pA, pB, pC]
 refine WE.p 62 (.slice (some ⟨g, 0, none⟩) n1 c) ?_
 simp only [Act.put, pA, pB, pC]
 refine WE.p 63 (.int .i64 (k : Int)) ?_
 simp only [Act.put, pA, pB, pC]
 refine WE.p 64 (.int .i64 1) ?_
 simp only [Act.put, pA, pB, pC]
 refine WE.p 65 (.int .i64 (k1 : Int)) ?_
 simp only [Act.put, pA, pB, pC]
 refine WE.q 66 (.slice (some ⟨g, p1, none⟩) m1 d1) rfl (fun w' hk => by have hs := HS2.out w'; go_simp) ?_
 simp only [Act.put, pA, pB, pC]
 refine WE.q 67 (.bool false) rfl (fun w' hk => by have hv := overlaps_n (o := p1) (lb := m1) (cb := d1) (HB.out.up (E.out.trans hk)) (HG.out.up (E.out.trans hk)) hne hcz; go_simp) ?_
 simp only [Act.put, pA, pB, pC]
 refine WE.p 68 (.bool true) ?_
 simp only [Act.put, pA, pB, pC]
 refine WE.done ?_
 go_wp2_with fail
 refine wp_region_D [(0, 0), (1, 0), (2, 0), (3, 0), (4, 0), (5, 0), (6, 0), (7, 0), (8, 4)] fun wd hb => ?_
 replace E := hid (E.out.trans hb)
 clear hb
 refine WE.p 69 (.slice (some ⟨g, 0, none⟩) n1 c) ?_
 simp only [Act.put, pA, pB, pC]
 refine WE.p 70 (.int .i64 (k : Int)) ?_
 simp only [Act.put, pA, pB, pC]
 refine WE.p 71 (.int .i64 1) ?_
 simp only [Act.put, pA, pB, pC]
 refine WE.p 72 (.int .i64 (k1 : Int)) ?_
 simp only [Act.put, pA, pB, pC]
 refine WE.q 73 (.slice (some ⟨g, p1, none⟩) m1 d1) rfl (fun w' hk => by have hs := HS2.out w'; go_simp) ?_
 simp only [Act.put, pA, pB, pC]
 refine WE.p 74 (.slice (some ⟨g, 0, none⟩) n1 c) ?_
 simp only [Act.put, pA, pB, pC]
 refine WE.p 75 (.int .i64 (k : Int)) ?_
 simp only [Act.put, pA, pB, pC]
 refine WE.q 76 (.slice (some ⟨g, p, none⟩) m2 d0) rfl (fun w' hk => by have hs := HS3.out w'; go_simp) ?_
 simp only [Act.put, pA, pB, pC]
 have hsz3 : (Tryd.prog.info? 53).map (·.size) = some 3 := by
  obtain ⟨i0, hi, hz0, hz1, hz2⟩ := info_parts info_sig8
  rw [hi]; simp [hz1]
 obtain ⟨a1, a2, a3, a4, a5, a6, a7⟩ := HAR.out
 obtain ⟨hxl, hct, hcs⟩ := HX.out
 have hcl : cur.toList.length = c * 3 := by simpa using hcs
 have hdl : (xs.drop p).length = m1 * 3 := by rw [List.length_drop, hxl]; omega
 have hmn : Nat.min m2 m1 = m1 := by simp only [Nat.min_def]; split <;> omega
 have hbg2 := HG.out.up E.out
 have hrun := run_copy3 (P := Tryd.prog) wd 30 30 3 53 g p1 m1 d1 ⟨g, p, none⟩ m2 d0 cur 53 (xs.drop p) Tryd.underlying30 hsz3 hbg2 (by rw [hmn, hdl])
  (by
   intro j u hj
   rw [Addr.add_lit]
   refine hbg2.cell ?_
   rw [List.getElem?_drop, ← hct, List.getElem?_take] at hj
   split at hj
   ·simpa using hj
   ·cases hj)
  (by rw [hdl]; omega) (fun u hu => H1X.out u (List.mem_of_mem_drop hu))
 refine WE.lateV (d := some 77) rfl rfl (by rfl) (kexec_copy (.tmp 73) (.tmp 76) rfl rfl rfl hrun) (by rw [setRow_size]; exact Nat.le_refl _) ?_
 simp only [Act.put, pA, pB, pC]
 refine WE.done ?_
 obtain ⟨cur1, hcur1⟩ : ∃ c1, c1 = (cur.toList.take p1 ++ xs.drop p ++ cur.toList.drop (p1 + (xs.drop p).length)).toArray := ⟨_, rfl⟩
 rw [← hcur1]
 obtain ⟨W, hW⟩ : ∃ W, W = wd.setRow g cur1 := ⟨_, rfl⟩
 rw [← hW]
 have HG1 := hid (show Box W g cur1 53 by rw [hW]; exact setRow_box hbg2)
 have HK1 := hid (show Kept [g] w W by rw [hW]; exact (E.out.kept _).trans (setRow_kept _ _ _))
 have HB1 := hid (show Box W gv #[x0, x1, x2] T by rw [hW]; exact (HB.out.up E.out).kept (setRow_kept _ _ _) (by simpa using hne))
 have HC1 := hid hcur1
 clear hW hcur1 hrun hbg2 hmn hdl hcl hxl hct hcs a1 a2 a3 a4 a5 a6 a7 E
 go_upto_region 16 with (fail)
 refine wp_region_S [(0, 0), (1, 0), (2, 0), (3, 0), (4, 4)] fun wd2 hb => ?_
 replace HG1 := hid (HG1.out.up hb)
 replace HB1 := hid (HB1.out.up hb)
 replace HK1 := hid (HK1.out.trans (hb.kept _))
 clear hb
 refine WE.p 78 (.slice (some ⟨g, 0, none⟩) n1 c) ?_
 simp only [Act.put, pA, pB, pC]
 refine WE.p 79 (.int .i64 (k : Int)) ?_
 simp only [Act.put, pA, pB, pC]
 refine WE.q 80 (.slice (some ⟨g, p, none⟩) m2 d0) rfl (fun w' hk => by have hs := HS3.out w'; go_simp) ?_
 simp only [Act.put, pA, pB, pC]
 refine WE.p 81 (.slice (some ⟨gv, 0, none⟩) 1 1) ?_
 simp only [Act.put, pA, pB, pC]
 obtain ⟨a1, a2, a3, a4, a5, a6, a7⟩ := HAR.out
 obtain ⟨hxl, hct, hcs⟩ := HX.out
 have hcl : cur.toList.length = c * 3 := by simpa using hcs
 have hdl : (xs.drop p).length = m1 * 3 := by rw [List.length_drop, hxl]; omega
 have hc1l : cur1.toList.length = c * 3 := by
  rw [HC1.out]
  simp only [List.length_append, List.length_take, List.length_drop, hcl, hxl]
  omega
 have hmn : Nat.min 1 m2 = 1 := by simp only [Nat.min_def]; split <;> omega
 have hrun := run_copy3 (P := Tryd.prog) wd2 30 30 3 53 g p m2 d0 ⟨gv, 0, none⟩ 1 1 cur1 53 [x0, x1, x2] Tryd.underlying30 hsz3 HG1.out (by rw [hmn]; rfl)
  (by
   intro j u hj
   rw [Addr.add_lit, Nat.zero_add]
   rcases j with _ | _ | _ | j
   ·simp at hj; subst hj; exact HB1.out.k 0
   ·simp at hj; subst hj; exact HB1.out.k 1
   ·simp at hj; subst hj; exact HB1.out.k 2
   ·simp at hj)
  (by have : cur1.size = c * 3 := by simpa using hc1l
      rw [this]; show p + 3 ≤ _; omega) H1.out
 refine WE.lateV (d := some 82) rfl rfl (by rfl) (kexec_copy (.tmp 80) (.tmp 81) rfl rfl rfl hrun) (by rw [setRow_size]; exact Nat.le_refl _) ?_
 simp only [Act.put, pA, pB, pC]
 refine WE.done ?_
 obtain ⟨cur2, hcur2⟩ : ∃ c1, c1 = (cur1.toList.take p ++ [x0, x1, x2] ++ cur1.toList.drop (p + [x0, x1, x2].length)).toArray := ⟨_, rfl⟩
 rw [← hcur2]
 obtain ⟨W, hW⟩ : ∃ W, W = wd2.setRow g cur2 := ⟨_, rfl⟩
 rw [← hW]
 have HG2 := hid (show Box W g cur2 53 by rw [hW]; exact setRow_box HG1.out)
 have HK2 := hid (show Kept [g] w W by rw [hW]; exact HK1.out.trans (setRow_kept _ _ _))
 have HC2 := hid (show cur2.size = c * 3 ∧ cur2.toList.take (n1 * 3) = xs.take (k * 3) ++ [x0, x1, x2] ++ xs.drop (k * 3) by
  have hc2 : cur2.toList = cur1.toList.take p ++ [x0, x1, x2] ++ cur1.toList.drop (p + [x0, x1, x2].length) := by rw [hcur2]
  have hc1 : cur1.toList = cur.toList.take p1 ++ xs.drop p ++ cur.toList.drop (p1 + (xs.drop p).length) := by rw [HC1.out]
  have hlen2 : cur2.toList.length = c * 3 := by
   rw [hc2]
   simp only [List.length_append, List.length_take, List.length_drop, hc1l]
   show min p (c * 3) + 3 + (c * 3 - (p + 3)) = _
   omega
  refine ⟨by simpa using hlen2, ?_⟩
  have := ins_list (ys := [x0, x1, x2]) (p := p) (p1 := p1) hct hxl (by omega) (by show p1 = p + 3; omega) (by rw [hcl]; omega)
  rw [hc2, hc1, show n1 * 3 = n * 3 + [x0, x1, x2].length by show _ = n * 3 + 3; omega, this, a3])
 clear hW hcur2 hrun hmn hdl hcl hc1l hxl hct hcs a1 a2 a3 a4 a5 a6 a7
 go_wp2_with fail
 go_ret
 obtain ⟨a1, a2, a3, a4, a5, a6, a7⟩ := HAR.out
 refine ⟨.slice (some ⟨g, 0, none⟩) n1 c, rfl, ⟨?_, .inr ⟨g, c, cur2, by rw [hn1], hbg, HG2.out, by omega, by unfold maxLen; omega, HC2.out.1, by rw [hn1]; exact HC2.out.2⟩⟩, HK2.out, .inl rfl⟩
 have h2 := congrArg List.length HC2.out.2
 rw [← h2, List.length_take]
 have := HC2.out.1
 simp
 omega
end Go.Proofs.YtaoboilkpgphaaaDoor.Q

/-
  Contracts of package term: slices.Insert over Sigs, into a new row; Insert in all.
-/
namespace Go.Proofs.YtaoboilkpgphaaaDoor.Q
set_option linter.unusedSimpArgs false
set_option linter.unusedVariables false
open Go.RowKit

theorem grow_list {V : Type} {xs R ys zs : List V} {p p1 : Nat} (hx : R.take p = xs.take p) (hp : p ≤ xs.length) (h1 : p1 = p + ys.length) (hc : p1 + zs.length ≤ R.length) :
 (((R.take p ++ ys ++ R.drop (p + ys.length)).take p1) ++ zs ++ ((R.take p ++ ys ++ R.drop (p + ys.length)).drop (p1 + zs.length))).take (p1 + zs.length) = xs.take p ++ ys ++ zs := by
 have hl : (R.take p ++ ys).length = p1 := by rw [List.length_append, List.length_take]; omega
 have e1 : (R.take p ++ ys ++ R.drop (p + ys.length)).take p1 = R.take p ++ ys := by
  rw [← hl]; exact List.take_left
 rw [e1, List.take_append_of_le_length (by rw [List.length_append, hl]; exact Nat.le_refl _), List.take_of_length_le (by rw [List.length_append, hl]; exact Nat.le_refl _), hx]
theorem grow_len {V : Type} {R ys zs : List V} {p p1 : Nat} (h1 : p1 = p + ys.length) (hc : p1 + zs.length ≤ R.length) :
 (((R.take p ++ ys ++ R.drop (p + ys.length)).take p1) ++ zs ++ ((R.take p ++ ys ++ R.drop (p + ys.length)).drop (p1 + zs.length))).length = R.length := by
 simp only [List.length_append, List.length_take, List.length_drop]
 omega
set_option maxHeartbeats 16000000 in
set_option maxRecDepth 100000 in
theorem insert_grow {base gv g n c k : Nat} {w : World} {xs : List Value} {x0 x1 x2 : Value} {T : TypeId} (ho : w.ownsRow base 53 3 (.slice (some ⟨g, 0, none⟩) n c) n xs) (hb : Box w gv #[x0, x1, x2] T) (h1 : ∀ u ∈ [x0, x1, x2], u.oneCell' = true) (h1x : ∀ u ∈ xs, u.oneCell' = true) (hn : n ≤ 1000000) (hk : k < n) (hroom : c < n + 1) (hbase : base ≤ w.heap.size) :
 Calls Tryd.prog 89 #[.slice (some ⟨g, 0, none⟩) n c, .int .i64 (k : Int), .slice (some ⟨gv, 0, none⟩) 1 1] w (GivesIn base w (.slice (some ⟨g, 0, none⟩) n c) n (xs.take (k * 3) ++ [x0, x1, x2] ++ xs.drop (k * 3))) := by
 obtain ⟨hxl, ho2⟩ := ho
 rcases ho2 with ⟨h, _⟩ | ⟨g', cap, cur, hv, hbg, hg, hnc, hcm, hcs, hct⟩
 ·cases h
 injection hv with hv1 _ hv2
 injection hv1 with hv1
 injection hv1 with hv1
 subst hv1 hv2
 obtain rfl : c = n := by omega
 have hc9 : c ≤ 9223372036854775807 := by unfold maxLen at hcm; omega
 obtain ⟨n1, hn1⟩ : ∃ n1, c + 1 = n1 := ⟨_, rfl⟩
 obtain ⟨k1, hk1⟩ : ∃ k1, k + 1 = k1 := ⟨_, rfl⟩
 have hn1i : (c : Int) + 1 = (n1 : Int) := by omega
 have hk1i : (k : Int) + 1 = (k1 : Int) := by omega
 obtain ⟨p, hp⟩ : ∃ p, k * 3 = p := ⟨_, rfl⟩
 obtain ⟨p1, hp1⟩ : ∃ p, k1 * 3 = p := ⟨_, rfl⟩
 obtain ⟨m0, hm0⟩ : ∃ m, c - k = m := ⟨_, rfl⟩
 obtain ⟨m1, hm1⟩ : ∃ m, n1 - k1 = m := ⟨_, rfl⟩
 obtain ⟨m2, hm2⟩ : ∃ m, n1 - k = m := ⟨_, rfl⟩
 have hm2i : (n1 : Int) - (k : Int) = (m2 : Int) := by omega
 have hkm2 : k + m2 = n1 := by omega
 have HS0 := hid (show ∀ w, (Instr.slice 30 (.slice (some ⟨g, 0, none⟩) c c) (some (.int .i64 (k : Int))) none none).run Tryd.prog w = .ok (.slice (some ⟨g, p, none⟩) m0 m0) w from fun w => by rw [← hp, ← hm0]; exact sl_from (by omega) (by omega) w)
 have HS1 := hid (show ∀ w, (Instr.slice 30 (.slice (some ⟨g, 0, none⟩) c c) none (some (.int .i64 (k : Int))) none).run Tryd.prog w = .ok (.slice (some ⟨g, 0, none⟩) k c) w from fun w => sl_to (by omega) (by omega) w)
 have HG := hid (show Box w g cur 53 from hg)
 have HB := hid hb
 have H1 := hid h1
 have H1X := hid h1x
 have HX := hid (show xs.length = c * 3 ∧ cur.toList.take (c * 3) = xs ∧ cur.size = c * 3 from ⟨hxl, hct, hcs⟩)
 have HAR := hid (show n1 = c + 1 ∧ k1 = k + 1 ∧ p = k * 3 ∧ p1 = k * 3 + 3 ∧ m0 = c - k ∧ m1 = c - k ∧ m2 = c + 1 - k from ⟨by omega, by omega, by omega, by omega, by omega, by omega, by omega⟩)
 have hw1 : IntKind.i64.wrap (n1 : Int) = (n1 : Int) := by rw [IntKind.wrap_i64]; omega
 have hw2 : IntKind.i64.wrap (k1 : Int) = (k1 : Int) := by rw [IntKind.wrap_i64]; omega
 have hw3 : IntKind.i64.wrap (m2 : Int) = (m2 : Int) := by rw [IntKind.wrap_i64]; omega
 have hqk : ((k : Int) == (c : Int)) = false := by simp; omega
 have hqc : (c : Int) < (n1 : Int) := by omega
 have E := hid (Ext.refl w)
 clear hb h1 h1x hxl hct hcs hg hp hp1 hm0 hm1 hm2 hk1 hcm hnc hroom
 go_enter Tryd.func89, Tryd.ntmps89
 go_upto_region 1 with (fail)
 refine wp_region_S [(0, 0), (1, 0), (2, 0)] fun wd hb => ?_
 replace E := hid (E.out.trans hb)
 clear hb
 refine WE.p 10 (.slice (some ⟨g, 0, none⟩) c c) ?_
 simp only [Act.put, pA, pB, pC]
 refine WE.p 11 (.int .i64 (k : Int)) ?_
 simp only [Act.put, pA, pB, pC]
 refine WE.q 12 (.slice (some ⟨g, p, none⟩) m0 m0) rfl (fun w' hk => by have hs := HS0.out w'; go_simp) ?_
 simp only [Act.put, pA, pB, pC]
 refine WE.done ?_
 go_upto_region 9 with (fail)
 refine wp_region_S [(0, 0), (1, 0), (2, 0), (3, 0), (4, 0), (5, 0), (6, 0), (7, 0), (8, 1), (9, 0)] fun wd hb => ?_
 replace E := hid (E.out.trans hb)
 clear hb
 refine WE.p 32 (.slice (some ⟨g, 0, none⟩) c c) ?_
 simp only [Act.put, pA, pB, pC]
 refine WE.p 33 (.int .i64 (k : Int)) ?_
 simp only [Act.put, pA, pB, pC]
 refine WE.q 34 (.slice (some ⟨g, 0, none⟩) k c) rfl (fun w' hk => by have hs := HS1.out w'; go_simp) ?_
 simp only [Act.put, pA, pB, pC]
 refine WE.p 35 (.int .i64 (c : Int)) ?_
 simp only [Act.put, pA, pB, pC]
 refine WE.p 36 (.int .i64 1) ?_
 simp only [Act.put, pA, pB, pC]
 refine WE.p 37 (.int .i64 (n1 : Int)) ?_
 simp only [Act.put, pA, pB, pC]
 refine WE.p 38 (.int .i64 (k : Int)) ?_
 simp only [Act.put, pA, pB, pC]
 refine WE.p 39 (.int .i64 (m2 : Int)) ?_
 simp only [Act.put, pA, pB, pC]
 obtain ⟨i0, hi0, hz0, hzs, hzb⟩ := info_parts info_sig8
 obtain ⟨a1, a2, a3, a4, a5, a6, a7⟩ := HAR.out
 obtain ⟨hxl, hct, hcs⟩ := HX.out
 have hbg1 := HG.out.up E.out
 have hold : (Builtin.firstCells i0.size k (.slice (some ⟨g, 0, none⟩) k c)).run Tryd.prog wd.drew = .ok (xs.take p).toArray wd.drew := by
  rw [hzs]
  exact run_firstCells_some wd.drew 3 k ⟨g, 0, none⟩ k c (xs.take p) (by rw [List.length_take]; omega) (fun j u hj => by
   rw [Addr.add_lit, Nat.zero_add]
   refine (show Box wd.drew g cur 53 from hbg1).cell ?_
   rw [List.getElem?_take] at hj
   split at hj
   ·rw [← hct, List.getElem?_take] at hj
    split at hj
    ·simpa using hj
    ·cases hj
   ·cases hj)
 have hrun := Lib.run_append_grow_zeros (P := Tryd.prog) wd 30 3 30 53 i0 _ .i64 .i64 Tryd.underlying30 Tryd.underlying3 hi0 hz0 (some ⟨g, 0, none⟩) k c (xs.take p) hold m2 (by omega) (by omega) (by omega) (by omega) (by rw [hzb]; omega) (by rw [hzb, hkm2]; exact growslice_fits (by omega) (by omega))
 obtain ⟨G, hG⟩ : ∃ G, grownCap wd (k + m2) c 53 = G := ⟨_, rfl⟩
 have hGn : n1 ≤ G := by rw [← hG, ← hkm2]; exact grownCap_ge wd _ _ _
 have hGm : G ≤ maxLen := by rw [← hG]; exact grownCap_le_maxLen wd _ _ _ (by unfold maxLen; omega)
 rw [hG, hkm2] at hrun
 obtain ⟨ROW, hROW⟩ : ∃ R : Array Value, ((xs.take p).toArray ++ Builtin.zeroCells (Value.agg #[Value.string ⟨#[]⟩, Value.slice none 0 0, Value.int IntKind.i64 0]).cells m2 ++ Builtin.zeroCells (Value.agg #[Value.string ⟨#[]⟩, Value.slice none 0 0, Value.int IntKind.i64 0]).cells (G - n1)) = R := ⟨_, rfl⟩
 rw [hROW] at hrun
 have hzc : (Value.agg #[Value.string ⟨#[]⟩, Value.slice none 0 0, Value.int IntKind.i64 0]).cells.size = 3 := rfl
 have HRS := hid (show ROW.size = G * 3 ∧ ROW.toList.take p = xs.take p by
  constructor
  ·rw [← hROW, Array.size_append, Array.size_append, size_zeroCells, size_zeroCells, hzc]
   simp only [List.size_toArray, List.length_take]
   omega
  ·rw [← hROW]
   simp only [Array.toList_append, List.append_assoc]
   rw [List.take_append_of_le_length (by simp only [List.length_take]; omega), List.take_take]
   congr 1
   omega)
 obtain ⟨W1, hW1⟩ : ∃ W1, W1 = wd.drew.alloc (.cells ROW 53) := ⟨_, rfl⟩
 rw [← hW1] at hrun
 have hE1 : Ext wd W1 := by rw [hW1]; exact ((Ext.refl wd).drew').alloc' _
 obtain ⟨g2, hg2⟩ : ∃ g2, wd.heap.size = g2 := ⟨_, rfl⟩
 rw [hg2] at hrun
 have HG2 := hid (show Box W1 g2 ROW 53 by rw [hW1, ← hg2]; exact Box.new wd.drew _ _)
 have HGE := hid (show w.heap.size ≤ g2 by rw [← hg2]; exact E.out.size)
 refine WE.act (d := some 40) rfl rfl (by rfl) (kexec_app2 (.tmp 34) (.tmp 39) rfl rfl rfl hrun) hE1 ?_
 simp only [Act.put, pA, pB, pC]
 clear hrun hold hct hROW hzc hbg1 hi0 hz0 hzs hzb hxl hcs a1 a2 a3 a4 a5 a6 a7 hG hg2
 refine WE.p 9 (.slice (some ⟨g2, 0, none⟩) n1 G) ?_
 simp only [Act.put, pA, pB, pC]
 refine WE.done ?_
 replace E := hid (E.out.trans hE1)
 obtain ⟨a1, a2, a3, a4, a5, a6, a7⟩ := HAR.out
 have HGM := hid hGm
 have HGN := hid hGn
 obtain ⟨d0, hd0⟩ : ∃ m, G - k = m := ⟨_, rfl⟩
 obtain ⟨d1, hd1⟩ : ∃ m, G - k1 = m := ⟨_, rfl⟩
 have hGc : G ≤ 9223372036854775807 := by unfold maxLen at hGm; omega
 have HS2 := hid (show ∀ w, (Instr.slice 30 (.slice (some ⟨g2, 0, none⟩) n1 G) (some (.int .i64 (k : Int))) none none).run Tryd.prog w = .ok (.slice (some ⟨g2, p, none⟩) m2 d0) w from fun w => by rw [a3, a7, ← hd0, show c + 1 - k = n1 - k by omega]; exact sl_from (by omega) (by omega) w)
 have HS3 := hid (show ∀ w, (Instr.slice 30 (.slice (some ⟨g2, 0, none⟩) n1 G) (some (.int .i64 (k1 : Int))) none none).run Tryd.prog w = .ok (.slice (some ⟨g2, p1, none⟩) m1 d1) w from fun w => by rw [show p1 = k1 * 3 by omega, show m1 = n1 - k1 by omega, ← hd1]; exact sl_from (by omega) (by omega) w)
 have hne2 : g ≠ g2 := by have := HG.out.lt; have := HGE.out; omega
 have hnev : gv ≠ g2 := by have := HB.out.lt; have := HGE.out; omega
 clear hW1 hE1 hd0 hd1 hGm hGn a1 a2 a3 a4 a5 a6 a7 hm2i hkm2
 go_upto_region 10 with (fail)
 refine wp_region_S [(0, 0), (1, 0), (2, 0), (3, 0), (4, 4)] fun wd2 hb => ?_
 replace E := hid (E.out.trans hb)
 replace HG2 := hid (HG2.out.up hb)
 clear hb
 refine WE.p 41 (.slice (some ⟨g2, 0, none⟩) n1 G) ?_
 simp only [Act.put, pA, pB, pC]
 refine WE.p 42 (.int .i64 (k : Int)) ?_
 simp only [Act.put, pA, pB, pC]
 refine WE.q 43 (.slice (some ⟨g2, p, none⟩) m2 d0) rfl (fun w' hk => by have hs := HS2.out w'; go_simp) ?_
 simp only [Act.put, pA, pB, pC]
 refine WE.p 44 (.slice (some ⟨gv, 0, none⟩) 1 1) ?_
 simp only [Act.put, pA, pB, pC]
 have hsz3 : (Tryd.prog.info? 53).map (·.size) = some 3 := by
  obtain ⟨i0, hi, hz0, hz1, hz2⟩ := info_parts info_sig8
  rw [hi]; simp [hz1]
 obtain ⟨a1, a2, a3, a4, a5, a6, a7⟩ := HAR.out
 obtain ⟨hxl, hct, hcs⟩ := HX.out
 have hGn := HGN.out
 have hRs := HRS.out.1
 have hmn : Nat.min 1 m2 = 1 := by simp only [Nat.min_def]; split <;> omega
 have hbv := HB.out.up E.out
 have hrun := run_copy3 (P := Tryd.prog) wd2 30 30 3 53 g2 p m2 d0 ⟨gv, 0, none⟩ 1 1 ROW 53 [x0, x1, x2] Tryd.underlying30 hsz3 HG2.out (by rw [hmn]; rfl)
  (by
   intro j u hj
   rw [Addr.add_lit, Nat.zero_add]
   rcases j with _ | _ | _ | j
   ·simp at hj; subst hj; exact hbv.k 0
   ·simp at hj; subst hj; exact hbv.k 1
   ·simp at hj; subst hj; exact hbv.k 2
   ·simp at hj)
  (by rw [hRs]; show p + 3 ≤ _; omega) H1.out
 refine WE.lateV (d := some 45) rfl rfl (by rfl) (kexec_copy (.tmp 43) (.tmp 44) rfl rfl rfl hrun) (by rw [setRow_size]; exact Nat.le_refl _) ?_
 simp only [Act.put, pA, pB, pC]
 refine WE.done ?_
 obtain ⟨cur1, hcur1⟩ : ∃ c1, c1 = (ROW.toList.take p ++ [x0, x1, x2] ++ ROW.toList.drop (p + [x0, x1, x2].length)).toArray := ⟨_, rfl⟩
 rw [← hcur1]
 obtain ⟨W, hW⟩ : ∃ W, W = wd2.setRow g2 cur1 := ⟨_, rfl⟩
 rw [← hW]
 replace HG2 := hid (show Box W g2 cur1 53 by rw [hW]; exact setRow_box HG2.out)
 have hext : ∀ (a b : World) (cs : Array Value), Ext w a → b = a.setRow g2 cs → Ext w b := fun a b cs e hb => by
  subst hb
  exact Below.trans (B := w.heap.size) e ((setRow_kept a g2 cs).below e.size (by simpa using HGE.out))
 replace E := hid (hext _ _ _ E.out hW)
 have HEX := @hid _ @hext
 have HC1 := hid (show cur1.toList = ROW.toList.take p ++ [x0, x1, x2] ++ ROW.toList.drop (p + [x0, x1, x2].length) by rw [hcur1])
 clear hW hcur1 hrun hmn hbv hxl hct hcs hGn hRs a1 a2 a3 a4 a5 a6 a7 hext
 go_wp2_with fail
 refine wp_region_D [(0, 0), (1, 0), (2, 0), (3, 0), (4, 0), (5, 0), (6, 0), (7, 0), (8, 4)] fun wd3 hb => ?_
 replace E := hid (E.out.trans hb)
 replace HG2 := hid (HG2.out.up hb)
 clear hb
 refine WE.p 46 (.slice (some ⟨g2, 0, none⟩) n1 G) ?_
 simp only [Act.put, pA, pB, pC]
 refine WE.p 47 (.int .i64 (k : Int)) ?_
 simp only [Act.put, pA, pB, pC]
 refine WE.p 48 (.int .i64 1) ?_
 simp only [Act.put, pA, pB, pC]
 refine WE.p 49 (.int .i64 (k1 : Int)) ?_
 simp only [Act.put, pA, pB, pC]
 refine WE.q 50 (.slice (some ⟨g2, p1, none⟩) m1 d1) rfl (fun w' hk => by have hs := HS3.out w'; go_simp) ?_
 simp only [Act.put, pA, pB, pC]
 refine WE.p 51 (.slice (some ⟨g, 0, none⟩) c c) ?_
 simp only [Act.put, pA, pB, pC]
 refine WE.p 52 (.int .i64 (k : Int)) ?_
 simp only [Act.put, pA, pB, pC]
 refine WE.q 53 (.slice (some ⟨g, p, none⟩) m0 m0) rfl (fun w' hk => by have hs := HS0.out w'; go_simp) ?_
 simp only [Act.put, pA, pB, pC]
 obtain ⟨a1, a2, a3, a4, a5, a6, a7⟩ := HAR.out
 obtain ⟨hxl, hct, hcs⟩ := HX.out
 have hGn := HGN.out
 have hRs := HRS.out.1
 have hdl : (xs.drop p).length = m1 * 3 := by rw [List.length_drop, hxl]; omega
 have hRl : ROW.toList.length = G * 3 := by simpa using hRs
 have hc1l : cur1.toList.length = G * 3 := by
  rw [HC1.out]
  simp only [List.length_append, List.length_take, List.length_drop, hRl]
  show min p (G * 3) + 3 + (G * 3 - (p + 3)) = _
  omega
 have hmn : Nat.min m0 m1 = m1 := by simp only [Nat.min_def]; split <;> omega
 have hbg3 := HG.out.up E.out
 have hrun := run_copy3 (P := Tryd.prog) wd3 30 30 3 53 g2 p1 m1 d1 ⟨g, p, none⟩ m0 m0 cur1 53 (xs.drop p) Tryd.underlying30 hsz3 HG2.out (by rw [hmn, hdl])
  (by
   intro j u hj
   rw [Addr.add_lit]
   refine hbg3.cell ?_
   rw [List.getElem?_drop, ← hct, List.getElem?_take] at hj
   split at hj
   ·simpa using hj
   ·cases hj)
  (by have : cur1.size = G * 3 := by simpa using hc1l
      rw [this, hdl]; omega) (fun u hu => H1X.out u (List.mem_of_mem_drop hu))
 refine WE.lateV (d := some 54) rfl rfl (by rfl) (kexec_copy (.tmp 50) (.tmp 53) rfl rfl rfl hrun) (by rw [setRow_size]; exact Nat.le_refl _) ?_
 simp only [Act.put, pA, pB, pC]
 refine WE.done ?_
 obtain ⟨cur2, hcur2⟩ : ∃ c1, c1 = (cur1.toList.take p1 ++ xs.drop p ++ cur1.toList.drop (p1 + (xs.drop p).length)).toArray := ⟨_, rfl⟩
 rw [← hcur2]
 obtain ⟨W2, hW⟩ : ∃ W, W = wd3.setRow g2 cur2 := ⟨_, rfl⟩
 rw [← hW]
 have HG3 := hid (show Box W2 g2 cur2 53 by rw [hW]; exact setRow_box HG2.out)
 replace E := hid (HEX.out _ _ _ E.out hW)
 have HC2 := hid (show cur2.size = G * 3 ∧ cur2.toList.take (n1 * 3) = xs.take (k * 3) ++ [x0, x1, x2] ++ xs.drop (k * 3) by
  have hc2 : cur2.toList = cur1.toList.take p1 ++ xs.drop p ++ cur1.toList.drop (p1 + (xs.drop p).length) := by rw [hcur2]
  constructor
  ·have : cur2.toList.length = G * 3 := by
    rw [hc2, HC1.out, grow_len (show p1 = p + 3 by omega) (by rw [hdl, hRl]; omega), hRl]
   simpa using this
  ·have := grow_list (ys := [x0, x1, x2]) (zs := xs.drop p) (p := p) (p1 := p1) HRS.out.2 (by omega) (by show p1 = p + 3; omega) (by rw [hdl, hRl]; omega)
   rw [hc2, HC1.out, show n1 * 3 = p1 + (xs.drop p).length by rw [hdl]; omega, this, a3])
 clear hW hcur2 hrun hmn hdl hRl hc1l hxl hct hcs hGn hRs hbg3 a1 a2 a3 a4 a5 a6 a7
 go_wp2_with fail
 go_ret
 obtain ⟨a1, a2, a3, a4, a5, a6, a7⟩ := HAR.out
 have hGn := HGN.out
 refine ⟨.slice (some ⟨g2, 0, none⟩) n1 G, rfl, ⟨?_, .inr ⟨g2, G, cur2, by rw [hn1], Nat.le_trans hbase HGE.out, HG3.out, by omega, HGM.out, HC2.out.1, by rw [hn1]; exact HC2.out.2⟩⟩, E.out.kept _, .inr ⟨g2, HGE.out, rfl⟩⟩
 have h2 := congrArg List.length HC2.out.2
 rw [← h2, List.length_take]
 have := HC2.out.1
 simp
 omega
theorem insert_t {base gv n k : Nat} {w : World} {v : Value} {xs : List Value} {x0 x1 x2 : Value} {T : TypeId} (ho : w.ownsRow base 53 3 v n xs) (hb : Box w gv #[x0, x1, x2] T) (h1 : ∀ u ∈ [x0, x1, x2], u.oneCell' = true) (h1x : ∀ u ∈ xs, u.oneCell' = true) (hn : n ≤ 1000000) (hk : k ≤ n) (hne : v.ownBlock ≠ some gv) (hbase : base ≤ w.heap.size) :
 Calls Tryd.prog 89 #[v, .int .i64 (k : Int), .slice (some ⟨gv, 0, none⟩) 1 1] w (GivesIn base w v n (xs.take (k * 3) ++ [x0, x1, x2] ++ xs.drop (k * 3))) := by
 have hxl := ho.1
 rcases Nat.eq_or_lt_of_le hk with h | h
 ·subst h
  rw [List.take_of_length_le (by omega), List.drop_eq_nil_of_le (by omega), List.append_nil]
  exact insert_end ho hb h1 hn hbase
 ·have ho2 := ho
  rcases ho2.2 with ⟨_, h0⟩ | ⟨g, c, cur, rfl, _⟩
  ·omega
  ·rcases Nat.lt_or_ge c (n + 1) with hc | hc
   ·exact insert_grow ho hb h1 h1x hn h hc hbase
   ·exact insert_room ho hb h1 h1x hn h hc (fun e => hne (by rw [e]; rfl)) hbase
end Go.Proofs.YtaoboilkpgphaaaDoor.Q

