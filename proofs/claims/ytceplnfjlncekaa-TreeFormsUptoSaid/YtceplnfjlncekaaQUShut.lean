/-
  Contracts of package tree: what forbids a word; a list that is whole.
-/
import Derived.Test.YtceplnfjlncekaaQUStep
namespace Go.Proofs.Ytceplnfjlncekaa
set_option linter.unusedSimpArgs false
set_option linter.unusedVariables false
open Go.RowKit

theorem exec_app {P : Program} {w w' : World} {v u v' : Value} {o : Oper} {a : Act} {t : TypeId} (s x : Operand) (ho : o.op = .call { callee := .builtin .append, args := #[s, x], argTypes := #[t, t] }) (hs : a.eval s = v) (hx : a.eval x = u)
 (h : (Builtin.append_ #[t, t] o.type #[v, u]).run P w = .ok v' w') : (execOp a.eval o).run P w = .ok (.value v') w' := by
 unfold execOp
 simp only [ho, resolve, invoke, builtin, Sem.run_bind, Sem.run_pure, Result.andThen_ok, List.map_toArray, List.map_cons, List.map_nil, hs, hx, h]
set_option maxHeartbeats 4000000 in
theorem fault_n {base : Nat} {w : World} {g : Nat} {s : M.St} {rv ov : Value} (h : RS base w g s rv ov) (k : Int) : Calls Try.prog 27 #[.pointer (some ⟨g, 0, none⟩), .int .i64 k] w (fun e w' => e = .returned (.int .i64 (M.fault s k)) ∧ w' = w) := by
 obtain ⟨B, c, hov, hc1, hc2⟩ := ownsRow_shape h.op
 have hc3 : c ≤ 9223372036854775807 := by unfold maxLen at hc2; omega
 have b1 := h.box.k 1
 have b2 := h.box.k 2
 rw [hov] at b1
 obtain ⟨m, hm⟩ : ∃ m, s.up.length = m := ⟨_, rfl⟩
 obtain ⟨n, hn⟩ : ∃ n, s.n = n := ⟨_, rfl⟩
 rw [hm] at b1 hc1
 rw [hn] at b2
 obtain ⟨z, hz⟩ : ∃ z, M.fault s k = z := ⟨_, rfl⟩
 have hz' : z = if k < 1 ∨ 5 < k then 10 else if k = 2 ∧ m = 0 then 10 else if k = 1 ∧ m = 60 then 15 else if k ≠ 2 ∧ n = 400 then 11 else 0 := by
  rw [← hz, M.fault, hm, hn]
  have e : (s.up.isEmpty = true) = (m = 0) := by
   rw [← hm]; cases s.up <;> simp
  simp only [e]
 rw [hz]
 clear h hov hm hn hz hc2
 rcases Int.lt_or_le k 1 with h1 | h1
 ·have HZ := hid (show 10 = z by rw [hz', if_pos (.inl h1)])
  clear hz'
  go_enter Try.func27, Try.ntmps27
  go_wp2
  go_ret
  obtain rfl := HZ.out
  exact ⟨rfl, rfl⟩
 have hk1 : decide (k < 1) = false := by simp; omega
 rcases Int.lt_or_le 5 k with h5 | h5
 ·have HZ := hid (show 10 = z by rw [hz', if_pos (.inr h5)])
  clear hz' h1
  go_enter Try.func27, Try.ntmps27
  go_wp2
  go_ret
  obtain rfl := HZ.out
  exact ⟨rfl, rfl⟩
 have hk5 : decide (5 < k) = false := by simp; omega
 rw [if_neg (by omega)] at hz'
 by_cases k2 : k = 2
 ·subst k2
  by_cases m0 : m = 0
  ·subst m0
   have HZ := hid (show 10 = z by rw [hz', if_pos ⟨rfl, rfl⟩])
   clear hz' hk1 hk5 h1 h5
   go_enter Try.func27, Try.ntmps27
   go_wp2
   go_ret
   obtain rfl := HZ.out
   exact ⟨rfl, rfl⟩
  ·have hm0 : ((m : Int) == 0) = false := by simp; omega
   have HZ := hid (show 0 = z by rw [hz', if_neg (by omega), if_neg (by omega), if_neg (by omega)])
   clear hz' hk1 hk5 h1 h5 m0
   go_enter Try.func27, Try.ntmps27
   go_wp2
   go_ret
   obtain rfl := HZ.out
   exact ⟨rfl, rfl⟩
 have hk2 : (k == 2) = false := by simpa using k2
 have hk2' : (k != 2) = true := by simpa using k2
 rw [if_neg (by omega)] at hz'
 by_cases k1 : k = 1
 ·subst k1
  clear hk2 hk2' hk1 hk5 h1 h5 k2
  by_cases m60 : m = 60
  ·subst m60
   have HZ := hid (show 15 = z by rw [hz', if_pos ⟨rfl, rfl⟩])
   clear hz'
   go_enter Try.func27, Try.ntmps27
   go_wp2
   go_ret
   obtain rfl := HZ.out
   exact ⟨rfl, rfl⟩
  have hm60 : ((m : Int) == 60) = false := by simp; omega
  rw [if_neg (by omega)] at hz'
  by_cases n4 : n = 400
  ·subst n4
   have HZ := hid (show 11 = z by rw [hz', if_pos ⟨by decide, rfl⟩])
   clear hz' m60
   go_enter Try.func27, Try.ntmps27
   go_wp2
   go_ret
   obtain rfl := HZ.out
   exact ⟨rfl, rfl⟩
  ·have hn4 : ((n : Int) == 400) = false := by simp; omega
   have HZ := hid (show 0 = z by rw [hz', if_neg (by omega)])
   clear hz' m60 n4
   go_enter Try.func27, Try.ntmps27
   go_wp2
   go_ret
   obtain rfl := HZ.out
   exact ⟨rfl, rfl⟩
 have hk1' : (k == 1) = false := by simpa using k1
 rw [if_neg (by omega)] at hz'
 by_cases n4 : n = 400
 ·subst n4
  have HZ := hid (show 11 = z by rw [hz', if_pos ⟨k2, rfl⟩])
  clear hz' k1 k2 h1 h5
  go_enter Try.func27, Try.ntmps27
  go_wp2
  go_ret
  obtain rfl := HZ.out
  exact ⟨rfl, rfl⟩
 ·have hn4 : ((n : Int) == 400) = false := by simp; omega
  have HZ := hid (show 0 = z by rw [hz', if_neg (by omega)])
  clear hz' k1 k2 n4 h1 h5
  go_enter Try.func27, Try.ntmps27
  go_wp2
  go_ret
  obtain rfl := HZ.out
  exact ⟨rfl, rfl⟩
theorem sliced_from0 (A : Option Addr) (n c : Nat) : (if c = 0 then A else Option.map (fun x => x.add 0) A) = A := by
 split
 ·rfl
 ·cases A with
  | none => rfl
  | some a => simp [Addr.add_zero']
set_option maxHeartbeats 8000000 in
theorem shut_n {base : Nat} {w : World} {g : Nat} {s : M.St} {rv ov : Value} {u : List M.T} {r : List (List M.T)} (h : RS base w g s rv ov) (hup : s.up = u :: r) (hmax : (rowK s).length ≤ 100000000) (hm60 : s.up.length ≤ 60) :
 Calls Try.prog 39 #[.pointer (some ⟨g, 0, none⟩)] w (fun e w' => ∃ v rv' ov', e = .returned v ∧ RS base w' g ⟨u ++ [.mk true (0, []) s.cur], r, s.n⟩ rv' ov' ∧ Below base w w') := by
 have HS := hid h
 obtain ⟨cs, hrow, hreps⟩ := h.row
 obtain ⟨A, cap, hrv, hr1, hr2⟩ := ownsRow_shape hrow
 obtain ⟨B, oc, hov, ho1, ho2⟩ := ownsRow_shape h.op
 have hop := h.op
 rw [hup] at ho1 hov hop
 subst hrv hov
 have hr3 : cap ≤ 9223372036854775807 := by unfold maxLen at hr2; omega
 have ho3 : oc ≤ 9223372036854775807 := by unfold maxLen at ho2; omega
 obtain ⟨q, hq⟩ : ∃ q, r.length = q := ⟨_, rfl⟩
 obtain ⟨bl, hbl⟩ : ∃ bl, (M.rowUp (u :: r)).length = bl := ⟨_, rfl⟩
 obtain ⟨x, hx⟩ : ∃ x, s.cur.length = x := ⟨_, rfl⟩
 obtain ⟨N, hN⟩ : ∃ N, (rowK s).length = N := ⟨_, rfl⟩
 have hrk : rowK s = M.rowUp (u :: r) ++ s.cur := by unfold rowK; rw [hup]
 have hNx : N = bl + x := by rw [← hN, hrk, List.length_append, hbl, hx]
 have hq60 : q + 1 ≤ 60 := by rw [hup] at hm60; simpa [hq] using hm60
 -- where the innermost one begins
 obtain ⟨ob, rfl⟩ : ∃ ob, B = some ⟨ob, 0, none⟩ := by
  rcases hop.2 with ⟨_, h2⟩ | ⟨ob, _, _, h2, _⟩
  ·simp at h2
  ·injection h2 with e1 e2 e3
   exact ⟨ob, e1⟩
 have hcell : w.cell? ⟨ob, q, none⟩ = some (.int .i64 (bl : Int)) := by
  rw [World.ownsRow.cellAt (by simpa using hop) q (by simp [hq])]
  unfold opensV
  rw [hup, M.opens_snoc, List.map_append, List.getElem?_append_right (by rw [List.length_map, M.opens_len, hq]; exact Nat.le_refl _), List.length_map, M.opens_len, hq, hbl]
  simp
 have hlenc : cs.length = N * 4 := by rw [hreps.len, hN]
 have hA : (sliced A bl N cap 4 = .slice none 0 0 ∧ x = 0) ∨ ∃ ad, sliced A bl N cap 4 = .slice (some ad) (N - bl) (cap - bl) ∧ ∀ j v, (cs.drop (bl * 4))[j]? = some v → w.cell? (ad.add j) = some v := by
  rcases hrow.2 with ⟨h1, h2⟩ | ⟨rb, cap', cur, h1, _, _, _⟩
  ·injection h1 with e1 e2 e3
   subst e1 e3
   have : bl = 0 := by omega
   subst this
   refine .inl ⟨?_, by omega⟩
   rw [hN] at h2
   subst h2
   rfl
  ·injection h1 with e1 e2 e3
   subst e1
   refine .inr ⟨if cap = bl then ⟨rb, 0, none⟩ else (⟨rb, 0, none⟩ : Addr).add (bl * 4), ?_, fun j v hv => ?_⟩
   ·unfold sliced
    split <;> rfl
   ·have hj : (cs.drop (bl * 4))[j]? = cs[bl * 4 + j]? := by rw [List.getElem?_drop]
    rw [hj] at hv
    have hlt : bl * 4 + j < cs.length := (List.getElem?_eq_some_iff.1 hv).1
    have hne : ¬ cap = bl := by rw [hN] at hr1; omega
    rw [if_neg hne, Addr.add_add]
    exact World.ownsRow.cells hrow rfl _ _ hv
 have hHC : Calls Try.prog 44 #[sliced A bl N cap 4] w (fun e w' => ∃ A' c', e = .returned (tv true (0, []) A' x c') ∧ w'.ownsRow (w.heap.size + 1) 35 4 (.slice A' x c') x (cs.drop (bl * 4)) ∧ Ext w w') := by
  have hl4 : (cs.drop (bl * 4)).length = x * 4 := by rw [List.length_drop, hlenc]; omega
  have h1c : ∀ v ∈ cs.drop (bl * 4), v.oneCell' = true := fun v hv => hreps.one v (List.mem_of_mem_drop hv)
  rcases hA with ⟨e, h0⟩ | ⟨ad, e, h0⟩
  ·rw [e]
   subst h0
   exact list_n hl4 h1c (.inl ⟨rfl, rfl, rfl⟩) (by omega)
  ·rw [e, show N - bl = x by omega]
   exact list_n hl4 h1c (.inr ⟨ad, rfl, h0⟩) (by omega)
 have hbN : (bl : Int) ≤ (N : Int) := by omega
 have hbN0 : (0 : Int) ≤ (bl : Int) := by omega
 have hbc : bl ≤ cap := by rw [hN] at hr1; omega
 have hbc' : (bl : Int) ≤ (cap : Int) := by omega
 obtain ⟨m, hm⟩ : ∃ m, (u :: r).length = m := ⟨_, rfl⟩
 rw [hm] at ho1 hop
 have hmq : m = q + 1 := by rw [← hm, ← hq]; rfl
 have hmi : (m : Int) - 1 = (q : Int) := by omega
 have hqm : (q : Int) < (m : Int) := by omega
 have hqm' : q < m := by omega
 have hoc : (oc = 0) = False := eq_false (by omega)
 have hqo : (q : Int) ≤ (oc : Int) := by omega
 have hb := h.box
 rw [hN, hm] at hb
 have b0 := hb.k 0 (v := .slice A N cap)
 have b1 := hb.k 1 (v := .slice (some ⟨ob, 0, none⟩) m oc)
 have hcases : ((cap = bl) = True ∧ Hid (Calls Try.prog 44 #[.slice A (N - bl) (cap - bl)] w (fun e w' => ∃ A' c', e = .returned (tv true (0, []) A' x c') ∧ w'.ownsRow (w.heap.size + 1) 35 4 (.slice A' x c') x (cs.drop (bl * 4)) ∧ Ext w w'))) ∨
  ((cap = bl) = False ∧ Hid (Calls Try.prog 44 #[.slice (Option.map (fun x => x.add (bl * 4)) A) (N - bl) (cap - bl)] w (fun e w' => ∃ A' c', e = .returned (tv true (0, []) A' x c') ∧ w'.ownsRow (w.heap.size + 1) 35 4 (.slice A' x c') x (cs.drop (bl * 4)) ∧ Ext w w'))) := by
  by_cases hcb : cap = bl
  ·refine .inl ⟨eq_true hcb, ?_⟩
   unfold sliced at hHC
   rwa [if_pos hcb] at hHC
  ·refine .inr ⟨eq_false hcb, ?_⟩
   unfold sliced at hHC
   rwa [if_neg hcb] at hHC
 have HROW := hid hrow
 have HREPS := hid hreps
 have HNX := hid hNx
 have HMQ := hid hmq
 have HNN := hid hN
 have HX := hid hx
 have HQ := hid hq
 have HBE := hid hbl
 have HM := hid hm
 have HUP := hid hup
 have HBL := hid (show bl ≤ 100000000 by omega)
 clear hHC hrow hreps hop hrk hNx hbl hN hx hq hA hlenc hmax hm60 hb hmq hup hm
 rcases hcases with ⟨hcb, HC⟩ | ⟨hcb, HC⟩ <;> (
  go_enter Try.func39, Try.ntmps39
  go_wp2_with fail
  refine HC.out.mono ?_
  rintro e w2 ⟨A', c', rfl, ho2, hb2⟩
  have c1 := fun o => (Ext.alloc w2 o).cell (hb2.cell b1)
  have fz1 := fun o => ((h.box.up hb2).alloc o).free 1
  have HO2 := hid ho2
  have E2 := hid hb2
  clear ho2 hb2 b0 b1
  go_wp2_with fail
  clear c1 fz1
  obtain ⟨W3, hW3⟩ : ∃ W3, ((w2.alloc (.cells #[.bool true, .int .i64 0, .string ⟨#[]⟩, .slice A' x c'] 35)).setCell ⟨g, 1, none⟩ (.slice (some ⟨ob, 0, none⟩) q oc)) = W3 := ⟨_, rfl⟩
  rw [hW3]
  have hgl := h.box.lt
  have hK3 : Kept [g] w2 W3 := by rw [← hW3]; exact ((Ext.alloc w2 _).kept _).trans (kept_setAt _)
  have hB3 : Box W3 g #[.slice A N cap, .slice (some ⟨ob, 0, none⟩) q oc, .int .i64 (s.n : Int)] 48 := by
   rw [← hW3]
   have := ((h.box.up E2.out).alloc (.cells #[.bool true, .int .i64 0, .string ⟨#[]⟩, .slice A' x c'] 35)).setAt 1 (.slice (some ⟨ob, 0, none⟩) q oc)
   rw [HNN.out] at this
   exact this
  have hL3 : Box W3 w2.heap.size #[.bool true, .int .i64 0, .string ⟨#[]⟩, .slice A' x c'] 35 := by
   rw [← hW3]
   exact (Box.new w2 _ _).far (by have := E2.out.size; simp; omega) _
  have hgX : g ∉ (Value.slice A N cap).ownBlock.toList := fun e => by
   have h2 := ownsRow_box HROW.out h.box (by decide)
   rw [HNN.out] at h2
   simp at e
   exact h2 e
  have hsX : ∀ w', w2.heap.size ≤ w' → w' ∉ (Value.slice A N cap).ownBlock.toList := fun w' hw e => by
   have h2 := own_ge HROW.out w' (by rw [HNN.out]; exact e)
   have := E2.out.size
   omega
  have hrow3 : W3.ownsRow base 35 4 (.slice A N cap) N cs := by
   have h1 := kept_row ((E2.out.kept [g]).trans hK3) HROW.out fun b hb => by
    have h2 := ownsRow_box HROW.out h.box (by decide)
    simp
    exact fun e => h2 (by rw [hb, e])
   rw [HNN.out] at h1
   exact h1
  have HK3 := hid hK3
  have HB3 := hid hB3
  have HL3 := hid hL3
  have HR3 := hid hrow3
  have HGX := hid hgX
  have HSX := hid hsX
  have HH := hid h
  have hs3 := hK3.1.size
  clear hK3 hB3 hL3 hrow3 hgX hsX hW3 h
  refine wp_region_K (Value.slice A N cap).ownBlock.toList [(0, 0), (1, 0), (2, 0), (3, 0), (4, 0), (5, 0), (6, 0), (7, 0), (8, 1), (9, 1), (10, 0), (11, 0), (12, 3)] fun wd hb => ?_
  have Ed := hid hb
  have hsd := hb.size
  clear hb
  refine WK.p 34 (.pointer (some ⟨g, 0, none⟩)) ?_
  simp only [Act.put, pA, pB, pC]
  refine WK.p 35 (.pointer (some ⟨g, 0, none⟩)) ?_
  simp only [Act.put, pA, pB, pC]
  refine WK.p 36 (.pointer (some ⟨g, 0, none⟩)) ?_
  simp only [Act.put, pA, pB, pC]
  refine WK.p 37 (.pointer (some ⟨g, 0, none⟩)) ?_
  simp only [Act.put, pA, pB, pC]
  refine WK.q 38 (.slice A N cap) rfl (fun w' hk => by have ce := ((HB3.out.up Ed.out).kept hk HGX.out).k 0 (v := .slice A N cap); go_simp) ?_
  simp only [Act.put, pA, pB, pC]
  refine WK.p 39 (.int .i64 (bl : Int)) ?_
  simp only [Act.put, pA, pB, pC]
  refine WK.q 40 (.slice A bl cap) rfl (fun w' hk => by go_simp) ?_
  simp only [Act.put, pA, pB, pC]
  refine WK.q 41 (tv true (0, []) A' x c') rfl (fun w' hk => by have hb := (HL3.out.up Ed.out).kept hk (HSX.out _ (Nat.le_refl _)); have x0 := hb.k 0 (v := .bool true); have x1 := hb.k 1 (v := .int .i64 0); have x2 := hb.k 2 (v := .string ⟨#[]⟩); have x3 := hb.k 3 (v := .slice A' x c'); go_simp) ?_
  simp only [Act.put, pA, pB, pC]
  refine WK.act 42 (v := .slice (some ⟨wd.heap.size, 0, none⟩) 1 1) (w' := wd.alloc (.cells #[.bool true, .int .i64 0, .string ⟨#[]⟩, .slice A' x c'] 35)) rfl (by go_simp) ((Ext.alloc _ _).kept _) ?_
  simp only [Act.put, pA, pB, pC]
  have hown : (wd.alloc (.cells #[.bool true, .int .i64 0, .string ⟨#[]⟩, .slice A' x c'] 35)).ownsRow base 35 4 (.slice A bl cap) bl (cs.take (bl * 4)) :=
   (ownsRow_prefix (kept_row (Ed.out.kept []) HR3.out fun b _ => by simp) (k := bl) (by have := HNX.out; omega)).alloc _
  obtain ⟨i0, hi, hz0, hz1, hz2⟩ := info_parts info_Tree
  obtain ⟨v', w5, hrun, ho5, hg5, _, hv5⟩ := run_append_own_at (P := Try.prog) (wd.alloc (.cells #[.bool true, .int .i64 0, .string ⟨#[]⟩, .slice A' x c'] 35)) base 25 25 35 i0 _ 4 56 Try.underlying25 hi hz0 hz1 hz2 rfl (by decide) (.slice A bl cap) bl (cs.take (bl * 4)) hown ⟨wd.heap.size, 0, none⟩ 1 1
   [.bool true, .int .i64 0, .string ⟨#[]⟩, .slice A' x c'] rfl (by
    intro j v hj
    have hb := Box.new wd #[.bool true, .int .i64 0, .string ⟨#[]⟩, .slice A' x c'] 35
    rw [Addr.add_lit, Nat.zero_add]
    rcases j with _ | _ | _ | _ | j
    ·simp at hj; subst hj; exact hb.k 0
    ·simp at hj; subst hj; exact hb.k 1
    ·simp at hj; subst hj; exact hb.k 2
    ·simp at hj; subst hj; exact hb.k 3
    ·simp at hj) (by intro v hv; simp at hv; rcases hv with rfl | rfl | rfl | rfl <;> rfl) (by have := HBL.out; unfold maxLen; omega) (by have := HBL.out; omega) (by have := HH.out.sz; have := E2.out.size; simp; omega)
  obtain ⟨A5, c5, rfl, hs5a, hs5b⟩ := ownsRow_shape ho5
  have hob : (Value.slice A bl cap).ownBlock = (Value.slice A N cap).ownBlock := by cases A <;> rfl
  rw [hob] at hg5 hv5
  have hK5 := grown_kept hg5
  have HK5 := hid (((Ext.alloc wd (.cells #[.bool true, .int .i64 0, .string ⟨#[]⟩, .slice A' x c'] 35)).kept (Value.slice A N cap).ownBlock.toList).trans hK5)
  have HO5 := hid ho5
  have HV5 := hid hv5
  refine WK.act 43 rfl (exec_app (.tmp 40) (.tmp 42) rfl rfl rfl hrun) hK5 ?_
  clear hown hi hz0 hz1 hz2 hrun ho5 hg5 hv5 hob hK5
  simp only [Act.put, pA, pB, pC]
  have hB5 := (HB3.out.up Ed.out).kept HK5.out HGX.out
  have d0 := hB5.k 0 (v := .slice A N cap)
  have z0 := hB5.free 0
  have HB5' := hid hB5
  clear hB5
  refine WK.p 44 (.pointer (some ⟨g, 0, none⟩)) ?_
  simp only [Act.put, pA, pB, pC]
  refine WK.p 45 (.pointer (some ⟨g, 0, none⟩)) ?_
  simp only [Act.put, pA, pB, pC]
  refine WK.st (w' := w5.setCell ⟨g, 0, none⟩ (.slice A5 (bl + 1) c5)) ?_
  refine WK.done ?_
  go_wp2_with fail
  clear d0 z0
  have hfin := RS.shut (A' := A') (c' := c') (v' := .slice A5 (bl + 1) c5) (w5 := w5) HH.out HUP.out HROW.out HREPS.out E2.out (by rw [HBE.out, HX.out]; exact HO2.out) (by
   rw [HNN.out]
   exact ((HK3.out.mono (by simp)).trans ((Ed.out.kept _).trans (HK5.out.mono (by intro y hy; simp only [List.mem_cons]; exact .inr hy))))) rfl (by rw [HNN.out, HQ.out]; exact HB5'.out) (by rw [HBE.out, HX.out]; exact HO5.out) (by
   rw [HNN.out]
   rcases HV5.out with e | e
   ·exact .inl e
   ·exact .inr ⟨_, e, by have := Ed.out.size; simp; omega⟩)
  refine bodyPost_end (v := .tuple #[]) (by simp [results, Try.results39, go_sem]) rfl ⟨_, _, _, rfl, hfin⟩)
end Go.Proofs.Ytceplnfjlncekaa
