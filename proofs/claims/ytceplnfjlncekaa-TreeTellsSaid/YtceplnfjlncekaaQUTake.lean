/-
  Contracts of package tree: a word that nothing forbids is read.
-/
import Derived.Test.YtceplnfjlncekaaQUShut
import Derived.Test.YtceplnfjlncekaaQUFork
namespace Go.Proofs.Ytceplnfjlncekaa
set_option linter.unusedSimpArgs false
set_option linter.unusedVariables false
open Go.RowKit

/-- What reading a word gives. -/
def TakeP (base : Nat) (w : World) (g : Nat) (s : M.St) (e : Ending) (w' : World) : Prop := ∃ v rv ov, e = .returned v ∧ RS base w' g s rv ov ∧ Below base w w'
theorem info_Int : (Try.prog.info? 3).map (fun i => (i.zero, i.size, i.bytes)) = some (some (.int .i64 0), 1, 8) := by kernel_rfl
theorem RS.low {base : Nat} {w w' : World} {g : Nat} {s : M.St} {rv ov : Value} (h : RS base w g s rv ov) (e : Ext w w') : Below base w w' := Below.mono e h.sz
set_option maxHeartbeats 8000000 in
theorem take_right {base : Nat} {w : World} {g : Nat} {s : M.St} {rv ov : Value} {u : List M.T} {r : List (List M.T)} (h : RS base w g s rv ov) (hup : s.up = u :: r) (hmax : (rowK s).length ≤ 100000000) (hm60 : s.up.length ≤ 60) (tx : List UInt8) :
 Calls Try.prog 28 #[.pointer (some ⟨g, 0, none⟩), .agg #[.int .i64 2, str tx]] w (TakeP base w g (M.put s (2, tx))) := by
 have hput : M.put s (2, tx) = ⟨u ++ [.mk true (0, []) s.cur], r, if r.isEmpty = true then 0 else s.n⟩ := by
  unfold M.put
  rw [if_neg (by simp), if_pos rfl, hup]
 obtain ⟨S, hS⟩ : ∃ S, M.put s (2, tx) = S := ⟨_, rfl⟩
 have HPUT := hid (hS.symm.trans hput)
 rw [hS]
 have HS := hid (shut_n (h.up (Ext.alloc w (.cells #[.int .i64 2, str tx] 33))) hup hmax hm60)
 have HL := hid (h.low (Ext.alloc w (.cells #[.int .i64 2, str tx] 33)))
 clear h hup hmax hm60 hput hS
 go_enter Try.func28, Try.ntmps28
 go_wp2_with fail
 refine HS.out.mono ?_
 rintro e w2 ⟨v, rv', ov', rfl, hrs, hb⟩
 obtain ⟨B, c, rfl, hc1, hc2⟩ := ownsRow_shape hrs.op
 have hc3 : c ≤ 9223372036854775807 := by unfold maxLen at hc2; omega
 have b1 := hrs.box.k 1 (v := .slice B r.length c)
 have b2 := hrs.box.k 2 (v := .int .i64 (s.n : Int))
 have f2 := hrs.box.free 2
 have HRS := hid hrs
 have HB := hid (HL.out.trans hb)
 clear hrs hb hc2
 obtain ⟨m, hm⟩ : ∃ m, r.length = m := ⟨_, rfl⟩
 rw [show ({ cur := u ++ [M.T.mk true (0, []) s.cur], up := r, n := s.n } : M.St).up.length = m from hm] at hc1
 rw [hm] at b1
 by_cases m0 : m = 0
 ·subst m0
  have hr : r = [] := List.eq_nil_of_length_eq_zero hm
  have HR := hid hr
  have HRM := hid hm
  clear hm hr
  go_wp2_with fail
  obtain ⟨k1, k2⟩ := HRS.out.nodes 0
  have hS : S = ⟨u ++ [.mk true (0, []) s.cur], r, 0⟩ := by rw [HPUT.out, HR.out]; rfl
  rw [hS]
  exact bodyPost_end (v := .tuple #[]) (by simp [results, Try.results28, go_sem]) rfl ⟨_, _, _, rfl, k1, HB.out.trans k2⟩
 ·have hm0 : ((m : Int) == 0) = false := by simp; omega
  have HR := hid (show r.isEmpty = false by cases r with | nil => exact absurd hm.symm m0 | cons => rfl)
  clear hm m0
  go_wp2_with fail
  have hS : S = ⟨u ++ [.mk true (0, []) s.cur], r, s.n⟩ := by rw [HPUT.out, HR.out]; rfl
  rw [hS]
  exact bodyPost_end (v := .tuple #[]) (by simp [results, Try.results28, go_sem]) rfl ⟨_, _, _, rfl, HRS.out, HB.out⟩
theorem Kept.trans_new {X Y : List Nat} {a b c : World} (h : Kept X a b) (k : Kept Y b c) (hy : ∀ y ∈ Y, y ∈ X ∨ a.heap.size ≤ y) : Kept X a c :=
 ⟨h.1.trans k.1, fun i hi hx => (k.2 i (Nat.lt_of_lt_of_le hi h.1.size) fun hY => (hy i hY).elim hx fun e => by omega).trans (h.2 i hi hx)⟩
set_option maxHeartbeats 8000000 in
theorem take_left {base : Nat} {w : World} {g : Nat} {s : M.St} {rv ov : Value} (h : RS base w g s rv ov) (hmax : (rowK s).length ≤ 100000000) (hm60 : s.up.length ≤ 60) (hn4 : s.n < 400) (tx : List UInt8) :
 Calls Try.prog 28 #[.pointer (some ⟨g, 0, none⟩), .agg #[.int .i64 1, str tx]] w (TakeP base w g (M.put s (1, tx))) := by
 have hput : M.put s (1, tx) = ⟨[], s.cur :: s.up, s.n + 1⟩ := by
  unfold M.put
  rw [if_pos rfl]
 rw [hput]
 have HL := hid (h.low (Ext.alloc w (.cells #[.int .i64 1, str tx] 33)))
 replace h := h.up (Ext.alloc w (.cells #[.int .i64 1, str tx] 33))
 obtain ⟨cs, hrow, hreps⟩ := h.row
 obtain ⟨A, cap, hrv, hr1, hr2⟩ := ownsRow_shape hrow
 obtain ⟨B, oc, hov, ho1, ho2⟩ := ownsRow_shape h.op
 have HOP := hid h.op
 subst hrv hov
 have hr3 : cap ≤ 9223372036854775807 := by unfold maxLen at hr2; omega
 have ho3 : oc ≤ 9223372036854775807 := by unfold maxLen at ho2; omega
 obtain ⟨N, hN⟩ : ∃ N, (rowK s).length = N := ⟨_, rfl⟩
 obtain ⟨m, hm⟩ : ∃ m, s.up.length = m := ⟨_, rfl⟩
 have hBX := h.box
 have hgX : g ∉ (Value.slice B m oc).ownBlock.toList := fun e => by
  have h2 := ownsRow_box h.op h.box (by decide)
  rw [hm] at h2
  simp at e
  exact h2 e
 rw [hm] at HOP ho1 hm60
 rw [hN, hm] at hBX
 have HH := hid h
 have HBX := hid hBX
 have HGX := hid hgX
 have HN := hid hN
 have HM := hid hm
 have HN4 := hid hn4
 clear h hrow hreps hput hm hBX hgX hN hmax hn4
 go_enter Try.func28, Try.ntmps28
 go_wp2_with fail
 refine wp_region_K (Value.slice B m oc).ownBlock.toList [(0, 0), (1, 0), (2, 0), (3, 0), (4, 0), (5, 0), (6, 0), (7, 0), (8, 0), (9, 0), (10, 1), (11, 1), (12, 0), (13, 0), (14, 3)] fun wd hb => ?_
 have Ed := hid hb
 clear hb
 refine WK.p 27 (.pointer (some ⟨g, 0, none⟩)) ?_
 simp only [Act.put, pA, pB, pC]
 refine WK.p 28 (.pointer (some ⟨g, 0, none⟩)) ?_
 simp only [Act.put, pA, pB, pC]
 refine WK.p 29 (.pointer (some ⟨g, 0, none⟩)) ?_
 simp only [Act.put, pA, pB, pC]
 refine WK.p 30 (.pointer (some ⟨g, 1, none⟩)) ?_
 simp only [Act.put, pA, pB, pC]
 refine WK.q 31 (.slice B m oc) rfl (fun w' hk => by have ce := ((HBX.out.up Ed.out).kept hk HGX.out).k 1 (v := .slice B m oc); go_simp) ?_
 simp only [Act.put, pA, pB, pC]
 refine WK.p 32 (.pointer (some ⟨g, 0, none⟩)) ?_
 simp only [Act.put, pA, pB, pC]
 refine WK.p 33 (.pointer (some ⟨g, 0, none⟩)) ?_
 simp only [Act.put, pA, pB, pC]
 refine WK.p 34 (.pointer (some ⟨g, 0, none⟩)) ?_
 simp only [Act.put, pA, pB, pC]
 refine WK.q 35 (.slice A N cap) rfl (fun w' hk => by have ce := ((HBX.out.up Ed.out).kept hk HGX.out).k 0 (v := .slice A N cap); go_simp) ?_
 simp only [Act.put, pA, pB, pC]
 refine WK.p 36 (.int .i64 (N : Int)) ?_
 simp only [Act.put, pA, pB, pC]
 refine WK.act 37 (v := .slice (some ⟨wd.heap.size, 0, none⟩) 1 1) (w' := wd.alloc (.cells #[.int .i64 (N : Int)] 3)) rfl (by go_simp) ((Ext.alloc _ _).kept _) ?_
 simp only [Act.put, pA, pB, pC]
 obtain ⟨i0, hi, hz0, hz1, hz2⟩ := info_parts info_Int
 obtain ⟨v', w5, hrun, ho5, hg5, _, hv5⟩ := run_append_own_at (P := Try.prog) (wd.alloc (.cells #[.int .i64 (N : Int)] 3)) base 46 46 3 i0 _ 1 8 Try.underlying46 hi hz0 hz1 hz2 rfl (by decide) (.slice B m oc) m (opensV s) ((kept_row (Ed.out.kept []) HOP.out fun b _ => by simp).alloc _) ⟨wd.heap.size, 0, none⟩ 1 1
  [.int .i64 (N : Int)] rfl (by
   intro j v hj
   have hb := Box.new wd #[.int .i64 (N : Int)] 3
   rw [Addr.add_lit, Nat.zero_add]
   rcases j with _ | j
   ·simp at hj; subst hj; exact hb.k 0
   ·simp at hj) (by intro v hv; simp at hv; subst hv; rfl) (by unfold maxLen; omega) (by omega) (by have := HH.out.sz; have := Ed.out.size; simp at *; omega)
 obtain ⟨A5, c5, rfl, hs5a, hs5b⟩ := ownsRow_shape ho5
 have hc5 : c5 ≤ 9223372036854775807 := by unfold maxLen at hs5b; omega
 have hK5 := grown_kept hg5
 have HK5 := hid (((Ext.alloc wd (.cells #[.int .i64 (N : Int)] 3)).kept (Value.slice B m oc).ownBlock.toList).trans hK5)
 have HO5 := hid ho5
 have HV5 := hid hv5
 refine WK.act 38 rfl (exec_app (.tmp 31) (.tmp 37) rfl rfl rfl hrun) hK5 ?_
 clear hi hz0 hz1 hz2 hrun ho5 hg5 hv5 hK5
 simp only [Act.put, pA, pB, pC]
 have hB5 := (HBX.out.up Ed.out).kept HK5.out HGX.out
 have d1 := hB5.k 1 (v := .slice B m oc)
 have z1 := hB5.free 1
 have d2 := hB5.k 2 (v := .int .i64 (s.n : Int))
 have z2 := hB5.free 2
 have HB5 := hid hB5
 clear hB5
 refine WK.p 39 (.pointer (some ⟨g, 0, none⟩)) ?_
 simp only [Act.put, pA, pB, pC]
 refine WK.p 40 (.pointer (some ⟨g, 1, none⟩)) ?_
 simp only [Act.put, pA, pB, pC]
 refine WK.st (w' := w5.setCell ⟨g, 1, none⟩ (.slice A5 (m + 1) c5)) ?_
 refine WK.done ?_
 clear d1 z1 d2 z2
 have hfin := RS.left (v' := .slice A5 (m + 1) c5) (wF := w5.setCell ⟨g, 1, none⟩ (.slice A5 (m + 1) c5)) HH.out (by
  rw [HM.out]
  exact ((Ed.out.kept _).trans (HK5.out.mono (by intro y hy; simp only [List.mem_cons]; exact .inr hy))).trans ((kept_setAt _).mono (by simp))) (by rw [HN.out]; exact HB5.out.setAt 1 _) (by
  rw [HM.out, HN.out]
  refine kept_row (X := [g]) (kept_setAt _) HO5.out fun b hb => ?_
  have h2 := ownsRow_box HO5.out HB5.out (by decide)
  simp
  exact fun e => h2 (by rw [hb, e])) (by
  rw [HM.out]
  rcases HV5.out with e | e
  ·exact .inl e
  ·exact .inr ⟨_, e, by have := Ed.out.size; simp at *; omega⟩)
 obtain ⟨W, hW⟩ : ∃ W, w5.setCell ⟨g, 1, none⟩ (.slice A5 (m + 1) c5) = W := ⟨_, rfl⟩
 rw [hW] at hfin ⊢
 obtain ⟨hrs, hbel⟩ := hfin
 obtain ⟨y, hy⟩ : ∃ y, m + 1 = y := ⟨_, rfl⟩
 have hy0 : ((y : Int) == 0) = false := by simp; omega
 have hy9 : y ≤ c5 := by omega
 rw [hy] at hrs
 obtain ⟨q, hq⟩ : ∃ q, s.n + 1 = q := ⟨_, rfl⟩
 have hqi : (s.n : Int) + 1 = (q : Int) := by omega
 have hq9 : q ≤ 400 := by have := HN4.out; omega
 have HQ := hid hq
 have b1 := hrs.box.k 1 (v := .slice A5 y c5)
 have b2 := hrs.box.k 2 (v := .int .i64 (s.n : Int))
 have f2 := hrs.box.free 2
 have HRS := hid hrs
 have HB := hid (HL.out.trans hbel)
 clear hrs hbel hW hy hq hs5a hs5b
 go_wp2_with fail
 obtain rfl := HQ.out
 obtain ⟨k1, k2⟩ := HRS.out.nodes (s.n + 1)
 exact bodyPost_end (v := .tuple #[]) (by simp [results, Try.results28, go_sem]) rfl ⟨_, _, _, rfl, k1, HB.out.trans k2⟩
theorem ownsRow_set4 {w : World} {base rb N c : Nat} {cs : List Value} {x0 x1 x2 x3 : Value} (h : w.ownsRow base 35 4 (.slice (some ⟨rb, 0, none⟩) (N + 1) c) (N + 1) (cs ++ [x0, x1, x2, x3])) (hl : cs.length = N * 4) (y0 y1 y2 y3 : Value) :
 ((((w.setCell ⟨rb, N * 4, none⟩ y0).setCell ⟨rb, N * 4 + 1, none⟩ y1).setCell ⟨rb, N * 4 + 2, none⟩ y2).setCell ⟨rb, N * 4 + 3, none⟩ y3).ownsRow base 35 4 (.slice (some ⟨rb, 0, none⟩) (N + 1) c) (N + 1) (cs ++ [y0, y1, y2, y3]) := by
 have h1 := (h.stored (N * 4) y0).1
 have h2 := (h1.stored (N * 4 + 1) y1).1
 have h3 := (h2.stored (N * 4 + 2) y2).1
 have h4 := (h3.stored (N * 4 + 3) y3).1
 rw [← hl] at h4 ⊢
 simpa [List.set_append] using h4
theorem kept_set4 {w : World} {rb N : Nat} (y0 y1 y2 y3 : Value) : Kept [rb] w ((((w.setCell ⟨rb, N * 4, none⟩ y0).setCell ⟨rb, N * 4 + 1, none⟩ y1).setCell ⟨rb, N * 4 + 2, none⟩ y2).setCell ⟨rb, N * 4 + 3, none⟩ y3) :=
 (((kept_setAt _).trans (kept_setAt _)).trans (kept_setAt _)).trans (kept_setAt _)
theorem box_set4 {w : World} {g rb N : Nat} {cs : Array Value} {T : TypeId} (h : Box w g cs T) (hne : g ≠ rb) (y0 y1 y2 y3 : Value) : Box ((((w.setCell ⟨rb, N * 4, none⟩ y0).setCell ⟨rb, N * 4 + 1, none⟩ y1).setCell ⟨rb, N * 4 + 2, none⟩ y2).setCell ⟨rb, N * 4 + 3, none⟩ y3) g cs T :=
 (((h.far hne _).far hne _).far hne _).far hne _
theorem row_cells {W : World} {base rb N c : Nat} {cs : List Value} {x0 x1 x2 x3 : Value} (h : W.ownsRow base 35 4 (.slice (some ⟨rb, 0, none⟩) (N + 1) c) (N + 1) (cs ++ [x0, x1, x2, x3])) (hl : cs.length = N * 4) :
 (W.cell? ⟨rb, N * 4, none⟩ = some x0 ∧ W.cell? ⟨rb, N * 4 + 1, none⟩ = some x1 ∧ W.cell? ⟨rb, N * 4 + 2, none⟩ = some x2 ∧ W.cell? ⟨rb, N * 4 + 3, none⟩ = some x3) ∧
 W.frozen? ⟨rb, N * 4, none⟩ = false ∧ W.frozen? ⟨rb, N * 4 + 1, none⟩ = false ∧ W.frozen? ⟨rb, N * 4 + 2, none⟩ = false ∧ W.frozen? ⟨rb, N * 4 + 3, none⟩ = false := by
 refine ⟨⟨?_, ?_, ?_, ?_⟩, h.frozenAt _, h.frozenAt _, h.frozenAt _, h.frozenAt _⟩
 ·rw [h.cellAt _ (by omega), ← hl]; simp
 ·rw [h.cellAt _ (by omega), ← hl]; simp
 ·rw [h.cellAt _ (by omega), ← hl]; simp
 ·rw [h.cellAt _ (by omega), ← hl]; simp
set_option maxHeartbeats 8000000 in
theorem take_leaf {base : Nat} {w : World} {g : Nat} {s : M.St} {rv ov : Value} (h : RS base w g s rv ov) (hmax : (rowK s).length ≤ 100000000) (hm60 : s.up.length ≤ 60) (hn4 : s.n < 400) {t : M.Tok} (hk : t.1 = 3 ∨ t.1 = 4 ∨ t.1 = 5) :
 Calls Try.prog 28 #[.pointer (some ⟨g, 0, none⟩), .agg #[.int .i64 t.1, str t.2]] w (TakeP base w g (M.put s t)) := by
 have hput : M.put s t = ⟨s.cur ++ [.mk false t []], s.up, if s.up.isEmpty = true then 0 else s.n + 1⟩ := by
  unfold M.put
  rw [if_neg (by omega), if_neg (by omega)]
 obtain ⟨S, hS⟩ : ∃ S, M.put s t = S := ⟨_, rfl⟩
 have HPUT := hid (hS.symm.trans hput)
 rw [hS]
 clear hput hS
 obtain ⟨kd, tx⟩ := t
 have k1 : (kd == 1) = false := by simp at hk ⊢; omega
 have k2 : (kd == 2) = false := by simp at hk ⊢; omega
 show Calls Try.prog 28 #[.pointer (some ⟨g, 0, none⟩), .agg #[.int .i64 kd, str tx]] w _
 have HL := hid (h.low (Ext.alloc w (.cells #[.int .i64 kd, str tx] 33)))
 have hgl := h.box.lt
 replace h := h.up (Ext.alloc w (.cells #[.int .i64 kd, str tx] 33))
 obtain ⟨cs, hrow, hreps⟩ := h.row
 obtain ⟨A, cap, hrv, hr1, hr2⟩ := ownsRow_shape hrow
 obtain ⟨B, oc, hov, ho1, ho2⟩ := ownsRow_shape h.op
 subst hrv hov
 have hr3 : cap ≤ 9223372036854775807 := by unfold maxLen at hr2; omega
 have ho3 : oc ≤ 9223372036854775807 := by unfold maxLen at ho2; omega
 have hlc : cs.length = (rowK s).length * 4 := hreps.len
 have HROW := hid hrow
 have HREPS := hid hreps
 obtain ⟨N, hN⟩ : ∃ N, (rowK s).length = N := ⟨_, rfl⟩
 obtain ⟨m, hm⟩ : ∃ m, s.up.length = m := ⟨_, rfl⟩
 have hBX := h.box
 have hgX : g ∉ (Value.slice A N cap).ownBlock.toList := fun e => by
  have h2 := ownsRow_box hrow h.box (by decide)
  rw [hN] at h2
  simp at e
  exact h2 e
 have hwX : w.heap.size ∉ (Value.slice A N cap).ownBlock.toList := fun e => by
  have h1 := hrow
  rw [hN] at h1
  have hnew := Box.new w #[.int .i64 kd, str tx] 33
  have h2 := ownsRow_box h1 hnew (by decide)
  simp at e
  exact h2 e
 rw [hN] at hrow hlc hr1 hmax
 rw [hm] at ho1 hm60
 rw [hN, hm] at hBX
 have HR := hid hrow
 have HH := hid h
 have HBX := hid hBX
 have HGX := hid hgX
 have HWX := hid hwX
 have HN := hid hN
 have HM := hid hm
 have HN4 := hid hn4
 have HLC := hid hlc
 have HMX := hid hmax
 clear h hrow hreps hm hBX hgX hN hmax hn4 hk hwX hlc
 go_enter Try.func28, Try.ntmps28
 go_wp2_with fail
 refine wp_region_F (Value.slice A N cap).ownBlock.toList [(0, 0), (1, 0), (2, 0), (3, 0), (4, 0), (5, 0), (6, 0), (7, 1), (8, 1), (9, 2), (11, 2), (12, 2)] 10 13 fun wd hb => ?_
 have Ed := hid hb
 clear hb
 refine WF.p 6 (.pointer (some ⟨g, 0, none⟩)) ?_
 simp only [Act.put, pA, pB, pC]
 refine WF.p 7 (.pointer (some ⟨g, 0, none⟩)) ?_
 simp only [Act.put, pA, pB, pC]
 refine WF.p 8 (.pointer (some ⟨g, 0, none⟩)) ?_
 simp only [Act.put, pA, pB, pC]
 refine WF.q 9 (.slice A N cap) rfl (fun w' hk => by have ce := ((HBX.out.up Ed.out).kept hk HGX.out).k 0 (v := .slice A N cap); go_simp) ?_
 simp only [Act.put, pA, pB, pC]
 refine WF.q 10 (.agg #[.int .i64 kd, str tx]) rfl (fun w' hk => by
  have hbx := ((Box.new w #[.int .i64 kd, str tx] 33).up Ed.out).kept hk HWX.out
  have x0 := hbx.k 0 (v := .int .i64 kd)
  have x1 := hbx.k 1 (v := str tx)
  go_simp) ?_
 simp only [Act.put, pA, pB, pC]
 refine WF.p 11 (tv false (kd, tx) none 0 0) ?_
 simp only [Act.put, pA, pB, pC]
 refine WF.p 12 (.int .i64 (N : Int)) ?_
 simp only [Act.put, pA, pB, pC]
 refine WF.act 13 (v := .slice (some ⟨wd.heap.size, 0, none⟩) 1 1) (w' := wd.alloc (.cells #[.bool false, .int .i64 0, .string ⟨#[]⟩, .slice none 0 0] 35)) rfl (by go_simp) ((Ext.alloc _ _).kept _) ?_
 simp only [Act.put, pA, pB, pC]
 obtain ⟨i0, hi, hz0, hz1, hz2⟩ := info_parts info_Tree
 obtain ⟨v', w5, hrun, ho5, hg5, _, hv5⟩ := run_append_own_at (P := Try.prog) (wd.alloc (.cells #[.bool false, .int .i64 0, .string ⟨#[]⟩, .slice none 0 0] 35)) base 25 25 35 i0 _ 4 56 Try.underlying25 hi hz0 hz1 hz2 rfl (by decide) (.slice A N cap) N cs ((kept_row (Ed.out.kept []) HR.out fun b _ => by simp).alloc _) ⟨wd.heap.size, 0, none⟩ 1 1
  [.bool false, .int .i64 0, .string ⟨#[]⟩, .slice none 0 0] rfl (by
   intro j v hj
   have hb := Box.new wd #[.bool false, .int .i64 0, .string ⟨#[]⟩, .slice none 0 0] 35
   rw [Addr.add_lit, Nat.zero_add]
   rcases j with _ | _ | _ | _ | j
   ·simp at hj; subst hj; exact hb.k 0
   ·simp at hj; subst hj; exact hb.k 1
   ·simp at hj; subst hj; exact hb.k 2
   ·simp at hj; subst hj; exact hb.k 3
   ·simp at hj) (by intro v hv; simp at hv; rcases hv with rfl | rfl | rfl | rfl <;> rfl) (by have := HMX.out; unfold maxLen; omega) (by have := HMX.out; omega) (by have := HH.out.sz; have := Ed.out.size; simp at *; omega)
 obtain ⟨rb, c5, rfl, hs5b⟩ : ∃ rb c5, v' = .slice (some ⟨rb, 0, none⟩) (N + 1) c5 ∧ N + 1 ≤ c5 ∧ c5 ≤ maxLen := by
  rcases ho5.2 with ⟨_, h2⟩ | ⟨rb, c5, _, h2, _, _, h3, h4, _⟩
  ·omega
  ·exact ⟨rb, c5, h2, h3, h4⟩
 have hc5 : c5 ≤ 9223372036854775807 := by have := hs5b.2; unfold maxLen at this; omega
 have hNl : (N : Int) < (N : Int) + 1 := by omega
 have hK5 := grown_kept hg5
 have HK5 := hid (((Ext.alloc wd (.cells #[.bool false, .int .i64 0, .string ⟨#[]⟩, .slice none 0 0] 35)).kept (Value.slice A N cap).ownBlock.toList).trans hK5)
 have HO5 := hid ho5
 have HV5 := hid hv5
 have HS5 := hid hs5b
 refine WF.act 14 rfl (exec_app (.tmp 9) (.tmp 13) rfl rfl rfl hrun) hK5 ?_
 clear hi hz0 hz1 hz2 hrun ho5 hg5 hv5 hK5 hs5b
 simp only [Act.put, pA, pB, pC]
 refine WF.y 15 (.pointer (some ⟨rb, N * 4, none⟩)) ?_
 simp only [Act.put, pA, pB, pC]
 refine WF.y 16 (.pointer (some ⟨g, 0, none⟩)) ?_
 simp only [Act.put, pA, pB, pC]
 refine WF.y 17 (.pointer (some ⟨g, 0, none⟩)) ?_
 simp only [Act.put, pA, pB, pC]
 have hB5 := hid ((HBX.out.up Ed.out).kept HK5.out HGX.out)
 have hne : g ≠ rb := fun e => by
  have h2 := ownsRow_box HO5.out hB5.out (by decide)
  exact h2 (by rw [e]; rfl)
 have hkw : Kept (g :: (Value.slice A N cap).ownBlock.toList) (w.alloc (.cells #[.int .i64 kd, str tx] 33)) w5 := (Ed.out.kept _).trans (HK5.out.mono (by intro y hy; simp only [List.mem_cons]; exact .inr hy))
 have hrbn : ∀ y ∈ [rb], y ∈ g :: (Value.slice A N cap).ownBlock.toList ∨ (w.alloc (.cells #[.int .i64 kd, str tx] 33)).heap.size ≤ y := fun y hy => by
  simp only [List.mem_singleton] at hy
  subst hy
  rcases HV5.out with e | e
  ·left
   have : (Value.slice A N cap).ownBlock = some y := e.symm
   simp [this]
  ·right
   have e' : y = (wd.alloc (.cells #[.bool false, .int .i64 0, .string ⟨#[]⟩, .slice none 0 0] 35)).heap.size := by injection e
   have := Ed.out.size
   simp at e' this ⊢
   omega
 have hsn : SameOrNew (w.alloc (.cells #[.int .i64 kd, str tx] 33)) (.slice A N cap) (.slice (some ⟨rb, 0, none⟩) (N + 1) c5) := by
  rcases HV5.out with e | e
  ·exact .inl e
  ·exact .inr ⟨_, e, by have := Ed.out.size; simp at *; omega⟩
 have key : ∀ wF : World, Kept (g :: (Value.slice A N cap).ownBlock.toList) (w.alloc (.cells #[.int .i64 kd, str tx] 33)) wF → Box wF g #[.slice (some ⟨rb, 0, none⟩) (N + 1) c5, .slice B m oc, .int .i64 (s.n : Int)] 48 →
  wF.ownsRow base 35 4 (.slice (some ⟨rb, 0, none⟩) (N + 1) c5) (N + 1) (cs ++ [.bool false, .int .i64 kd, str tx, .slice none 0 0]) →
  RS base wF g ⟨s.cur ++ [.mk false (kd, tx) []], s.up, s.n⟩ (.slice (some ⟨rb, 0, none⟩) (N + 1) c5) (.slice B m oc) ∧ Below base w wF := fun wF q1 q2 q3 => by
  have := RS.leaf (t := (kd, tx)) (wF := wF) (v' := .slice (some ⟨rb, 0, none⟩) (N + 1) c5) HH.out HROW.out HREPS.out (by rw [HN.out]; exact q1) (by rw [HM.out]; exact q2) (by rw [HN.out]; exact q3) (by rw [HN.out]; exact hsn)
  rw [HM.out] at this
  exact ⟨this.1, HL.out.trans this.2⟩
 have KEY := hid key
 have HNE := hid hne
 have HKW := hid hkw
 have HRB := hid hrbn
 clear key hne hkw hrbn hsn
 obtain ⟨q, hq⟩ : ∃ q, s.n + 1 = q := ⟨_, rfl⟩
 have hqi : (s.n : Int) + 1 = (q : Int) := by omega
 have hq9 : q ≤ 400 := by have := HN4.out; omega
 have HQ := hid hq
 clear hq
 obtain ⟨⟨e0, e1, e2, e3⟩, z0, z1, z2, z3⟩ := row_cells HO5.out HLC.out
 have g0 := hB5.out.k 0 (v := .slice A N cap)
 have y0 := hB5.out.free 0
 have hbothW : Hid (∃ WA WB, ((((w5.setCell ⟨rb, N * 4, none⟩ (.bool false)).setCell ⟨rb, N * 4 + 1, none⟩ (.int .i64 kd)).setCell ⟨rb, N * 4 + 2, none⟩ (str tx)).setCell ⟨rb, N * 4 + 3, none⟩ (.slice none 0 0)) = WA ∧ w5.setCell ⟨g, 0, none⟩ (.slice (some ⟨rb, 0, none⟩) (N + 1) c5) = WB ∧ RS base (WA.setCell ⟨g, 0, none⟩ (.slice (some ⟨rb, 0, none⟩) (N + 1) c5)) g ⟨s.cur ++ [.mk false (kd, tx) []], s.up, s.n⟩ (.slice (some ⟨rb, 0, none⟩) (N + 1) c5) (.slice B m oc) ∧ Below base w (WA.setCell ⟨g, 0, none⟩ (.slice (some ⟨rb, 0, none⟩) (N + 1) c5))
  ∧ WA.cell? ⟨g, 0, none⟩ = some (.slice A N cap) ∧ WA.frozen? ⟨g, 0, none⟩ = false
  ∧ RS base ((((WB.setCell ⟨rb, N * 4, none⟩ (.bool false)).setCell ⟨rb, N * 4 + 1, none⟩ (.int .i64 kd)).setCell ⟨rb, N * 4 + 2, none⟩ (str tx)).setCell ⟨rb, N * 4 + 3, none⟩ (.slice none 0 0)) g ⟨s.cur ++ [.mk false (kd, tx) []], s.up, s.n⟩ (.slice (some ⟨rb, 0, none⟩) (N + 1) c5) (.slice B m oc) ∧ Below base w ((((WB.setCell ⟨rb, N * 4, none⟩ (.bool false)).setCell ⟨rb, N * 4 + 1, none⟩ (.int .i64 kd)).setCell ⟨rb, N * 4 + 2, none⟩ (str tx)).setCell ⟨rb, N * 4 + 3, none⟩ (.slice none 0 0))
  ∧ ((WB.cell? ⟨rb, N * 4, none⟩ = some (.bool false) ∧ WB.cell? ⟨rb, N * 4 + 1, none⟩ = some (.int .i64 0) ∧ WB.cell? ⟨rb, N * 4 + 2, none⟩ = some (.string ⟨#[]⟩) ∧ WB.cell? ⟨rb, N * 4 + 3, none⟩ = some (.slice none 0 0)) ∧
   WB.frozen? ⟨rb, N * 4, none⟩ = false ∧ WB.frozen? ⟨rb, N * 4 + 1, none⟩ = false ∧ WB.frozen? ⟨rb, N * 4 + 2, none⟩ = false ∧ WB.frozen? ⟨rb, N * 4 + 3, none⟩ = false)) := by
  have hA1 := ownsRow_set4 HO5.out HLC.out (.bool false) (.int .i64 kd) (str tx) (.slice none 0 0)
  have hA2 := box_set4 (N := N) hB5.out HNE.out (.bool false) (.int .i64 kd) (str tx) (.slice none 0 0)
  have hA3 := HKW.out.trans_new (kept_set4 (w := w5) (rb := rb) (N := N) (.bool false) (.int .i64 kd) (str tx) (.slice none 0 0)) HRB.out
  have hnv : ∀ b, (Value.slice (some ⟨rb, 0, none⟩) (N + 1) c5).ownBlock = some b → b ∉ [g] := fun b hb => by
   have hb' : b = rb := by injection hb with e; exact e.symm
   simp only [List.mem_singleton]
   intro e
   exact HNE.out (e.symm.trans hb')
  have fA := KEY.out _ (hA3.trans ((kept_setAt (g := g) (o := 0) (.slice (some ⟨rb, 0, none⟩) (N + 1) c5)).mono (by simp))) (hA2.setAt 0 _) (kept_row (X := [g]) (kept_setAt _) hA1 hnv)
  have hB1 := kept_row (X := [g]) (kept_setAt (w := w5) (g := g) (o := 0) (.slice (some ⟨rb, 0, none⟩) (N + 1) c5)) HO5.out hnv
  have hB3 := HKW.out.trans ((kept_setAt (w := w5) (g := g) (o := 0) (.slice (some ⟨rb, 0, none⟩) (N + 1) c5)).mono (by simp))
  have fB := KEY.out _ (hB3.trans_new (kept_set4 (rb := rb) (N := N) (.bool false) (.int .i64 kd) (str tx) (.slice none 0 0)) HRB.out) (box_set4 (N := N) (hB5.out.setAt 0 _) HNE.out (.bool false) (.int .i64 kd) (str tx) (.slice none 0 0)) (ownsRow_set4 hB1 HLC.out (.bool false) (.int .i64 kd) (str tx) (.slice none 0 0))
  exact ⟨_, _, rfl, rfl, fA.1, fA.2, hA2.k 0, hA2.free 0, fB.1, fB.2, row_cells hB1 HLC.out⟩
 obtain ⟨WA, WB, hWA, hWB, rA, lA, gA, zA, rB, lB, ⟨cB0, cB1, cB2, cB3⟩, fB0, fB1, fB2, fB3⟩ := hbothW.out
 have RA := hid rA
 have LA := hid lA
 have RB := hid rB
 have LB := hid lB
 clear rA lA rB lB hbothW
 refine ⟨wpOp_st (w' := WA) (wpOp_st (w' := WA.setCell ⟨g, 0, none⟩ (.slice (some ⟨rb, 0, none⟩) (N + 1) c5)) ?_) (he := by rw [← hWA]; go_simp), wpOp_st (w' := WB) (wpOp_st (w' := ((((WB.setCell ⟨rb, N * 4, none⟩ (.bool false)).setCell ⟨rb, N * 4 + 1, none⟩ (.int .i64 kd)).setCell ⟨rb, N * 4 + 2, none⟩ (str tx)).setCell ⟨rb, N * 4 + 3, none⟩ (.slice none 0 0))) ?_) (he := by rw [← hWB]; go_simp)⟩
 ·have HRS := RA
  have HB := LA
  clear hWA hWB gA zA cB0 cB1 cB2 cB3 fB0 fB1 fB2 fB3 RA LA RB LB
  obtain ⟨W, hW⟩ : ∃ W, WA.setCell ⟨g, 0, none⟩ (.slice (some ⟨rb, 0, none⟩) (N + 1) c5) = W := ⟨_, rfl⟩
  rw [hW] at HRS HB ⊢
  clear hW e0 e1 e2 e3 z0 z1 z2 z3 g0 y0
  have b1 := HRS.out.box.k 1 (v := .slice B m oc)
  have b2 := HRS.out.box.k 2 (v := .int .i64 (s.n : Int))
  have f2 := HRS.out.box.free 2
  by_cases m0 : m = 0
  ·subst m0
   have HU := hid (show s.up.isEmpty = true by have h1 := HM.out; rw [List.isEmpty_iff]; exact List.eq_nil_of_length_eq_zero h1)
   go_wp2_with fail
   obtain ⟨k1, k2⟩ := HRS.out.nodes q
   obtain ⟨k3, k4⟩ := k1.nodes 0
   have hS : S = ⟨s.cur ++ [.mk false (kd, tx) []], s.up, 0⟩ := by rw [HPUT.out, HU.out]; rfl
   rw [hS]
   exact bodyPost_end (v := .tuple #[]) (by simp [results, Try.results28, go_sem]) rfl ⟨_, _, _, rfl, k3, (HB.out.trans k2).trans k4⟩
  ·have hm0 : ((m : Int) == 0) = false := by simp; omega
   have HU := hid (show s.up.isEmpty = false by
    rcases hq : s.up with _ | ⟨u, r⟩
    ·have h1 := HM.out; rw [hq] at h1; exact absurd h1.symm m0
    ·rfl)
   clear m0
   go_wp2_with fail
   obtain ⟨k1, k2⟩ := HRS.out.nodes q
   have hS : S = ⟨s.cur ++ [.mk false (kd, tx) []], s.up, q⟩ := by rw [HPUT.out, HU.out, ← HQ.out]; rfl
   rw [hS]
   exact bodyPost_end (v := .tuple #[]) (by simp [results, Try.results28, go_sem]) rfl ⟨_, _, _, rfl, k1, HB.out.trans k2⟩
 ·have HRS := RB
  have HB := LB
  clear hWA hWB gA zA cB0 cB1 cB2 cB3 fB0 fB1 fB2 fB3 RA LA RB LB
  obtain ⟨W, hW⟩ : ∃ W, ((((WB.setCell ⟨rb, N * 4, none⟩ (.bool false)).setCell ⟨rb, N * 4 + 1, none⟩ (.int .i64 kd)).setCell ⟨rb, N * 4 + 2, none⟩ (str tx)).setCell ⟨rb, N * 4 + 3, none⟩ (.slice none 0 0)) = W := ⟨_, rfl⟩
  rw [hW] at HRS HB ⊢
  clear hW e0 e1 e2 e3 z0 z1 z2 z3 g0 y0
  have b1 := HRS.out.box.k 1 (v := .slice B m oc)
  have b2 := HRS.out.box.k 2 (v := .int .i64 (s.n : Int))
  have f2 := HRS.out.box.free 2
  by_cases m0 : m = 0
  ·subst m0
   have HU := hid (show s.up.isEmpty = true by have h1 := HM.out; rw [List.isEmpty_iff]; exact List.eq_nil_of_length_eq_zero h1)
   go_wp2_with fail
   obtain ⟨k1, k2⟩ := HRS.out.nodes q
   obtain ⟨k3, k4⟩ := k1.nodes 0
   have hS : S = ⟨s.cur ++ [.mk false (kd, tx) []], s.up, 0⟩ := by rw [HPUT.out, HU.out]; rfl
   rw [hS]
   exact bodyPost_end (v := .tuple #[]) (by simp [results, Try.results28, go_sem]) rfl ⟨_, _, _, rfl, k3, (HB.out.trans k2).trans k4⟩
  ·have hm0 : ((m : Int) == 0) = false := by simp; omega
   have HU := hid (show s.up.isEmpty = false by
    rcases hq : s.up with _ | ⟨u, r⟩
    ·have h1 := HM.out; rw [hq] at h1; exact absurd h1.symm m0
    ·rfl)
   clear m0
   go_wp2_with fail
   obtain ⟨k1, k2⟩ := HRS.out.nodes q
   have hS : S = ⟨s.cur ++ [.mk false (kd, tx) []], s.up, q⟩ := by rw [HPUT.out, HU.out, ← HQ.out]; rfl
   rw [hS]
   exact bodyPost_end (v := .tuple #[]) (by simp [results, Try.results28, go_sem]) rfl ⟨_, _, _, rfl, k1, HB.out.trans k2⟩
theorem take_n {base : Nat} {w : World} {g : Nat} {s : M.St} {rv ov : Value} (h : RS base w g s rv ov) (hmax : (rowK s).length ≤ 100000000) (hm60 : s.up.length ≤ 60) (hn4 : s.n ≤ 400) {t : M.Tok} (hf : M.fault s t.1 = 0) :
 Calls Try.prog 28 #[.pointer (some ⟨g, 0, none⟩), .agg #[.int .i64 t.1, str t.2]] w (TakeP base w g (M.put s t)) := by
 unfold M.fault at hf
 by_cases a1 : t.1 < 1 ∨ 5 < t.1
 ·rw [if_pos a1] at hf; cases hf
 rw [if_neg a1] at hf
 by_cases a2 : t.1 = 2 ∧ s.up.isEmpty = true
 ·rw [if_pos a2] at hf; cases hf
 rw [if_neg a2] at hf
 by_cases a3 : t.1 = 1 ∧ s.up.length = 60
 ·rw [if_pos a3] at hf; cases hf
 rw [if_neg a3] at hf
 by_cases a4 : t.1 ≠ 2 ∧ s.n = 400
 ·rw [if_pos a4] at hf; cases hf
 obtain ⟨k, tx⟩ := t
 by_cases k1 : k = 1
 ·subst k1
  exact take_left h hmax hm60 (by simp at a4; omega) tx
 by_cases k2 : k = 2
 ·subst k2
  obtain ⟨u, r, hup⟩ : ∃ u r, s.up = u :: r := by
   rcases hq : s.up with _ | ⟨u, r⟩
   ·rw [hq] at a2; simp at a2
   ·exact ⟨u, r, rfl⟩
  exact take_right h hup hmax hm60 tx
 ·exact take_leaf (t := (k, tx)) h hmax hm60 (by simp at a4; omega) (by simp at a1 ⊢; omega)
end Go.Proofs.Ytceplnfjlncekaa
