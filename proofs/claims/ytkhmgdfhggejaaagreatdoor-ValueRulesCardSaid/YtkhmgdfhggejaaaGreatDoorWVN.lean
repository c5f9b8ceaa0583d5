/-
  Layer 12's laws: an argument that is a list of functions, a value, opened.
-/
import Derived.Test.YtkhmgdfhggejaaaGreatDoorWVH
import Derived.Test.YtkhmgdfhggejaaaGreatDoorWSOpen
namespace Go.Proofs.YtkhmgdfhggejaaaGreatDoor.Q
set_option linter.unusedSimpArgs false
set_option linter.unusedVariables false
open Go.ChangeShapes Go.WideShapes Go.ChangeAt Go.RowKit
theorem cells_intV : Tryz.prog.cellsOf 3 = 1 := by kernel_rfl
theorem cells_Value3 : Tryz.prog.cellsOf 38 = 3 := by kernel_rfl
theorem cells_Row4 : Tryz.prog.cellsOf 65 = 4 := by kernel_rfl
theorem cells_Fun7 : Tryz.prog.cellsOf 60 = 7 := by kernel_rfl
section
variable {H : Type} {enc : TypeId × Value → H} {W W' : World}
theorem slice_open {α : Type} [Inhabited α] {C : World → α → List Value → Prop} {sz : Nat} {tS tE : TypeId} (K : CKind C sz) (hu : Tryz.prog.underlying tS = some (.slice tE)) (hc : Tryz.prog.cellsOf tE = sz) (hp : 0 < sz)
 (hE : ∀ f cs x, DataW.trod enc Tryz.prog W 0 (fun _ => true) true f tE cs = some x → ∃ y, C W y cs) {f : Nat} {cs : List Value} {x : DataW H × List MemPlace} (h : DataW.trod enc Tryz.prog W 0 (fun _ => true) true f tS cs = some x) :
 ∃ (A : Option Addr) (n c : Nat) (l : List α), cs = [.slice A n c] ∧ n = l.length ∧ n ≤ c ∧ c ≤ maxLen ∧ ∀ (k : Nat) (y : α), l[k]? = some y → ∃ ad, A = some ad ∧ ad.block < W.heap.size ∧ ∃ us, C W y us ∧ ∀ (j : Nat) (u : Value), us[j]? = some u → W.cell? ((ad.add (k * sz)).add j) = some u := by
 rcases DataW.trod_slice hu h with ⟨rfl, _⟩ | ⟨a, len, cap, elems, rest, n, rfl, rfl, _, _, hl, hmx, hel, hx, _⟩
 ·exact ⟨none, 0, 0, [], rfl, rfl, Nat.le_refl _, Nat.zero_le _, fun k y hk => by simp at hk⟩
 ·rw [hc] at hx
  have key : ∀ i, i < len → ∃ t : α, a.block < W.heap.size ∧ ∃ us, C W t us ∧ ∀ (j : Nat) (u : Value), us[j]? = some u → W.cell? ((a.add (i * sz)).add j) = some u := by
   intro i hi
   have he := hx i hi
   rw [List.getElem?_eq_getElem (by omega)] at he
   obtain ⟨cs', h1, h2⟩ := Option.bind_eq_some_iff.1 he
   obtain ⟨_, hlen, hcl⟩ := World.cells?_some h1
   obtain ⟨y, hy⟩ := hE n cs' _ h2
   have hk := K.len hy
   have hcell : ∀ (j : Nat) (u : Value), cs'[j]? = some u → W.cell? ((a.add (i * sz)).add j) = some u := by
    intro j u hj
    have hjl := (List.getElem?_eq_some_iff.1 hj).1
    have := hcl j (by omega)
    rw [this, hj]
   refine ⟨y, ?_, cs', hy, hcell⟩
   have := World.block_lt_of_cell? W _ (hcell 0 _ (List.getElem?_eq_getElem (by omega)))
   rwa [addr_block, addr_block] at this
  obtain ⟨g, hg⟩ := Go.Deep.choose_lt (α := α) (p := fun i t => a.block < W.heap.size ∧ ∃ us, C W t us ∧ ∀ (j : Nat) (u : Value), us[j]? = some u → W.cell? ((a.add (i * sz)).add j) = some u) key
  refine ⟨some a, len, cap, (List.range len).map g, rfl, by simp, hl, hmx, fun k t hk => ?_⟩
  rw [List.getElem?_map] at hk
  obtain ⟨k', hk1, hk2⟩ := Option.map_eq_some_iff.1 hk
  obtain ⟨hk3, hk4⟩ := List.getElem?_eq_some_iff.1 hk1
  simp at hk3 hk4
  subst hk4 hk2
  exact ⟨a, rfl, (hg k hk3).1, (hg k hk3).2⟩
set_option maxRecDepth 100000 in
theorem val_cells : ∀ (f : Nat) (cs : List Value) (x : DataW H × List MemPlace), DataW.trod enc Tryz.prog W 0 (fun _ => true) true f 38 cs = some x → ∃ y, VC W y cs := by
 intro f cs x h
 obtain ⟨xs, n, rfl, _, hlen, hxl, hfx⟩ := DataW.trod_struct Tryz.underlying38 h
 rw [cells_Value3] at hlen
 match xs, hxl with
 | [y0, y1], _ =>
 match cs, hlen with
 | [v0, v1, v2], _ =>
  have h0 : DataW.trod enc Tryz.prog W 0 (fun _ => true) true n 3 (([v0, v1, v2].drop 0).take (Tryz.prog.cellsOf 3)) = some y0 := hfx 0 _ rfl
  have h1 : DataW.trod enc Tryz.prog W 0 (fun _ => true) true n 24 (([v0, v1, v2].drop 1).take (Tryz.prog.cellsOf 24)) = some y1 := hfx 1 _ rfl
  have d1 : Tryz.prog.cellsOf 24 = 2 := by kernel_rfl
  simp only [List.drop_zero, cells_intV, List.take_succ_cons, List.take_zero] at h0
  simp only [List.drop_succ_cons, List.drop_zero, d1, List.take_succ_cons, List.take_zero] at h1
  obtain ⟨so, hso, _⟩ := DataW.trod_int Tryz.underlying3 h0
  injection hso with hso
  subst hso
  obtain ⟨z0, z1, n', _, _, h10, h11⟩ := trod_struct2 Tryz.underlying24 h1
  have d2 : Tryz.prog.cellsOf 4 = 1 := by kernel_rfl
  have d3 : Tryz.prog.cellsOf 22 = 1 := by kernel_rfl
  simp only [List.drop_zero, d2, List.take_succ_cons, List.take_zero] at h10
  simp only [List.drop_succ_cons, List.drop_zero, d3, List.take_succ_cons, List.take_zero] at h11
  obtain ⟨g, hg, _⟩ := DataW.trod_bool Tryz.underlying4 h10
  injection hg with hg
  subst hg
  obtain ⟨N, nn, nc, ls, rfl, hn⟩ := open_row h11
  exact ⟨(so, g, ls), N, nn, nc, rfl, hn⟩
theorem vals_open {f : Nat} {cs : List Value} {x : DataW H × List MemPlace} (h : DataW.trod enc Tryz.prog W 0 (fun _ => true) true f 63 cs = some x) : ∃ A n c l, cs = [.slice A n c] ∧ VList W (.slice A n c) l := by
 obtain ⟨A, n, c, l, h1, h2, h3, h4, h5⟩ := slice_open vck Tryz.underlying63 cells_Value3 (by decide) val_cells h
 refine ⟨A, n, c, l, h1, A, n, c, rfl, h2, h3, h4, fun k y hk => ?_⟩
 obtain ⟨ad, ha, hb, us, ⟨N, nn, nc, rfl, hn⟩, hc⟩ := h5 k y hk
 refine ⟨ad, ha, hb, N, nn, nc, ?_, hc 1 _ rfl, hc 2 _ rfl, hn⟩
 have := hc 0 _ rfl
 rwa [Addr.add_zero'] at this
set_option maxRecDepth 100000 in
theorem row_cells : ∀ (f : Nat) (cs : List Value) (x : DataW H × List MemPlace), DataW.trod enc Tryz.prog W 0 (fun _ => true) true f 65 cs = some x → ∃ y, RC W y cs := by
 intro f cs x h
 obtain ⟨xs, n, rfl, _, hlen, hxl, hfx⟩ := DataW.trod_struct Tryz.underlying65 h
 rw [cells_Row4] at hlen
 match xs, hxl with
 | [y0, y1], _ =>
 match cs, hlen with
 | [v0, v1, v2, v3], _ =>
  have h0 : DataW.trod enc Tryz.prog W 0 (fun _ => true) true n 63 (([v0, v1, v2, v3].drop 0).take (Tryz.prog.cellsOf 63)) = some y0 := hfx 0 _ rfl
  have h1 : DataW.trod enc Tryz.prog W 0 (fun _ => true) true n 38 (([v0, v1, v2, v3].drop 1).take (Tryz.prog.cellsOf 38)) = some y1 := hfx 1 _ rfl
  have d1 : Tryz.prog.cellsOf 63 = 1 := by kernel_rfl
  simp only [List.drop_zero, d1, List.take_succ_cons, List.take_zero] at h0
  simp only [List.drop_succ_cons, List.drop_zero, cells_Value3, List.take_succ_cons, List.take_zero] at h1
  obtain ⟨A, m, c, l, e, hl⟩ := vals_open h0
  obtain ⟨z, N, nn, nc, e1, hn⟩ := val_cells _ _ _ h1
  injection e with e
  subst e
  simp only [List.cons.injEq, and_true] at e1
  obtain ⟨rfl, rfl, rfl⟩ := e1
  exact ⟨(l, z), A, m, c, N, nn, nc, rfl, hl, hn⟩
theorem rows_open {f : Nat} {cs : List Value} {x : DataW H × List MemPlace} (h : DataW.trod enc Tryz.prog W 0 (fun _ => true) true f 58 cs = some x) : ∃ A n c l, cs = [.slice A n c] ∧ RwList W l (.slice A n c) := by
 obtain ⟨A, n, c, l, h1, h2, h3, h4, h5⟩ := slice_open rck Tryz.underlying58 cells_Row4 (by decide) row_cells h
 refine ⟨A, n, c, l, h1, A, n, c, rfl, h2, h3, h4, fun k y hk => ?_⟩
 obtain ⟨ad, ha, hb, us, ⟨A', m', c', N, nn, nc, rfl, hl, hn⟩, hc⟩ := h5 k y hk
 refine ⟨ad, ha, hb, A', m', c', N, nn, nc, ⟨?_, hc 1 _ rfl, hc 2 _ rfl, hc 3 _ rfl⟩, hl, hn⟩
 have := hc 0 _ rfl
 rwa [Addr.add_zero'] at this
set_option maxRecDepth 100000 in
theorem fn_cells : ∀ (f : Nat) (cs : List Value) (x : DataW H × List MemPlace), DataW.trod enc Tryz.prog W 0 (fun _ => true) true f 60 cs = some x → ∃ y, FC W y cs := by
 intro f cs x h
 obtain ⟨xs, n, rfl, _, hlen, hxl, hfx⟩ := DataW.trod_struct Tryz.underlying60 h
 rw [cells_Fun7] at hlen
 match xs, hxl with
 | [y0, y1, y2], _ =>
 match cs, hlen with
 | [v0, v1, v2, v3, v4, v5, v6], _ =>
  have h0 : DataW.trod enc Tryz.prog W 0 (fun _ => true) true n 52 (([v0, v1, v2, v3, v4, v5, v6].drop 0).take (Tryz.prog.cellsOf 52)) = some y0 := hfx 0 _ rfl
  have h1 : DataW.trod enc Tryz.prog W 0 (fun _ => true) true n 58 (([v0, v1, v2, v3, v4, v5, v6].drop 3).take (Tryz.prog.cellsOf 58)) = some y1 := hfx 1 _ rfl
  have h2 : DataW.trod enc Tryz.prog W 0 (fun _ => true) true n 38 (([v0, v1, v2, v3, v4, v5, v6].drop 4).take (Tryz.prog.cellsOf 38)) = some y2 := hfx 2 _ rfl
  have d1 : Tryz.prog.cellsOf 58 = 1 := by kernel_rfl
  simp only [List.drop_zero, cells_Sig3, List.take_succ_cons, List.take_zero] at h0
  simp only [List.drop_succ_cons, List.drop_zero, d1, List.take_succ_cons, List.take_zero] at h1
  simp only [List.drop_succ_cons, List.drop_zero, cells_Value3, List.take_succ_cons, List.take_zero] at h2
  obtain ⟨nm, ag, rt, A, c, e0, hi⟩ := sig_cells h0
  obtain ⟨B, m, d, l, e1, hl⟩ := rows_open h1
  obtain ⟨z, N, nn, nc, e2, hn⟩ := val_cells _ _ _ h2
  simp only [List.cons.injEq, and_true] at e0 e1 e2
  obtain ⟨rfl, rfl, rfl⟩ := e0
  obtain rfl := e1
  obtain ⟨rfl, rfl, rfl⟩ := e2
  exact ⟨⟨⟨nm, ag, rt⟩, l, z⟩, A, ag.length, c, B, m, d, N, nn, nc, rfl, hi, hl, hn⟩
set_option maxRecDepth 100000 in
theorem open_Funs {r : Reach} {b0 : Nat} {v : Value} {d : DataW H} {ps : List MemPlace} (hval : Value.okWide Tryz.prog W r b0 28 v) (h : DataW.Trod enc Tryz.prog W 0 (fun _ => true) true 28 v d ps) : ∃ l, FnList W l v := by
 obtain ⟨a0, len0, cap0, rfl⟩ := okWide_slice Tryz.underlying28 hval
 obtain ⟨fuel, hf⟩ := h
 have hf' : DataW.trod enc Tryz.prog W 0 (fun _ => true) true fuel 28 [.slice a0 len0 cap0] = some (d, ps) := hf
 haveI : Inhabited M.Fn := ⟨⟨⟨[], [], 0⟩, [], (0, false, [])⟩⟩
 obtain ⟨A, n, c, l, h1, h2, h3, h4, h5⟩ := slice_open fck Tryz.underlying28 cells_Fun7 (by decide) fn_cells hf'
 injection h1 with h1
 rw [h1]
 refine ⟨l, A, n, c, rfl, h2, h3, h4, fun k y hk => ?_⟩
 obtain ⟨ad, ha, hb, us, ⟨A', m', c', B, m, d', N, nn, nc, rfl, hi, hl, hn⟩, hc⟩ := h5 k y hk
 refine ⟨ad, ha, hb, A', m', c', B, m, d', N, nn, nc, ⟨⟨?_, hc 1 _ rfl, hc 2 _ rfl⟩, hc 3 _ rfl, hc 4 _ rfl, hc 5 _ rfl, hc 6 _ rfl⟩, hi, hl, hn⟩
 have := hc 0 _ rfl
 rwa [Addr.add_zero'] at this
end
end Go.Proofs.YtkhmgdfhggejaaaGreatDoor.Q
