/-
  Layer 12's laws: a constant that is put, mathematics.
-/
import Derived.Test.YtkhmgdfhggejaaaGreatDoorWVI
import Derived.Test.YtkhmgdfhggejaaaGreatDoorWVK
import Derived.Test.YtkhmgdfhggejaaaGreatDoorWVH
import Derived.Test.YtkhmgdfhggejaaaGreatDoorWJSL
import Derived.Test.YtkhmgdfhggejaaaGreatDoorWSOpen
namespace Go.Proofs.YtkhmgdfhggejaaaGreatDoor.Q
set_option linter.unusedSimpArgs false
set_option linter.unusedVariables false
open Go.RowKit
namespace M
/-- Before the name, behind the name. -/
def fLo (nm : List UInt8) (T : List Fn) : Prop := ∀ f ∈ T, Go.Op.bytesLess f.sg.name nm = true
def fHi (nm : List UInt8) (D : List Fn) : Prop := ∀ f ∈ D, Go.Op.bytesLess nm f.sg.name = true
theorem less_no {a b : List UInt8} (h : Go.Op.bytesLess a b = true) : Go.Op.bytesLess b a = false := by
 rcases hq : Go.Op.bytesLess b a with _ | _
 ·rfl
 ·have := less_trans h hq
  rw [less_irrefl] at this; cases this
theorem less_ne {a b : List UInt8} (h : Go.Op.bytesLess a b = true) : a ≠ b := by
 rintro rfl
 rw [less_irrefl] at h; cases h
theorem hi_drop {nm : List UInt8} {D : List Fn} (h : fHi nm D) : (D.dropWhile fun g => Go.Op.bytesLess g.sg.name nm) = D ∧ (D.takeWhile fun g => Go.Op.bytesLess g.sg.name nm) = [] ∧ (D.dropWhile fun g => decide (g.sg.name = nm)) = D := by
 rcases D with _ | ⟨x, r⟩
 ·exact ⟨rfl, rfl, rfl⟩
 ·have h1 := h x (List.mem_cons_self ..)
  rw [List.dropWhile_cons, List.takeWhile_cons, List.dropWhile_cons, less_no h1, decide_eq_false (Ne.symm (less_ne h1))]
  exact ⟨rfl, rfl, rfl⟩
theorem put_new {nm : List UInt8} {f : Fn} (hf : f.sg.name = nm) : ∀ {T D : List Fn}, fLo nm T → fHi nm D → mPut (T ++ D) f = T ++ f :: D
 | [], D, _, hd => by
  subst hf
  obtain ⟨h1, h2, h3⟩ := hi_drop hd
  unfold mPut
  rw [List.nil_append, h1, h2, h3]
  first | done | rfl
 | x :: T, D, ht, hd => by
  have ih := put_new hf (T := T) (D := D) (fun g hg => ht g (List.mem_cons_of_mem _ hg)) hd
  have h1 := ht x (List.mem_cons_self ..)
  subst hf
  unfold mPut at ih ⊢
  rw [List.cons_append, List.takeWhile_cons, List.dropWhile_cons, h1, if_pos rfl, if_pos rfl, List.cons_append, ih]
  rfl
theorem put_old {nm : List UInt8} {f g : Fn} (hf : f.sg.name = nm) (hg : g.sg.name = nm) : ∀ {T D : List Fn}, fLo nm T → fHi nm D → mPut (T ++ g :: D) f = T ++ f :: D
 | [], D, _, hd => by
  subst hf
  obtain ⟨h1, h2, h3⟩ := hi_drop hd
  unfold mPut
  rw [List.nil_append, List.takeWhile_cons, List.dropWhile_cons, hg, less_irrefl, if_neg (by simp), if_neg (by simp), List.dropWhile_cons, hg, decide_eq_true rfl, if_pos rfl, h3]
  first | done | rfl
 | x :: T, D, ht, hd => by
  have ih := put_old hf hg (T := T) (D := D) (fun g hg => ht g (List.mem_cons_of_mem _ hg)) hd
  have h1 := ht x (List.mem_cons_self ..)
  subst hf
  unfold mPut at ih ⊢
  rw [List.cons_append, List.takeWhile_cons, List.dropWhile_cons, h1, if_pos rfl, if_pos rfl, List.cons_append, ih]
  rfl
def fPair (m : List Fn) : Prop := m.Pairwise fun f g => Go.Op.bytesLess f.sg.name g.sg.name = true
theorem asc_pair {m : List Fn} : kAsc (m.map Fn.sg) ↔ fPair m := by
 unfold fPair
 rw [List.pairwise_iff_getElem]
 constructor
 ·intro h i j hi hj hij
  exact h i j _ _ hij (by rw [List.getElem?_map, List.getElem?_eq_getElem hi]; rfl) (by rw [List.getElem?_map, List.getElem?_eq_getElem hj]; rfl)
 ·intro h i j x y hij hx hy
  rw [List.getElem?_map] at hx hy
  obtain ⟨f, hf, rfl⟩ := Option.map_eq_some_iff.1 hx
  obtain ⟨g, hg, rfl⟩ := Option.map_eq_some_iff.1 hy
  obtain ⟨hi, rfl⟩ := List.getElem?_eq_some_iff.1 hf
  obtain ⟨hj, rfl⟩ := List.getElem?_eq_some_iff.1 hg
  exact h i j hi hj hij
/-- Where the name's place is. -/
theorem parts (nm : List UInt8) : ∀ {m : List Fn}, fPair m → ∃ T D, (m = T ++ D ∨ ∃ g, g.sg.name = nm ∧ m = T ++ g :: D) ∧ fLo nm T ∧ fHi nm D
 | [], _ => ⟨[], [], .inl rfl, fun f hf => (by cases hf), fun f hf => (by cases hf)⟩
 | x :: r, h => by
  unfold fPair at h
  rw [List.pairwise_cons] at h
  obtain ⟨h1, h2⟩ := h
  by_cases hx : Go.Op.bytesLess x.sg.name nm = true
  ·obtain ⟨T, D, h3, h4, h5⟩ := parts nm (m := r) h2
   refine ⟨x :: T, D, ?_, ?_, h5⟩
   ·rcases h3 with rfl | ⟨g, hg, rfl⟩
    ·exact .inl rfl
    ·exact .inr ⟨g, hg, rfl⟩
   ·intro f hf
    rcases List.mem_cons.1 hf with rfl | hf
    ·exact hx
    ·exact h4 f hf
  ·have hx' : Go.Op.bytesLess x.sg.name nm = false := by simpa using hx
   by_cases he : x.sg.name = nm
   ·exact ⟨[], r, .inr ⟨x, he, rfl⟩, fun f hf => (by cases hf), fun f hf => he ▸ h1 f hf⟩
   ·have hn := less_tri hx' he
    refine ⟨[], x :: r, .inl rfl, fun f hf => (by cases hf), fun f hf => ?_⟩
    rcases List.mem_cons.1 hf with rfl | hf
    ·exact hn
    ·exact less_trans hn (h1 f hf)
/-- The parts, all that is told of them. -/
structure Parts (nm : List UInt8) (m T D : List Fn) : Prop where
 eq : m = T ++ D ∨ ∃ g, g.sg.name = nm ∧ m = T ++ g :: D
 lo : fLo nm T
 hi : fHi nm D
 pair : fPair (T ++ D)
theorem parts_of {m : List Fn} (nm : List UInt8) (h : mIs m = true) : ∃ T D, Parts nm m T D := by
 have hp := asc_pair.1 (mIs_asc h)
 obtain ⟨T, D, h1, h2, h3⟩ := parts nm hp
 refine ⟨T, D, h1, h2, h3, ?_⟩
 rcases h1 with rfl | ⟨g, hg, rfl⟩
 ·exact hp
 ·unfold fPair at hp ⊢
  rw [List.pairwise_append] at hp ⊢
  exact ⟨hp.1, (List.pairwise_cons.1 hp.2.1).2, fun a ha b hb => hp.2.2 a ha b (List.mem_cons_of_mem _ hb)⟩
section
variable {nm : List UInt8} {m T D : List Fn} (P : Parts nm m T D)
include P
theorem Parts.put {f : Fn} (hf : f.sg.name = nm) : mPut m f = T ++ f :: D := by
 rcases P.eq with e | ⟨g, hg, e⟩
 ·rw [e, put_new hf P.lo P.hi]
 ·rw [e, put_old hf hg P.lo P.hi]
theorem Parts.mem {f : Fn} (h : f ∈ T ++ D) : f ∈ m ∧ f.sg.name ≠ nm := by
 have hn : f.sg.name ≠ nm := by
  rcases List.mem_append.1 h with h | h
  ·exact less_ne (P.lo f h)
  ·exact Ne.symm (less_ne (P.hi f h))
 refine ⟨?_, hn⟩
 rcases P.eq with e | ⟨g, hg, e⟩
 ·rw [e]; exact h
 ·rw [e]
  rcases List.mem_append.1 h with h | h
  ·exact List.mem_append_left _ h
  ·exact List.mem_append_right _ (List.mem_cons_of_mem _ h)
theorem Parts.back {f : Fn} (h : f ∈ m) (hn : f.sg.name ≠ nm) : f ∈ T ++ D := by
 rcases P.eq with e | ⟨g, hg, e⟩
 ·rw [← e]; exact h
 ·rw [e] at h
  rcases List.mem_append.1 h with h | h
  ·exact List.mem_append_left _ h
  ·rcases List.mem_cons.1 h with rfl | h
   ·exact absurd hg hn
   ·exact List.mem_append_right _ h
theorem Parts.count : (m.filter fun f => decide (f.sg.name ≠ nm)).length + 1 = (T ++ D).length + 1 := by
 have ht : ∀ l : List Fn, (∀ f ∈ l, f.sg.name ≠ nm) → l.filter (fun f => decide (f.sg.name ≠ nm)) = l := fun l h => List.filter_eq_self.2 fun f hf => decide_eq_true (h f hf)
 have hT := ht T fun f hf => less_ne (P.lo f hf)
 have hD := ht D fun f hf => Ne.symm (less_ne (P.hi f hf))
 rcases P.eq with e | ⟨g, hg, e⟩
 ·rw [e, List.filter_append, hT, hD]
 ·rw [e, List.filter_append, List.filter_cons, hT, hD, show decide (g.sg.name ≠ nm) = false from decide_eq_false (fun h => h hg)]
  rfl
theorem Parts.asc {f : Fn} (hf : f.sg.name = nm) : kAsc ((T ++ f :: D).map Fn.sg) := by
 refine asc_pair.2 ?_
 have hp := P.pair
 unfold fPair at hp ⊢
 rw [List.pairwise_append] at hp ⊢
 refine ⟨hp.1, List.pairwise_cons.2 ⟨fun g hg => by rw [hf]; exact P.hi g hg, hp.2.1⟩, fun a ha b hb => ?_⟩
 rcases List.mem_cons.1 hb with rfl | hb
 ·rw [hf]; exact P.lo a ha
 ·exact hp.2.2 a ha b hb
end
theorem fnIs_const {nm : List UInt8} {Z : Int} (h : ksig ⟨nm, [], 2⟩ = true) : fnIs (constF nm (vz 2 Z)) = true := by
 unfold fnIs
 rw [show ksig (constF nm (vz 2 Z)).sg = true from h, show vIs (constF nm (vz 2 Z)).els (constF nm (vz 2 Z)).sg.ret = true from vIs_vz Z]
 rfl
theorem Parts.is {nm : List UInt8} {m T D : List Fn} (P : Parts nm m T D) (hm : mIs m = true) {Z : Int} (h : ksig ⟨nm, [], 2⟩ = true) : mIs (T ++ constF nm (vz 2 Z) :: D) = true := by
 refine mIs_of (P.asc rfl) fun k f hk => ?_
 rcases List.mem_append.1 (List.mem_of_getElem? hk) with hf | hf
 ·obtain ⟨j, hj⟩ := List.getElem?_of_mem (P.mem (List.mem_append_left _ hf)).1
  exact mIs_fn hm hj
 ·rcases List.mem_cons.1 hf with rfl | hf
  ·exact fnIs_const h
  ·obtain ⟨j, hj⟩ := List.getElem?_of_mem (P.mem (List.mem_append_right _ hf)).1
   exact mIs_fn hm hj
/-- The constant as a term. -/
def conT (nm : List UInt8) : Tm := .mk 4 false [] nm 2 []
theorem Parts.eval {nm : List UInt8} {m T D : List Fn} (P : Parts nm m T D) (hm : mIs m = true) {Z : Int} (h : ksig ⟨nm, [], 2⟩ = true) (hk : kIs (conT nm) = true) : mEval (T ++ constF nm (vz 2 Z) :: D) (conT nm) = vz 2 Z := by
 unfold mEval
 rw [if_pos hk, mRead, if_pos (P.is hm h)]
 unfold conT
 rw [ev, if_neg (by decide), if_neg (by decide), if_neg (by decide), if_pos rfl, evs]
 have hx : (T ++ constF nm (vz 2 Z) :: D)[T.length]? = some (constF nm (vz 2 Z)) := by
  rw [List.getElem?_append_right (Nat.le_refl _), Nat.sub_self]; rfl
 show mOf (T ++ constF nm (vz 2 Z) :: D) ⟨nm, [], 2⟩ [] = vz 2 Z
 rw [mOf_at (s := ⟨nm, [], 2⟩) [] (P.asc rfl) hx rfl, if_pos (show (constF nm (vz 2 Z)).sg = ⟨nm, [], 2⟩ from rfl)]
 rfl
end M
end Go.Proofs.YtkhmgdfhggejaaaGreatDoor.Q

/-
  Layer 12's laws: an argument that is a list of functions, a value, opened.
-/
namespace Go.Proofs.YtkhmgdfhggejaaaGreatDoor.Q
set_option linter.unusedSimpArgs false
set_option linter.unusedVariables false
open Go.ChangeShapes Go.WideShapes Go.ChangeAt Go.RowKit

theorem cells_intV : Tryz.prog.cellsOf 3 = 1 := by kernel_rfl
theorem cells_Value3 : Tryz.prog.cellsOf 38 = 3 := by kernel_rfl
theorem cells_Row4 : Tryz.prog.cellsOf 65 = 4 := by kernel_rfl
theorem cells_Fun7 : Tryz.prog.cellsOf 60 = 7 := by kernel_rfl
section
variable {H : Type} {enc : TypeId × Value → H} {W W' : World}
/-- A list of structs, opened: what its elements' cells are. -/
theorem slice_open {α : Type} [Inhabited α] {C : World → α → List Value → Prop} {sz : Nat} {tS tE : TypeId} (K : CKind C sz) (hu : Tryz.prog.underlying tS = some (.slice tE)) (hc : Tryz.prog.cellsOf tE = sz) (hp : 0 < sz)
 (hE : ∀ f cs x, DataW.trod enc Tryz.prog W 0 (fun _ => true) true f tE cs = some x → ∃ y, C W y cs) {f : Nat} {cs : List Value} {x : DataW H × List MemPlace} (h : DataW.trod enc Tryz.prog W 0 (fun _ => true) true f tS cs = some x) :
 ∃ (A : Option Addr) (n c : Nat) (l : List α), cs = [.slice A n c] ∧ n = l.length ∧ n ≤ c ∧ c ≤ maxLen ∧ ∀ (k : Nat) (y : α), l[k]? = some y → ∃ ad, A = some ad ∧ ad.block < W.heap.size ∧ ∃ us, C W y us ∧ ∀ (j : Nat) (u : Value), us[j]? = some u → W.cell? ((ad.add (k * sz)).add j) = some u := by
 rcases DataW.trod_slice hu h with ⟨rfl, _⟩ | ⟨a, len, cap, elems, rest, n, rfl, rfl, _, _, hl, hmx, hel, hx, _⟩
 ·exact ⟨none, 0, 0, [], rfl, rfl, Nat.le_refl _, Nat.zero_le _, fun k y hk => by simp at hk⟩
 ·rw [hc] at hx
  have key : ∀ i, i < len → ∃ t : α, a.block < W.heap.size ∧ ∃ us, C W t us ∧ ∀ (j : Nat) (u : Value), us[j]? = some u → W.cell? ((a.add (i * sz)).add j) = some u := by
   intro i hi
   have he := hx i hi
   rw [List.getElem?_eq_getElem (by omega)] at he
   obtain ⟨cs', h1, h2⟩ := Option.bind_eq_some_iff.1 he
   obtain ⟨_, hlen, hcl⟩ := World.cells?_some h1
   obtain ⟨y, hy⟩ := hE n cs' _ h2
   have hk := K.len hy
   have hcell : ∀ (j : Nat) (u : Value), cs'[j]? = some u → W.cell? ((a.add (i * sz)).add j) = some u := by
    intro j u hj
    have hjl := (List.getElem?_eq_some_iff.1 hj).1
    have := hcl j (by omega)
    rw [this, hj]
   refine ⟨y, ?_, cs', hy, hcell⟩
   have := World.block_lt_of_cell? W _ (hcell 0 _ (List.getElem?_eq_getElem (by omega)))
   rwa [addr_block, addr_block] at this
  obtain ⟨g, hg⟩ := Go.Deep.choose_lt (α := α) (p := fun i t => a.block < W.heap.size ∧ ∃ us, C W t us ∧ ∀ (j : Nat) (u : Value), us[j]? = some u → W.cell? ((a.add (i * sz)).add j) = some u) key
  refine ⟨some a, len, cap, (List.range len).map g, rfl, by simp, hl, hmx, fun k t hk => ?_⟩
  rw [List.getElem?_map] at hk
  obtain ⟨k', hk1, hk2⟩ := Option.map_eq_some_iff.1 hk
  obtain ⟨hk3, hk4⟩ := List.getElem?_eq_some_iff.1 hk1
  simp at hk3 hk4
  subst hk4 hk2
  exact ⟨a, rfl, (hg k hk3).1, (hg k hk3).2⟩
set_option maxRecDepth 100000 in
theorem val_cells : ∀ (f : Nat) (cs : List Value) (x : DataW H × List MemPlace), DataW.trod enc Tryz.prog W 0 (fun _ => true) true f 38 cs = some x → ∃ y, VC W y cs := by
 intro f cs x h
 obtain ⟨xs, n, rfl, _, hlen, hxl, hfx⟩ := DataW.trod_struct Tryz.underlying38 h
 rw [cells_Value3] at hlen
 match xs, hxl with
 | [y0, y1], _ =>
 match cs, hlen with
 | [v0, v1, v2], _ =>
  have h0 : DataW.trod enc Tryz.prog W 0 (fun _ => true) true n 3 (([v0, v1, v2].drop 0).take (Tryz.prog.cellsOf 3)) = some y0 := hfx 0 _ rfl
  have h1 : DataW.trod enc Tryz.prog W 0 (fun _ => true) true n 24 (([v0, v1, v2].drop 1).take (Tryz.prog.cellsOf 24)) = some y1 := hfx 1 _ rfl
  have d1 : Tryz.prog.cellsOf 24 = 2 := by kernel_rfl
  simp only [List.drop_zero, cells_intV, List.take_succ_cons, List.take_zero] at h0
  simp only [List.drop_succ_cons, List.drop_zero, d1, List.take_succ_cons, List.take_zero] at h1
  obtain ⟨so, hso, _⟩ := DataW.trod_int Tryz.underlying3 h0
  injection hso with hso
  subst hso
  obtain ⟨z0, z1, n', _, _, h10, h11⟩ := trod_struct2 Tryz.underlying24 h1
  have d2 : Tryz.prog.cellsOf 4 = 1 := by kernel_rfl
  have d3 : Tryz.prog.cellsOf 22 = 1 := by kernel_rfl
  simp only [List.drop_zero, d2, List.take_succ_cons, List.take_zero] at h10
  simp only [List.drop_succ_cons, List.drop_zero, d3, List.take_succ_cons, List.take_zero] at h11
  obtain ⟨g, hg, _⟩ := DataW.trod_bool Tryz.underlying4 h10
  injection hg with hg
  subst hg
  obtain ⟨N, nn, nc, ls, rfl, hn⟩ := open_row h11
  exact ⟨(so, g, ls), N, nn, nc, rfl, hn⟩
theorem vals_open {f : Nat} {cs : List Value} {x : DataW H × List MemPlace} (h : DataW.trod enc Tryz.prog W 0 (fun _ => true) true f 63 cs = some x) : ∃ A n c l, cs = [.slice A n c] ∧ VList W (.slice A n c) l := by
 obtain ⟨A, n, c, l, h1, h2, h3, h4, h5⟩ := slice_open vck Tryz.underlying63 cells_Value3 (by decide) val_cells h
 refine ⟨A, n, c, l, h1, A, n, c, rfl, h2, h3, h4, fun k y hk => ?_⟩
 obtain ⟨ad, ha, hb, us, ⟨N, nn, nc, rfl, hn⟩, hc⟩ := h5 k y hk
 refine ⟨ad, ha, hb, N, nn, nc, ?_, hc 1 _ rfl, hc 2 _ rfl, hn⟩
 have := hc 0 _ rfl
 rwa [Addr.add_zero'] at this
set_option maxRecDepth 100000 in
theorem row_cells : ∀ (f : Nat) (cs : List Value) (x : DataW H × List MemPlace), DataW.trod enc Tryz.prog W 0 (fun _ => true) true f 65 cs = some x → ∃ y, RC W y cs := by
 intro f cs x h
 obtain ⟨xs, n, rfl, _, hlen, hxl, hfx⟩ := DataW.trod_struct Tryz.underlying65 h
 rw [cells_Row4] at hlen
 match xs, hxl with
 | [y0, y1], _ =>
 match cs, hlen with
 | [v0, v1, v2, v3], _ =>
  have h0 : DataW.trod enc Tryz.prog W 0 (fun _ => true) true n 63 (([v0, v1, v2, v3].drop 0).take (Tryz.prog.cellsOf 63)) = some y0 := hfx 0 _ rfl
  have h1 : DataW.trod enc Tryz.prog W 0 (fun _ => true) true n 38 (([v0, v1, v2, v3].drop 1).take (Tryz.prog.cellsOf 38)) = some y1 := hfx 1 _ rfl
  have d1 : Tryz.prog.cellsOf 63 = 1 := by kernel_rfl
  simp only [List.drop_zero, d1, List.take_succ_cons, List.take_zero] at h0
  simp only [List.drop_succ_cons, List.drop_zero, cells_Value3, List.take_succ_cons, List.take_zero] at h1
  obtain ⟨A, m, c, l, e, hl⟩ := vals_open h0
  obtain ⟨z, N, nn, nc, e1, hn⟩ := val_cells _ _ _ h1
  injection e with e
  subst e
  simp only [List.cons.injEq, and_true] at e1
  obtain ⟨rfl, rfl, rfl⟩ := e1
  exact ⟨(l, z), A, m, c, N, nn, nc, rfl, hl, hn⟩
theorem rows_open {f : Nat} {cs : List Value} {x : DataW H × List MemPlace} (h : DataW.trod enc Tryz.prog W 0 (fun _ => true) true f 58 cs = some x) : ∃ A n c l, cs = [.slice A n c] ∧ RwList W l (.slice A n c) := by
 obtain ⟨A, n, c, l, h1, h2, h3, h4, h5⟩ := slice_open rck Tryz.underlying58 cells_Row4 (by decide) row_cells h
 refine ⟨A, n, c, l, h1, A, n, c, rfl, h2, h3, h4, fun k y hk => ?_⟩
 obtain ⟨ad, ha, hb, us, ⟨A', m', c', N, nn, nc, rfl, hl, hn⟩, hc⟩ := h5 k y hk
 refine ⟨ad, ha, hb, A', m', c', N, nn, nc, ⟨?_, hc 1 _ rfl, hc 2 _ rfl, hc 3 _ rfl⟩, hl, hn⟩
 have := hc 0 _ rfl
 rwa [Addr.add_zero'] at this
set_option maxRecDepth 100000 in
theorem fn_cells : ∀ (f : Nat) (cs : List Value) (x : DataW H × List MemPlace), DataW.trod enc Tryz.prog W 0 (fun _ => true) true f 60 cs = some x → ∃ y, FC W y cs := by
 intro f cs x h
 obtain ⟨xs, n, rfl, _, hlen, hxl, hfx⟩ := DataW.trod_struct Tryz.underlying60 h
 rw [cells_Fun7] at hlen
 match xs, hxl with
 | [y0, y1, y2], _ =>
 match cs, hlen with
 | [v0, v1, v2, v3, v4, v5, v6], _ =>
  have h0 : DataW.trod enc Tryz.prog W 0 (fun _ => true) true n 52 (([v0, v1, v2, v3, v4, v5, v6].drop 0).take (Tryz.prog.cellsOf 52)) = some y0 := hfx 0 _ rfl
  have h1 : DataW.trod enc Tryz.prog W 0 (fun _ => true) true n 58 (([v0, v1, v2, v3, v4, v5, v6].drop 3).take (Tryz.prog.cellsOf 58)) = some y1 := hfx 1 _ rfl
  have h2 : DataW.trod enc Tryz.prog W 0 (fun _ => true) true n 38 (([v0, v1, v2, v3, v4, v5, v6].drop 4).take (Tryz.prog.cellsOf 38)) = some y2 := hfx 2 _ rfl
  have d1 : Tryz.prog.cellsOf 58 = 1 := by kernel_rfl
  simp only [List.drop_zero, cells_Sig3, List.take_succ_cons, List.take_zero] at h0
  simp only [List.drop_succ_cons, List.drop_zero, d1, List.take_succ_cons, List.take_zero] at h1
  simp only [List.drop_succ_cons, List.drop_zero, cells_Value3, List.take_succ_cons, List.take_zero] at h2
  obtain ⟨nm, ag, rt, A, c, e0, hi⟩ := sig_cells h0
  obtain ⟨B, m, d, l, e1, hl⟩ := rows_open h1
  obtain ⟨z, N, nn, nc, e2, hn⟩ := val_cells _ _ _ h2
  simp only [List.cons.injEq, and_true] at e0 e1 e2
  obtain ⟨rfl, rfl, rfl⟩ := e0
  obtain rfl := e1
  obtain ⟨rfl, rfl, rfl⟩ := e2
  exact ⟨⟨⟨nm, ag, rt⟩, l, z⟩, A, ag.length, c, B, m, d, N, nn, nc, rfl, hi, hl, hn⟩
set_option maxRecDepth 100000 in
theorem open_Funs {r : Reach} {b0 : Nat} {v : Value} {d : DataW H} {ps : List MemPlace} (hval : Value.okWide Tryz.prog W r b0 28 v) (h : DataW.Trod enc Tryz.prog W 0 (fun _ => true) true 28 v d ps) : ∃ l, FnList W l v := by
 obtain ⟨a0, len0, cap0, rfl⟩ := okWide_slice Tryz.underlying28 hval
 obtain ⟨fuel, hf⟩ := h
 have hf' : DataW.trod enc Tryz.prog W 0 (fun _ => true) true fuel 28 [.slice a0 len0 cap0] = some (d, ps) := hf
 haveI : Inhabited M.Fn := ⟨⟨⟨[], [], 0⟩, [], (0, false, [])⟩⟩
 obtain ⟨A, n, c, l, h1, h2, h3, h4, h5⟩ := slice_open fck Tryz.underlying28 cells_Fun7 (by decide) fn_cells hf'
 injection h1 with h1
 rw [h1]
 refine ⟨l, A, n, c, rfl, h2, h3, h4, fun k y hk => ?_⟩
 obtain ⟨ad, ha, hb, us, ⟨A', m', c', B, m, d', N, nn, nc, rfl, hi, hl, hn⟩, hc⟩ := h5 k y hk
 refine ⟨ad, ha, hb, A', m', c', B, m, d', N, nn, nc, ⟨⟨?_, hc 1 _ rfl, hc 2 _ rfl⟩, hc 3 _ rfl, hc 4 _ rfl, hc 5 _ rfl, hc 6 _ rfl⟩, hi, hl, hn⟩
 have := hc 0 _ rfl
 rwa [Addr.add_zero'] at this
end
end Go.Proofs.YtkhmgdfhggejaaaGreatDoor.Q

