/-
  What each law's proof of layer 11 shares: an argument that is a tree, or a list of trees, opened.
-/
import Derived.Test.YtgkofipifjfjhaaGreatDoorJSL
import Derived.Test.YtgkofipifjfjhaaGreatDoorJQT
namespace Go.Proofs.YtgkofipifjfjhaaGreatDoor.Q
set_option linter.unusedSimpArgs false
set_option linter.unusedVariables false
open Go.ChangeShapes Go.WideShapes Go.ChangeAt Go.RowKit

theorem cells_TokenS : Tryz.prog.cellsOf 23 = 2 := by kernel_rfl
theorem cells_Tree : Tryz.prog.cellsOf 26 = 4 := by kernel_rfl
section
variable {H : Type} {enc : TypeId × Value → H} {W W' : World}
/-- One tree's cells. -/
def TreeCells (W : World) (cs : List Value) : Prop := ∃ (l : Bool) (tk : M.Tok) (ks : List M.T) (v : Value), cs = [.bool l, .int .i64 tk.1, str tk.2, v] ∧ Kids W ks v
theorem kids_open {f : Nat} (ih : ∀ f' cs x, f' < f → DataW.trod enc Tryz.prog W 0 (fun _ => true) true f' 26 cs = some x → TreeCells W cs) {cs : List Value} {x : DataW H × List MemPlace}
 (h : DataW.trod enc Tryz.prog W 0 (fun _ => true) true f 24 cs = some x) : ∃ v ks, cs = [v] ∧ Kids W ks v := by
 rcases DataW.trod_slice Tryz.underlying24 h with ⟨rfl, _⟩ | ⟨a, len, cap, elems, rest, n, rfl, rfl, _, _, hl, hmx, hel, hx, _⟩
 ·exact ⟨_, [], rfl, Kids.nil W⟩
 ·rw [cells_Tree] at hx
  have key : ∀ i, i < len → ∃ t : M.T, a.block < W.heap.size ∧ InAt W t (a.add (i * 4)) := by
   intro i hi
   have he := hx i hi
   rw [List.getElem?_eq_getElem (by omega)] at he
   obtain ⟨cs', h1, h2⟩ := Option.bind_eq_some_iff.1 he
   obtain ⟨_, hlen, hc⟩ := World.cells?_some h1
   obtain ⟨l, tk, ks, v, rfl, hk⟩ := ih n cs' _ (by omega) h2
   have k0 := hc 0 (by omega)
   have k1 := hc 1 (by omega)
   have k2 := hc 2 (by omega)
   have k3 := hc 3 (by omega)
   have hbl := World.block_lt_of_cell? W _ k1
   rw [addr_block, addr_block] at hbl
   rw [Addr.add_zero'] at k0
   exact ⟨.mk l tk ks, hbl, inAt_mk.2 ⟨v, ⟨k0, k1, k2, k3⟩, hk⟩⟩
  haveI : Inhabited M.T := ⟨.mk false (0, []) []⟩
  obtain ⟨g, hg⟩ := Go.Deep.choose_lt (α := M.T) (p := fun i t => a.block < W.heap.size ∧ InAt W t (a.add (i * 4))) key
  refine ⟨_, (List.range len).map g, rfl, Kids.mk_ ⟨some a, _, _, rfl, by simp, hl, hmx, fun hne => ?_⟩⟩
  have hpos : 0 < len := by
   rcases Nat.eq_zero_or_pos len with h0 | h0
   ·subst h0; simp at hne
   ·exact h0
  refine ⟨a, rfl, (hg 0 hpos).1, fun k t hk => ?_⟩
  rw [List.getElem?_map] at hk
  obtain ⟨k', hk1, hk2⟩ := Option.map_eq_some_iff.1 hk
  obtain ⟨hk3, hk4⟩ := List.getElem?_eq_some_iff.1 hk1
  simp at hk3 hk4
  subst hk4 hk2
  exact (hg k hk3).2
set_option maxRecDepth 4000 in
theorem tree_cells : ∀ (f : Nat) (cs : List Value) (x : DataW H × List MemPlace), DataW.trod enc Tryz.prog W 0 (fun _ => true) true f 26 cs = some x → TreeCells W cs := by
 intro f
 induction f using Nat.strongRecOn with
 | _ f ih =>
  intro cs x h
  obtain ⟨xs, n, rfl, _, hlen, hxl, hf⟩ := DataW.trod_struct Tryz.underlying26 h
  rw [cells_Tree] at hlen
  match xs, hxl with
  | [y0, y1, y2], _ =>
  match cs, hlen with
  | [v0, v1, v2, v3], _ =>
   have h0 : DataW.trod enc Tryz.prog W 0 (fun _ => true) true n 4 (([v0, v1, v2, v3].drop 0).take (Tryz.prog.cellsOf 4)) = some y0 := hf 0 _ rfl
   have h1 : DataW.trod enc Tryz.prog W 0 (fun _ => true) true n 23 (([v0, v1, v2, v3].drop 1).take (Tryz.prog.cellsOf 23)) = some y1 := hf 1 _ rfl
   have h2 : DataW.trod enc Tryz.prog W 0 (fun _ => true) true n 24 (([v0, v1, v2, v3].drop 3).take (Tryz.prog.cellsOf 24)) = some y2 := hf 2 _ rfl
   have c0 : Tryz.prog.cellsOf 4 = 1 := by kernel_rfl
   have c2 : Tryz.prog.cellsOf 24 = 1 := by kernel_rfl
   simp only [List.drop_zero, c0, List.take_succ_cons, List.take_zero] at h0
   simp only [List.drop_succ_cons, List.drop_zero, cells_TokenS, List.take_succ_cons, List.take_zero] at h1
   simp only [List.drop_succ_cons, List.drop_zero, c2, List.take_succ_cons, List.take_zero] at h2
   obtain ⟨b, hb, _⟩ := DataW.trod_bool Tryz.underlying4 h0
   injection hb with hb
   subst hb
   obtain ⟨y0', y1', n', _, _, h10, h11⟩ := trod_struct2 Tryz.underlying23 h1
   have d0 : Tryz.prog.cellsOf 3 = 1 := by kernel_rfl
   have d1 : Tryz.prog.cellsOf 9 = 1 := by kernel_rfl
   simp only [List.drop_zero, d0, List.take_succ_cons, List.take_zero] at h10
   simp only [List.drop_succ_cons, List.drop_zero, d1, List.take_succ_cons, List.take_zero] at h11
   obtain ⟨k, hk', _⟩ := DataW.trod_int Tryz.underlying3 h10
   injection hk' with hk'
   subst hk'
   obtain ⟨s, hs', _⟩ := DataW.trod_string Tryz.underlying9 h11
   injection hs' with hs'
   subst hs'
   obtain ⟨v, ks, hv, hks⟩ := kids_open (fun f' cs x hlt hh => ih f' (by omega) cs x hh) h2
   injection hv with hv
   subst hv
   exact ⟨b, (k, s.data.toList), ks, _, rfl, hks⟩
set_option maxRecDepth 100000 in
theorem open_Tree {r : Reach} {b0 : Nat} {v : Value} {d : DataW H} {ps : List MemPlace} (hval : Value.okWide Tryz.prog W r b0 26 v) (h : DataW.Trod enc Tryz.prog W 0 (fun _ => true) true 26 v d ps) :
 ∃ t, IsT W t v := by
 obtain ⟨cs, rfl, hsz⟩ := okWide_struct Tryz.underlying26 hval
 obtain ⟨fuel, hf⟩ := h
 have hf' : DataW.trod enc Tryz.prog W 0 (fun _ => true) true fuel 26 cs.toList = some (d, ps) := hf
 obtain ⟨l, tk, ks, v, hcs, hk⟩ := tree_cells _ _ _ hf'
 obtain ⟨A, c, rfl⟩ := hk.shape
 refine ⟨.mk l tk ks, A, c, ?_, hk⟩
 rw [show cs = #[.bool l, .int .i64 tk.1, str tk.2, .slice A ks.length c] from Array.toList_inj.1 hcs]
 rfl
end
end Go.Proofs.YtgkofipifjfjhaaGreatDoor.Q
