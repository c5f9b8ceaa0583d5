/-
  An argument that is a tree, opened: it has no more nodes than its bulk.
-/
import Derived.Test.YtceplnfjlncekaaQTOpen
namespace Go.Proofs.Ytceplnfjlncekaa
set_option linter.unusedSimpArgs false
set_option linter.unusedVariables false
open Go.ChangeShapes Go.WideShapes Go.ChangeAt Go.RowKit

theorem M.cnts_bulk {H : Type} : ∀ {ts : List M.T} {ds : List (DataW H)}, (∀ (i : Nat) (t : M.T), ts[i]? = some t → ∃ d, ds[i]? = some d ∧ M.cnt t ≤ Rows.uptoBulk d) → M.cnts ts ≤ Rows.uptoBulkAll ds
  | [], ds, _ => by rw [M.cnts]; exact Nat.zero_le _
  | t :: r, [], h => by obtain ⟨d, hd, _⟩ := h 0 t rfl; simp at hd
  | t :: r, d :: q, h => by
    obtain ⟨d', hd, hb⟩ := h 0 t rfl
    simp at hd
    subst hd
    have := M.cnts_bulk (ts := r) (ds := q) fun i u hu => by
      have := h (i + 1) u (by simpa using hu)
      simpa using this
    rw [M.cnts]
    simp only [Rows.uptoBulkAll]
    omega
section
variable {H : Type} {enc : TypeId × Value → H} {W W' : World}
/-- One tree's cells. -/
def TreeCellsB (W : World) (cs : List Value) (d : DataW H) : Prop := ∃ (l : Bool) (tk : M.Tok) (ks : List M.T) (v : Value), cs = [.bool l, .int .i64 tk.1, str tk.2, v] ∧ Kids W ks v ∧ 1 + M.cnts ks ≤ Rows.uptoBulk d
theorem kids_openB {f : Nat} (ih : ∀ f' cs x, f' < f → DataW.trod enc Try.prog W 0 (fun _ => true) true f' 35 cs = some x → TreeCellsB W cs x.1) {cs : List Value} {x : DataW H × List MemPlace}
    (h : DataW.trod enc Try.prog W 0 (fun _ => true) true f 25 cs = some x) : ∃ v ks, cs = [v] ∧ Kids W ks v ∧ M.cnts ks ≤ Rows.uptoBulk x.1 := by
  rcases DataW.trod_slice Try.underlying25 h with ⟨rfl, hxe⟩ | ⟨a, len, cap, elems, rest, n, rfl, rfl, hxe, _, hl, hmx, hel, hx, _⟩
  · exact ⟨_, [], rfl, Kids.nil W, by rw [M.cnts]; exact Nat.zero_le _⟩
  · rw [cells_Tree] at hx
    have key : ∀ i, i < len → ∃ t : M.T, a.block < W.heap.size ∧ InAt W t (a.add (i * 4)) ∧ ∃ d, (elems.map (·.1))[i]? = some d ∧ M.cnt t ≤ Rows.uptoBulk d := by
      intro i hi
      have he := hx i hi
      rw [List.getElem?_eq_getElem (by omega)] at he
      obtain ⟨cs', h1, h2⟩ := Option.bind_eq_some_iff.1 he
      obtain ⟨_, hlen, hc⟩ := World.cells?_some h1
      obtain ⟨l, tk, ks, v, rfl, hk, hbk⟩ := ih n cs' _ (by omega) h2
      have k0 := hc 0 (by omega)
      have k1 := hc 1 (by omega)
      have k2 := hc 2 (by omega)
      have k3 := hc 3 (by omega)
      have hbl := World.block_lt_of_cell? W _ k1
      rw [addr_block, addr_block] at hbl
      rw [Addr.add_zero'] at k0
      exact ⟨.mk l tk ks, hbl, inAt_mk.2 ⟨v, ⟨k0, k1, k2, k3⟩, hk⟩, _, by rw [List.getElem?_map, List.getElem?_eq_getElem (show i < elems.length by omega)]; rfl, by rw [M.cnt]; exact hbk⟩
    haveI : Inhabited M.T := ⟨.mk false (0, []) []⟩
    obtain ⟨g, hg⟩ := Go.Deep.choose_lt (α := M.T) (p := fun i t => a.block < W.heap.size ∧ InAt W t (a.add (i * 4)) ∧ ∃ d, (elems.map (·.1))[i]? = some d ∧ M.cnt t ≤ Rows.uptoBulk d) key
    refine ⟨_, (List.range len).map g, rfl, Kids.mk_ ⟨some a, _, _, rfl, by simp, hl, hmx, fun hne => ?_⟩, ?_⟩
    rotate_left
    · have hb := M.cnts_bulk (ts := (List.range len).map g) (ds := elems.map (·.1)) fun i t hi => by
        rw [List.getElem?_map] at hi
        obtain ⟨k', hk1, hk2⟩ := Option.map_eq_some_iff.1 hi
        obtain ⟨hk3, hk4⟩ := List.getElem?_eq_some_iff.1 hk1
        simp at hk3 hk4
        subst hk4 hk2
        exact (hg i hk3).2.2
      rw [hxe]
      simp only [Rows.uptoBulk]
      omega
    have hpos : 0 < len := by
      rcases Nat.eq_zero_or_pos len with h0 | h0
      · subst h0; simp at hne
      · exact h0
    refine ⟨a, rfl, (hg 0 hpos).1, fun k t hk => ?_⟩
    rw [List.getElem?_map] at hk
    obtain ⟨k', hk1, hk2⟩ := Option.map_eq_some_iff.1 hk
    obtain ⟨hk3, hk4⟩ := List.getElem?_eq_some_iff.1 hk1
    simp at hk3 hk4
    subst hk4 hk2
    exact (hg k hk3).2.1
set_option maxRecDepth 4000 in
theorem tree_cellsB : ∀ (f : Nat) (cs : List Value) (x : DataW H × List MemPlace), DataW.trod enc Try.prog W 0 (fun _ => true) true f 35 cs = some x → TreeCellsB W cs x.1 := by
  intro f
  induction f using Nat.strongRecOn with
  | _ f ih =>
    intro cs x h
    obtain ⟨xs, n, rfl, hxe, hlen, hxl, hf⟩ := DataW.trod_struct Try.underlying35 h
    rw [cells_Tree] at hlen
    match xs, hxl with
    | [y0, y1, y2], _ =>
    match cs, hlen with
    | [v0, v1, v2, v3], _ =>
      have h0 : DataW.trod enc Try.prog W 0 (fun _ => true) true n 4 (([v0, v1, v2, v3].drop 0).take (Try.prog.cellsOf 4)) = some y0 := hf 0 _ rfl
      have h1 : DataW.trod enc Try.prog W 0 (fun _ => true) true n 33 (([v0, v1, v2, v3].drop 1).take (Try.prog.cellsOf 33)) = some y1 := hf 1 _ rfl
      have h2 : DataW.trod enc Try.prog W 0 (fun _ => true) true n 25 (([v0, v1, v2, v3].drop 3).take (Try.prog.cellsOf 25)) = some y2 := hf 2 _ rfl
      have c0 : Try.prog.cellsOf 4 = 1 := by kernel_rfl
      have c2 : Try.prog.cellsOf 25 = 1 := by kernel_rfl
      simp only [List.drop_zero, c0, List.take_succ_cons, List.take_zero] at h0
      simp only [List.drop_succ_cons, List.drop_zero, cells_Token, List.take_succ_cons, List.take_zero] at h1
      simp only [List.drop_succ_cons, List.drop_zero, c2, List.take_succ_cons, List.take_zero] at h2
      obtain ⟨b, hb, _⟩ := DataW.trod_bool Try.underlying4 h0
      injection hb with hb
      subst hb
      obtain ⟨y0', y1', n', _, _, h10, h11⟩ := trod_struct2 Try.underlying33 h1
      have d0 : Try.prog.cellsOf 3 = 1 := by kernel_rfl
      have d1 : Try.prog.cellsOf 9 = 1 := by kernel_rfl
      simp only [List.drop_zero, d0, List.take_succ_cons, List.take_zero] at h10
      simp only [List.drop_succ_cons, List.drop_zero, d1, List.take_succ_cons, List.take_zero] at h11
      obtain ⟨k, hk', _⟩ := DataW.trod_int Try.underlying3 h10
      injection hk' with hk'
      subst hk'
      obtain ⟨s, hs', _⟩ := DataW.trod_string Try.underlying9 h11
      injection hs' with hs'
      subst hs'
      obtain ⟨v, ks, hv, hks, hbk⟩ := kids_openB (fun f' cs x hlt hh => ih f' (by omega) cs x hh) h2
      injection hv with hv
      subst hv
      exact ⟨b, (k, s.data.toList), ks, _, rfl, hks, by rw [hxe]; simp only [List.map_cons, List.map_nil, Rows.uptoBulk, Rows.uptoBulkAll]; omega⟩
theorem open_TreeB {r : Reach} {b0 : Nat} {v : Value} {d : DataW H} {ps : List MemPlace} (hval : Value.okWide Try.prog W r b0 35 v) (h : DataW.Trod enc Try.prog W 0 (fun _ => true) true 35 v d ps) :
    ∃ t, IsT W t v ∧ M.cnt t ≤ Rows.uptoBulk d := by
  obtain ⟨cs, rfl, hsz⟩ := okWide_struct Try.underlying35 hval
  obtain ⟨fuel, hf⟩ := h
  have hf' : DataW.trod enc Try.prog W 0 (fun _ => true) true fuel 35 cs.toList = some (d, ps) := hf
  obtain ⟨l, tk, ks, v, hcs, hk, hbk⟩ := tree_cellsB _ _ _ hf'
  obtain ⟨A, c, rfl⟩ := hk.shape
  refine ⟨.mk l tk ks, ⟨A, c, ?_, hk⟩, by rw [M.cnt]; exact hbk⟩
  rw [show cs = #[.bool l, .int .i64 tk.1, str tk.2, .slice A ks.length c] from Array.toList_inj.1 hcs]
  rfl
end
end Go.Proofs.Ytceplnfjlncekaa
