/-
  What each law's proof of layer 10 shares: an argument that is a term, a list of terms, a name's Sig, opened.
-/
import Derived.Test.YtkhmgdfhggejaaaGreatDoorWJKC
import Derived.Test.YtkhmgdfhggejaaaGreatDoorWJZF
import Derived.ProofKit
import Derived.OpenShut
import Derived.Carry
import Derived.ChangeMaps5
namespace Go.Proofs.YtkhmgdfhggejaaaGreatDoor.Q
set_option linter.unusedSimpArgs false
set_option linter.unusedVariables false
open Go.ChangeShapes Go.WideShapes Go.ChangeAt Go.RowKit
theorem cells_Term : Tryz.prog.cellsOf 27 = 6 := by kernel_rfl
theorem cells_int1 : Tryz.prog.cellsOf 3 = 1 := by kernel_rfl
section
variable {H : Type} {enc : TypeId × Value → H} {W W' : World}
def TermCells (W : World) (cs : List Value) : Prop := ∃ (op : Int) (g : Bool) (N : Option Addr) (nn nc : Nat) (ls : List Nat) (nm : List UInt8) (so : Int) (ks : List M.Tm) (v : Value), cs = [.int .i64 op, .bool g, .slice N nn nc, str nm, .int .i64 so, v] ∧ LNum W (.slice N nn nc) ls ∧ Tms W ks v
theorem terms_open {f : Nat} (ih : ∀ f' cs x, f' < f → DataW.trod enc Tryz.prog W 0 (fun _ => true) true f' 27 cs = some x → TermCells W cs) {cs : List Value} {x : DataW H × List MemPlace}
 (h : DataW.trod enc Tryz.prog W 0 (fun _ => true) true f 25 cs = some x) : ∃ v ks, cs = [v] ∧ Tms W ks v := by
 rcases DataW.trod_slice Tryz.underlying25 h with ⟨rfl, _⟩ | ⟨a, len, cap, elems, rest, n, rfl, rfl, _, _, hl, hmx, hel, hx, _⟩
 ·exact ⟨_, [], rfl, Tms.nil W⟩
 ·rw [cells_Term] at hx
  have key : ∀ i, i < len → ∃ t : M.Tm, a.block < W.heap.size ∧ TmAt W t (a.add (i * 6)) := by
   intro i hi
   have he := hx i hi
   rw [List.getElem?_eq_getElem (by omega)] at he
   obtain ⟨cs', h1, h2⟩ := Option.bind_eq_some_iff.1 he
   obtain ⟨_, hlen, hc⟩ := World.cells?_some h1
   obtain ⟨op, g, N, nn, nc, ls, nm, so, ks, v, rfl, hn, hk⟩ := ih n cs' _ (by omega) h2
   have k0 := hc 0 (by omega)
   have k1 := hc 1 (by omega)
   have k2 := hc 2 (by omega)
   have k3 := hc 3 (by omega)
   have k4 := hc 4 (by omega)
   have k5 := hc 5 (by omega)
   have hbl := World.block_lt_of_cell? W _ k1
   rw [addr_block, addr_block] at hbl
   rw [Addr.add_zero'] at k0
   exact ⟨.mk op g ls nm so ks, hbl, tmAt_mk.2 ⟨N, nn, nc, v, ⟨⟨k0, k1, k2⟩, k3, k4, k5⟩, hn, hk⟩⟩
  haveI : Inhabited M.Tm := ⟨M.K0⟩
  obtain ⟨g, hg⟩ := Go.Deep.choose_lt (α := M.Tm) (p := fun i t => a.block < W.heap.size ∧ TmAt W t (a.add (i * 6))) key
  refine ⟨_, (List.range len).map g, rfl, Tms.mk_ ⟨some a, _, _, rfl, by simp, hl, hmx, fun hne => ?_⟩⟩
  have hpos : 0 < len := by
   rcases Nat.eq_zero_or_pos len with h0 | h0
   ·subst h0; simp at hne
   ·exact h0
  refine ⟨a, rfl, (hg 0 hpos).1, fun k t hk => ?_⟩
  rw [List.getElem?_map] at hk
  obtain ⟨k', hk1, hk2⟩ := Option.map_eq_some_iff.1 hk
  obtain ⟨hk3, hk4⟩ := List.getElem?_eq_some_iff.1 hk1
  simp at hk3 hk4
  subst hk4 hk2
  exact (hg k hk3).2
set_option maxRecDepth 4000 in
theorem term_cells : ∀ (f : Nat) (cs : List Value) (x : DataW H × List MemPlace), DataW.trod enc Tryz.prog W 0 (fun _ => true) true f 27 cs = some x → TermCells W cs := by
 intro f
 induction f using Nat.strongRecOn with
 | _ f ih =>
  intro cs x h
  obtain ⟨xs, n, rfl, _, hlen, hxl, hf⟩ := DataW.trod_struct Tryz.underlying27 h
  rw [cells_Term] at hlen
  match xs, hxl with
  | [y0, y1, y2, y3, y4], _ =>
  match cs, hlen with
  | [v0, v1, v2, v3, v4, v5], _ =>
   have h0 : DataW.trod enc Tryz.prog W 0 (fun _ => true) true n 3 (([v0, v1, v2, v3, v4, v5].drop 0).take (Tryz.prog.cellsOf 3)) = some y0 := hf 0 _ rfl
   have h1 : DataW.trod enc Tryz.prog W 0 (fun _ => true) true n 24 (([v0, v1, v2, v3, v4, v5].drop 1).take (Tryz.prog.cellsOf 24)) = some y1 := hf 1 _ rfl
   have h2 : DataW.trod enc Tryz.prog W 0 (fun _ => true) true n 9 (([v0, v1, v2, v3, v4, v5].drop 3).take (Tryz.prog.cellsOf 9)) = some y2 := hf 2 _ rfl
   have h3 : DataW.trod enc Tryz.prog W 0 (fun _ => true) true n 3 (([v0, v1, v2, v3, v4, v5].drop 4).take (Tryz.prog.cellsOf 3)) = some y3 := hf 3 _ rfl
   have h4 : DataW.trod enc Tryz.prog W 0 (fun _ => true) true n 25 (([v0, v1, v2, v3, v4, v5].drop 5).take (Tryz.prog.cellsOf 25)) = some y4 := hf 4 _ rfl
   have c2 : Tryz.prog.cellsOf 25 = 1 := by kernel_rfl
   have d1 : Tryz.prog.cellsOf 9 = 1 := by kernel_rfl
   simp only [List.drop_zero, cells_int1, List.take_succ_cons, List.take_zero] at h0
   simp only [List.drop_succ_cons, List.drop_zero, cells_Int, List.take_succ_cons, List.take_zero] at h1
   simp only [List.drop_succ_cons, List.drop_zero, d1, List.take_succ_cons, List.take_zero] at h2
   simp only [List.drop_succ_cons, List.drop_zero, cells_int1, List.take_succ_cons, List.take_zero] at h3
   simp only [List.drop_succ_cons, List.drop_zero, c2, List.take_succ_cons, List.take_zero] at h4
   obtain ⟨op, hop, _⟩ := DataW.trod_int Tryz.underlying3 h0
   injection hop with hop
   subst hop
   obtain ⟨z0, z1, n', _, _, h10, h11⟩ := trod_struct2 Tryz.underlying24 h1
   have d2 : Tryz.prog.cellsOf 4 = 1 := by kernel_rfl
   have d3 : Tryz.prog.cellsOf 22 = 1 := by kernel_rfl
   simp only [List.drop_zero, d2, List.take_succ_cons, List.take_zero] at h10
   simp only [List.drop_succ_cons, List.drop_zero, d3, List.take_succ_cons, List.take_zero] at h11
   obtain ⟨g, hg, _⟩ := DataW.trod_bool Tryz.underlying4 h10
   injection hg with hg
   subst hg
   obtain ⟨N, nn, nc, ls, rfl, hn⟩ := open_row h11
   obtain ⟨s, hs', _⟩ := DataW.trod_string Tryz.underlying9 h2
   injection hs' with hs'
   subst hs'
   obtain ⟨so, hso, _⟩ := DataW.trod_int Tryz.underlying3 h3
   injection hso with hso
   subst hso
   obtain ⟨v, ks, hv, hks⟩ := terms_open (fun f' cs x hlt hh => ih f' (by omega) cs x hh) h4
   injection hv with hv
   subst hv
   exact ⟨op, g, N, nn, nc, ls, s.data.toList, so, ks, _, rfl, hn, hks⟩
set_option maxRecDepth 100000 in
theorem open_Term {r : Reach} {b0 : Nat} {v : Value} {d : DataW H} {ps : List MemPlace} (hval : Value.okWide Tryz.prog W r b0 27 v) (h : DataW.Trod enc Tryz.prog W 0 (fun _ => true) true 27 v d ps) :
 ∃ t, IsTm W t v := by
 obtain ⟨cs, rfl, hsz⟩ := okWide_struct Tryz.underlying27 hval
 obtain ⟨fuel, hf⟩ := h
 have hf' : DataW.trod enc Tryz.prog W 0 (fun _ => true) true fuel 27 cs.toList = some (d, ps) := hf
 obtain ⟨op, g, N, nn, nc, ls, nm, so, ks, v, hcs, hn, hk⟩ := term_cells _ _ _ hf'
 obtain ⟨A, c, rfl⟩ := hk.shape
 refine ⟨.mk op g ls nm so ks, N, nn, nc, A, c, ?_, hn, hk⟩
 rw [show cs = #[.int .i64 op, .bool g, .slice N nn nc, str nm, .int .i64 so, .slice A ks.length c] from Array.toList_inj.1 hcs]
 rfl
end
end Go.Proofs.YtkhmgdfhggejaaaGreatDoor.Q
