/-
  What each law's proof of layer 11 shares: an argument that is a list of Sigs, opened.
-/
import Derived.Test.YtgkofipifjfjhaaGreatDoorJSL
import Derived.Test.YtgkofipifjfjhaaGreatDoorJKL
namespace Go.Proofs.YtgkofipifjfjhaaGreatDoor.Q
open Go.ChangeShapes Go.WideShapes Go.ChangeAt Go.RowKit
set_option linter.unusedSimpArgs false
set_option linter.unusedVariables false

theorem cells_intS : Tryz.prog.cellsOf 3 = 1 := by kernel_rfl
theorem cells_Sig3 : Tryz.prog.cellsOf 61 = 3 := by kernel_rfl
section
variable {H : Type} {enc : TypeId × Value → H} {W W' : World}
/-- One Sig's cells. -/
def SigCells (W : World) (cs : List Value) : Prop := ∃ (nm : List UInt8) (ag : List Int) (rt : Int) (A : Option Addr) (c : Nat), cs = [str nm, .slice A ag.length c, .int .i64 rt] ∧ Ints W ag (.slice A ag.length c)
set_option maxRecDepth 100000 in
theorem sig_cells {f : Nat} {cs : List Value} {x : DataW H × List MemPlace} (h : DataW.trod enc Tryz.prog W 0 (fun _ => true) true f 61 cs = some x) : SigCells W cs := by
 obtain ⟨xs, n, rfl, _, hlen, hxl, hfx⟩ := DataW.trod_struct Tryz.underlying61 h
 have c3 : Tryz.prog.cellsOf 61 = 3 := by kernel_rfl
 rw [c3] at hlen
 match xs, hxl with
 | [y0, y1, y2], _ =>
 match cs, hlen with
 | [v0, v1, v2], _ =>
  have h0 : DataW.trod enc Tryz.prog W 0 (fun _ => true) true n 9 (([v0, v1, v2].drop 0).take (Tryz.prog.cellsOf 9)) = some y0 := hfx 0 _ rfl
  have h1 : DataW.trod enc Tryz.prog W 0 (fun _ => true) true n 59 (([v0, v1, v2].drop 1).take (Tryz.prog.cellsOf 59)) = some y1 := hfx 1 _ rfl
  have h2 : DataW.trod enc Tryz.prog W 0 (fun _ => true) true n 3 (([v0, v1, v2].drop 2).take (Tryz.prog.cellsOf 3)) = some y2 := hfx 2 _ rfl
  have d1 : Tryz.prog.cellsOf 9 = 1 := by kernel_rfl
  have d2 : Tryz.prog.cellsOf 59 = 1 := by kernel_rfl
  simp only [List.drop_zero, d1, List.take_succ_cons, List.take_zero] at h0
  simp only [List.drop_succ_cons, List.drop_zero, d2, List.take_succ_cons, List.take_zero] at h1
  simp only [List.drop_succ_cons, List.drop_zero, cells_intS, List.take_succ_cons, List.take_zero] at h2
  obtain ⟨s, hs', _, hmx⟩ := DataW.trod_string Tryz.underlying9 h0
  injection hs' with hs'
  subst hs'
  obtain ⟨rt, hrt, _⟩ := DataW.trod_int Tryz.underlying3 h2
  injection hrt with hrt
  subst hrt
  have hnl : s.data.toList.length ≤ 9223372036854775807 := by
   have e : s.data.toList.length = s.size := by rw [Array.length_toList]; rfl
   unfold maxLen at hmx
   omega
  rcases open_ints Tryz.underlying59 Tryz.underlying3 cells_intS h1 with ⟨hcs, _⟩ | ⟨a, len, cap, zs, hcs, _, hl, hm, hz, _, hcell, hwz⟩
  ·injection hcs with hcs
   subst hcs
   exact ⟨s.data.toList, [], rt, none, 0, rfl, none, 0, 0, rfl, rfl, Nat.le_refl _, Nat.zero_le _, fun h => absurd rfl h⟩
  ·injection hcs with hcs
   subst hcs
   simp only [if_true] at hz
   have hzl : (zs.take len).length = len := by rw [List.length_take]; omega
   refine ⟨s.data.toList, zs.take len, rt, some a, cap, by rw [hzl], ?_⟩
   show Ints W (zs.take len) (.slice (some a) (zs.take len).length cap)
   rw [hzl]
   refine ⟨_, _, _, rfl, hzl.symm, hl, hm, fun hne => ⟨a, rfl, ?_, ?_⟩⟩
   ·have h0 : 0 < zs.length := by
     rcases zs with _ | ⟨z, zs⟩
     ·simp at hne
     ·simp
    have := World.block_lt_of_cell? W _ (hcell 0 h0)
    rwa [addr_block] at this
   ·intro i x hx
    rw [List.getElem?_take] at hx
    split at hx
    ·obtain ⟨hi, he⟩ := List.getElem?_eq_some_iff.1 hx
     rw [hcell i hi]
     have : zs.getD i 0 = x := by simp [List.getD, hi, he]
     rw [this]
    ·cases hx
set_option maxRecDepth 100000 in
theorem open_Sigs {r : Reach} {b0 : Nat} {v : Value} {d : DataW H} {ps : List MemPlace} (hval : Value.okWide Tryz.prog W r b0 27 v) (h : DataW.Trod enc Tryz.prog W 0 (fun _ => true) true 27 v d ps) :
 ∃ l A n c, v = .slice A n c ∧ Sgs W l (.slice A n c) := by
 obtain ⟨a0, len0, cap0, rfl⟩ := okWide_slice Tryz.underlying27 hval
 obtain ⟨fuel, hf⟩ := h
 have hf' : DataW.trod enc Tryz.prog W 0 (fun _ => true) true fuel 27 [.slice a0 len0 cap0] = some (d, ps) := hf
 rcases DataW.trod_slice Tryz.underlying27 hf' with ⟨hv, _⟩ | ⟨a, len, cap, elems, rest, n, rfl, hv, _, _, hl, hmx, hel, hx, _⟩
 ·injection hv with hv
  rw [hv]
  exact ⟨[], none, 0, 0, rfl, Sgs.nil W⟩
 ·injection hv with hv
  rw [hv]
  rw [cells_Sig3] at hx
  have key : ∀ i, i < len → ∃ t : M.Sg, a.block < W.heap.size ∧ SgAt W t (a.add (i * 3)) := by
   intro i hi
   have he := hx i hi
   rw [List.getElem?_eq_getElem (by omega)] at he
   obtain ⟨cs', h1, h2⟩ := Option.bind_eq_some_iff.1 he
   obtain ⟨_, hlen, hc⟩ := World.cells?_some h1
   obtain ⟨nm, ag, rt, A, c, rfl, hi⟩ := sig_cells h2
   have k0 := hc 0 (by omega)
   have k1 := hc 1 (by omega)
   have k2 := hc 2 (by omega)
   have hbl := World.block_lt_of_cell? W _ k1
   rw [addr_block, addr_block] at hbl
   rw [Addr.add_zero'] at k0
   exact ⟨⟨nm, ag, rt⟩, hbl, A, ag.length, c, ⟨k0, k1, k2⟩, hi⟩
  haveI : Inhabited M.Sg := ⟨⟨[], [], 0⟩⟩
  obtain ⟨g, hg⟩ := Go.Deep.choose_lt (α := M.Sg) (p := fun i t => a.block < W.heap.size ∧ SgAt W t (a.add (i * 3))) key
  refine ⟨(List.range len).map g, some a, len, cap, rfl, some a, len, cap, rfl, by simp, hl, hmx, fun hne => ?_⟩
  have hpos : 0 < len := by
   rcases Nat.eq_zero_or_pos len with h0 | h0
   ·subst h0; simp at hne
   ·exact h0
  refine ⟨a, rfl, (hg 0 hpos).1, fun k t hk => ?_⟩
  rw [List.getElem?_map] at hk
  obtain ⟨k', hk1, hk2⟩ := Option.map_eq_some_iff.1 hk
  obtain ⟨hk3, hk4⟩ := List.getElem?_eq_some_iff.1 hk1
  simp at hk3 hk4
  subst hk4 hk2
  exact (hg k hk3).2
end
end Go.Proofs.YtgkofipifjfjhaaGreatDoor.Q
