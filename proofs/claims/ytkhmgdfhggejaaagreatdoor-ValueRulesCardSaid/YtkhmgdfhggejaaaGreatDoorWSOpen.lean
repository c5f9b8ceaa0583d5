/-
  What each law's proof of layer 11 shares: an argument that is a list of Sigs, opened.
-/
import Derived.Test.YtkhmgdfhggejaaaGreatDoorWJSL
import Derived.Test.YtkhmgdfhggejaaaGreatDoorWJKL
namespace Go.Proofs.YtkhmgdfhggejaaaGreatDoor.Q
open Go.ChangeShapes Go.WideShapes Go.ChangeAt Go.RowKit
set_option linter.unusedSimpArgs false
set_option linter.unusedVariables false
theorem cells_intS : Tryz.prog.cellsOf 3 = 1 := by kernel_rfl
theorem cells_Sig3 : Tryz.prog.cellsOf 52 = 3 := by kernel_rfl
section
variable {H : Type} {enc : TypeId × Value → H} {W W' : World}
def SigCells (W : World) (cs : List Value) : Prop := ∃ (nm : List UInt8) (ag : List Int) (rt : Int) (A : Option Addr) (c : Nat), cs = [str nm, .slice A ag.length c, .int .i64 rt] ∧ Ints W ag (.slice A ag.length c)
set_option maxRecDepth 100000 in
theorem sig_cells {f : Nat} {cs : List Value} {x : DataW H × List MemPlace} (h : DataW.trod enc Tryz.prog W 0 (fun _ => true) true f 52 cs = some x) : SigCells W cs := by
 obtain ⟨xs, n, rfl, _, hlen, hxl, hfx⟩ := DataW.trod_struct Tryz.underlying52 h
 have c3 : Tryz.prog.cellsOf 52 = 3 := by kernel_rfl
 rw [c3] at hlen
 match xs, hxl with
 | [y0, y1, y2], _ =>
 match cs, hlen with
 | [v0, v1, v2], _ =>
  have h0 : DataW.trod enc Tryz.prog W 0 (fun _ => true) true n 9 (([v0, v1, v2].drop 0).take (Tryz.prog.cellsOf 9)) = some y0 := hfx 0 _ rfl
  have h1 : DataW.trod enc Tryz.prog W 0 (fun _ => true) true n 50 (([v0, v1, v2].drop 1).take (Tryz.prog.cellsOf 50)) = some y1 := hfx 1 _ rfl
  have h2 : DataW.trod enc Tryz.prog W 0 (fun _ => true) true n 3 (([v0, v1, v2].drop 2).take (Tryz.prog.cellsOf 3)) = some y2 := hfx 2 _ rfl
  have d1 : Tryz.prog.cellsOf 9 = 1 := by kernel_rfl
  have d2 : Tryz.prog.cellsOf 50 = 1 := by kernel_rfl
  simp only [List.drop_zero, d1, List.take_succ_cons, List.take_zero] at h0
  simp only [List.drop_succ_cons, List.drop_zero, d2, List.take_succ_cons, List.take_zero] at h1
  simp only [List.drop_succ_cons, List.drop_zero, cells_intS, List.take_succ_cons, List.take_zero] at h2
  obtain ⟨s, hs', _, hmx⟩ := DataW.trod_string Tryz.underlying9 h0
  injection hs' with hs'
  subst hs'
  obtain ⟨rt, hrt, _⟩ := DataW.trod_int Tryz.underlying3 h2
  injection hrt with hrt
  subst hrt
  have hnl : s.data.toList.length ≤ 9223372036854775807 := by
   have e : s.data.toList.length = s.size := by rw [Array.length_toList]; rfl
   unfold maxLen at hmx
   omega
  rcases open_ints Tryz.underlying50 Tryz.underlying3 cells_intS h1 with ⟨hcs, _⟩ | ⟨a, len, cap, zs, hcs, _, hl, hm, hz, _, hcell, hwz⟩
  ·injection hcs with hcs
   subst hcs
   exact ⟨s.data.toList, [], rt, none, 0, rfl, none, 0, 0, rfl, rfl, Nat.le_refl _, Nat.zero_le _, fun h => absurd rfl h⟩
  ·injection hcs with hcs
   subst hcs
   simp only [if_true] at hz
   have hzl : (zs.take len).length = len := by rw [List.length_take]; omega
   refine ⟨s.data.toList, zs.take len, rt, some a, cap, by rw [hzl], ?_⟩
   show Ints W (zs.take len) (.slice (some a) (zs.take len).length cap)
   rw [hzl]
   refine ⟨_, _, _, rfl, hzl.symm, hl, hm, fun hne => ⟨a, rfl, ?_, ?_⟩⟩
   ·have h0 : 0 < zs.length := by
     rcases zs with _ | ⟨z, zs⟩
     ·simp at hne
     ·simp
    have := World.block_lt_of_cell? W _ (hcell 0 h0)
    rwa [addr_block] at this
   ·intro i x hx
    rw [List.getElem?_take] at hx
    split at hx
    ·obtain ⟨hi, he⟩ := List.getElem?_eq_some_iff.1 hx
     rw [hcell i hi]
     have : zs.getD i 0 = x := by simp [List.getD, hi, he]
     rw [this]
    ·cases hx
end
end Go.Proofs.YtkhmgdfhggejaaaGreatDoor.Q
