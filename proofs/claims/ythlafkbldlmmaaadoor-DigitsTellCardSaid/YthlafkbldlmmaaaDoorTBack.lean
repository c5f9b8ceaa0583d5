/-
  Contract of slices.Backward over a row of limbs: the iterator, for every body that keeps the row and the box of the slice.
-/
import Derived.RangeFuncNested
import Derived.RangeFuncBound
import Derived.RangeFuncCalls
import Derived.RangeFuncLeaves
import Derived.RangeFuncBox
import Derived.Shelf.Abstract
import Derived.Shelf.RegionOpen
import Derived.WalkKit
import Derived.OwnWalkIn
import Derived.TacticsInMore
import Derived.LoopNIn
import Derived.LoopIn
import Derived.Test.YthlafkbldlmmaaaDoorFace
namespace Go.Proofs.YthlafkbldlmmaaaDoor
set_option linter.unusedSimpArgs false
set_option linter.unusedVariables false
open Go.RowKit Go.Shelf
attribute [local go_sem] Oper.semAt_some

/-- A number of 32 bits. -/
abbrev U32 := { x : Nat // x < 4294967296 }
/-- What a round keeps: all below n₀, and the block Bs. -/
def BackK (Bs n₀ : Nat) (W W' : World) : Prop := Below n₀ W W' ∧ W'.heap[Bs]? = W.heap[Bs]?
theorem BackK.refl (Bs n₀ : Nat) (W : World) : BackK Bs n₀ W W := ⟨Below.refl _ _, rfl⟩
theorem BackK.trans {Bs n₀ : Nat} {A B C : World} (h : BackK Bs n₀ A B) (k : BackK Bs n₀ B C) : BackK Bs n₀ A C := ⟨h.1.trans k.1, k.2.trans h.2⟩
theorem backK_b {Bs n₀ : Nat} {w : World} (hn : n₀ ≤ w.heap.size) (hB : Bs < w.heap.size) (W : World) (l : Nat) (o o' : Obj) (hl : w.heap.size ≤ l) (h : W.heap[l]? = some o) (h1 : o.isCells = false) (h2 : o.isWalk = false) : BackK Bs n₀ W (W.putObj l o') :=
  ⟨belowK_b hn W l o o' hl h h1 h2, World.putObj_heap_other (by omega)⟩
theorem BackK.cell {Bs n₀ o : Nat} {W W' : World} (h : BackK Bs n₀ W W') : W'.cell? ⟨Bs, o, none⟩ = W.cell? ⟨Bs, o, none⟩ := World.cell?_of_block h.2
theorem seen_step {zs : List Nat} {k x : Nat} (h : zs[k]? = some x) {pre : List (Nat × U32)} (hp : pre.map (fun y => y.2.1) = (zs.drop (k + 1)).reverse) (hx : x < 4294967296) :
    (pre ++ [(k, (⟨x, hx⟩ : U32))]).map (fun y => y.2.1) = (zs.drop k).reverse := by
  rw [M.drop_at h, List.reverse_cons, List.map_append, hp]; rfl

set_option maxRecDepth 100000 in
set_option maxHeartbeats 2000000 in
theorem back1_in (F : Fence) (n : Nat) (hf : F.fn 52) (hro : F.round = none) (hn : 1 ≤ n) (l Bs n₀ : Nat) (A : Option Addr) (len c : Nat) (zs : List Nat) (hlen : len = zs.length) (hle : len ≤ 1000000000)
    (hsm : Hid (∀ x ∈ zs, x < 4294967296)) (J Jx : List (Nat × U32) → World → Prop)
    (hY : ∀ pre x W, J pre W → pre.length < len → YieldAt F (n - 1) Tryd.prog l #[.int .i64 (x.1 : Int), .int .u32 (x.2.1 : Int)] W fun e W' =>
      (e = .returned (.bool true) ∧ J (pre ++ [x]) W' ∧ BackK Bs n₀ W W') ∨ (e = .returned (.bool false) ∧ Jx (pre ++ [x]) W'))
    (W : World) (hBs : W.cell? ⟨Bs, 0, none⟩ = some (.slice A len c)) (hrow : Row W n₀ A zs) (h0 : J [] W) :
    CallsIn F n Tryd.prog 52 #[.func (.yield l) #[] #[], .pointer (some ⟨Bs, 0, none⟩)] W fun e W' => (∃ v, e = .returned v) ∧
      ((∃ ys : List (Nat × U32), ys.map (fun y => y.2.1) = zs.reverse ∧ J ys W') ∨ (∃ pre, True ∧ Jx pre W')) := by
  have HLEN := hid hlen
  clear hlen
  refine callsIn_of_wp Tryd.func52 rfl hf ?_ hro
  simp only [Tryd.ntmps52, List.size_toArray, List.length_cons, List.length_nil, Nat.reduceAdd, Nat.reduceSub, Array.replicate_succ, Array.replicate_zero, List.push_toArray, List.append_toArray, List.nil_append, List.cons_append]
  gi_wp2
  gi_loopw [3] (fun i wr => ∃ (k : Nat) (z : Int) (pre : List (Nat × U32)), k ≤ len ∧ z = (k : Int) - 1 ∧ i = .int .i64 z ∧ J pre wr ∧ pre.map (fun y => y.2.1) = (zs.drop k).reverse ∧ BackK Bs n₀ W wr)
    (fun i _ => (intOf i + 1).toNat)
  case atStart => exact ⟨len, _, [], Nat.le_refl _, rfl, rfl, h0, by rw [HLEN.out, List.drop_length]; rfl, BackK.refl _ _ _⟩
  case round =>
    obtain ⟨k, z, pre, hk, hz, rfl, hJs, hpre, hnx⟩ := hrel
    have hcb := hnx.cell.trans hBs
    rcases k with _ | k
    · obtain rfl : z = -1 := by omega
      clear hz
      gi_wp2
      go_end0
      exact ⟨⟨_, rfl⟩, .inl ⟨pre, by rw [hpre, List.drop_zero], hJs⟩⟩
    · obtain rfl : z = (k : Int) := by omega
      clear hz
      have hlt : k < zs.length := by have := HLEN.out; omega
      obtain ⟨ad, x, rfl, _, HX, hcell⟩ := (hrow.keep hnx.1 (Nat.le_refl _)).get (k := k) hlt
      have hx := hsm.out x (List.mem_of_getElem? HX.out)
      have hpl : pre.length < len := by
        have := congrArg List.length hpre
        have h2 := HLEN.out
        simp at this; omega
      obtain ⟨fn, tmps, assign, body, hy, hR⟩ := hY pre (k, ⟨x, hx⟩) wr hJs hpl
      dsimp only at hy
      have hk0 : (0 : Int) ≤ (k : Int) := by omega
      have hk1 : (k : Int) < (len : Int) := by omega
      gi_wp2
      refine hR.mono ?_
      rintro e W3 (⟨rfl, hJ3, hk3⟩ | ⟨rfl, hJx3⟩)
      · gi_wp2
        go_roundw
        case rel => exact ⟨k, _, _, by omega, rfl, by go_num, hJ3, seen_step HX.out hpre hx, hnx.trans hk3⟩
        case measure => simp [intOf]; all_goals omega
      · gi_wp2
        refine bodyPost_ret (results_none rfl _ _ _) rfl ?_
        exact ⟨⟨_, rfl⟩, .inr ⟨_, trivial, hJx3⟩⟩

set_option maxHeartbeats 1000000 in
/-- slices.Backward(s): the slice is boxed. -/
theorem back_n (a : Option Addr) (len cap : Nat) (w : World) :
    Calls Tryd.prog 35 #[.slice a len cap] w fun e w' => e = .returned (.func (.func 52) #[] #[.pointer (some ⟨w.heap.size, 0, none⟩)]) ∧ w' = w.alloc (.cells #[.slice a len cap] 22) := by
  go_enter Tryd.func35, Tryd.ntmps35
  go_wp2
  go_ret
  exact ⟨rfl, rfl⟩

/-- The contract of what it hands back. -/
theorem back_stops (F : Fence) (n : Nat) (hf : F.fn 52) (hro : F.round = none) (hn : 1 ≤ n) (Bs n₀ : Nat) (A : Option Addr) (len c : Nat) (zs : List Nat) (hlen : len = zs.length) (hle : len ≤ 1000000000) (hsm : Hid (∀ x ∈ zs, x < 4294967296))
    (w : World) (hBs : Bs < w.heap.size) (hn₀ : n₀ ≤ w.heap.size) (hc : w.cell? ⟨Bs, 0, none⟩ = some (.slice A len c)) (hrow : Row w n₀ A zs) :
    SeqStopsK F n Tryd.prog 52 #[.pointer (some ⟨Bs, 0, none⟩)] (fun x : Nat × U32 => #[Value.int .i64 (x.1 : Int), Value.int .u32 (x.2.1 : Int)]) (BackK Bs n₀) (fun ys => ys.map (fun y => y.2.1) = zs.reverse) (fun _ => True) zs.length w := fun l J Jx W hW _ _ hY h0 => by
  have hc' := (hW.cell (p := ⟨Bs, 0, none⟩) hBs).trans hc
  have := back1_in F n hf hro hn l Bs n₀ A len c zs hlen hle hsm J Jx (by rw [hlen]; exact hY) W hc' (hrow.keep (hW.mono hn₀) (Nat.le_refl _)) h0
  exact this
end Go.Proofs.YthlafkbldlmmaaaDoor
