/-
  A list of integers that a call makes and writes into.
-/
import Derived.Test.YtklmnmkmpkobhaaGreatLFaceV
namespace Go.Proofs.YtklmnmkmpkobhaaGreat
open Go.RowKit
set_option linter.unusedSimpArgs false
set_option linter.unusedVariables false
/-- n integers 0, in cells. -/
def zerosJ (n : Nat) : Array Value := madeCells #[.bool false, .slice none 0 0] (n * 2)
theorem zerosJ_size (n : Nat) : (zerosJ n).size = n * 2 := by unfold zerosJ madeCells; simp
theorem zerosJ_get (n k : Nat) (h : k < n) : (zerosJ n)[k * 2]? = some (.bool false) ∧ (zerosJ n)[k * 2 + 1]? = some (.slice none 0 0) := by
 unfold zerosJ madeCells
 constructor
 ·simp [Array.getElem?_map, Array.getElem?_range]
  omega
 ·simp [Array.getElem?_map, Array.getElem?_range]
  omega
theorem noLimb_zerosJ' (n : Nat) : noLimb (zerosJ n) = true := by
 unfold noLimb
 rw [List.all_eq_true]
 intro v hv
 unfold zerosJ madeCells at hv
 simp at hv
 obtain ⟨i, _, rfl⟩ := hv
 rcases (show i % 2 = 0 ∨ i % 2 = 1 by omega) with e | e <;> rw [e] <;> rfl
theorem make_J (n : Nat) (hn : n ≤ 1000000) (w : World) :
 (Instr.makeSlice 28 (.int .i64 (n : Int)) (.int .i64 (n : Int))).run Tryz.prog w = .ok (.slice (some ⟨w.heap.size, 0, none⟩) n n) (w.alloc (.cells (zerosJ n) 25)) := by
 obtain ⟨i0, hi, hz0, hz1, hz2⟩ := info_parts info_IntJ
 have := run_make (P := Tryz.prog) w 28 25 i0 _ Tryz.underlying28 hi hz0 .i64 .i64 (n : Int) (n : Int) (by omega) (by omega) (by rw [hz2]; omega) (by omega)
 rw [this, hz1, Int.toNat_natCast]
 rfl
theorem JOwn.made {w : World} {g n : Nat} (hb : Box w g (zerosJ n) 25) (hn : n ≤ 1000000) : JOwn g w (.slice (some ⟨g, 0, none⟩) n n) (List.replicate n (false, [])) := by
 refine .inr ⟨g, n, zerosJ n, by rw [List.length_replicate], Nat.le_refl _, hb, by rw [List.length_replicate]; exact Nat.le_refl _, by unfold maxLen; omega, zerosJ_size n, noLimb_zerosJ' n, fun k x hk => ?_⟩
 obtain ⟨hk', rfl⟩ := List.getElem?_eq_some_iff.1 hk
 rw [List.length_replicate] at hk'
 rw [List.getElem_replicate]
 exact ⟨none, 0, 0, (zerosJ_get n k hk').1, (zerosJ_get n k hk').2, Num.nil _ _⟩
theorem Box.setTwo {w : World} {g i : Nat} {cur : Array Value} {t : TypeId} (h : Box w g cur t) (x y : Value) : Box ((w.setCell ⟨g, i, none⟩ x).setCell ⟨g, i + 1, none⟩ y) g ((cur.setIfInBounds i x).setIfInBounds (i + 1) y) t := by
 unfold Box at *
 simp [World.setCell, Array.getElem?_modify, h]
/-- The element at place i written. -/
theorem JOwn.setJ {base : Nat} {w : World} {g n c i : Nat} {ls : List (Bool × List Nat)} (h : JOwn base w (.slice (some ⟨g, 0, none⟩) n c) ls) (hi : i < n) {b : Bool} {A : Option Addr} {m d : Nat} {l : List Nat} (hn : Num w w.heap.size (.slice A m d) l) :
 ∃ b0 A0 n0 c0, w.cell? ⟨g, i * 2, none⟩ = some (.bool b0) ∧ w.cell? ⟨g, i * 2 + 1, none⟩ = some (.slice A0 n0 c0) ∧ w.frozen? ⟨g, i * 2, none⟩ = false ∧ w.frozen? ⟨g, i * 2 + 1, none⟩ = false ∧
  Kept [g] w ((w.setCell ⟨g, i * 2, none⟩ (.bool b)).setCell ⟨g, i * 2 + 1, none⟩ (.slice A m d)) ∧ Keeps w ((w.setCell ⟨g, i * 2, none⟩ (.bool b)).setCell ⟨g, i * 2 + 1, none⟩ (.slice A m d)) ∧
  JOwn base ((w.setCell ⟨g, i * 2, none⟩ (.bool b)).setCell ⟨g, i * 2 + 1, none⟩ (.slice A m d)) (.slice (some ⟨g, 0, none⟩) n c) (ls.set i (b, l)) := by
 rcases h with ⟨e, _⟩ | ⟨g', cap, cur, e, hb, hbox, hc, hm, hs, hno, hz⟩
 ·cases e
 injection e with e1 e2 e3
 injection e1 with e1
 injection e1 with e1
 subst e1 e2 e3
 obtain ⟨x, hx⟩ : ∃ x, ls[i]? = some x := ⟨_, List.getElem?_eq_getElem hi⟩
 obtain ⟨A0, n0, c0, h0, h1, h2⟩ := hz i x hx
 have hk : Kept [g] w ((w.setCell ⟨g, i * 2, none⟩ (.bool b)).setCell ⟨g, i * 2 + 1, none⟩ (.slice A m d)) := (kept_setAt (w := w) (g := g) (o := i * 2) _).trans (kept_setAt (o := i * 2 + 1) _)
 have hs' := keeps_store hbox hno hk
 refine ⟨_, A0, n0, c0, hbox.cell h0, hbox.cell h1, hbox.free _, hbox.free _, hk, hs', .inr ⟨g, c, _, by rw [List.length_set], hb, hbox.setTwo _ _, by rw [List.length_set]; exact hc, hm, by simp [hs], ?_, fun k y hk' => ?_⟩⟩
 ·unfold noLimb at *
  rw [List.all_eq_true] at *
  intro v hv
  obtain ⟨j, hj⟩ := Array.getElem?_of_mem (Array.mem_toList_iff.1 hv)
  rw [Array.getElem?_setIfInBounds, Array.getElem?_setIfInBounds] at hj
  split at hj
  ·split at hj
   ·injection hj with hj; subst hj; rfl
   ·cases hj
  ·split at hj
   ·split at hj
    ·injection hj with hj; subst hj; rfl
    ·cases hj
   ·exact hno _ (Array.mem_toList_iff.2 (Array.mem_of_getElem? hj))
 ·have hlen : ls.length * 2 ≤ cur.size := by rw [hs]; omega
  have hkl : k < ls.length := by have := (List.getElem?_eq_some_iff.1 hk').1; rwa [List.length_set] at this
  by_cases e : i = k
  ·subst e
   rw [List.getElem?_set_self (by omega)] at hk'
   injection hk' with hk'
   subst hk'
   refine ⟨A, m, d, ?_, ?_, hs' _ _ hn⟩
   ·rw [Array.getElem?_setIfInBounds, if_neg (by omega), Array.getElem?_setIfInBounds, if_pos rfl, if_pos (by omega)]
   ·rw [Array.getElem?_setIfInBounds, if_pos rfl, if_pos (by rw [Array.size_setIfInBounds]; omega)]
  ·rw [List.getElem?_set_ne e] at hk'
   obtain ⟨A1, n1, c1, j0, j1, j2⟩ := hz k y hk'
   refine ⟨A1, n1, c1, ?_, ?_, hs' _ _ j2⟩
   ·rw [Array.getElem?_setIfInBounds, if_neg (by omega), Array.getElem?_setIfInBounds, if_neg (by omega)]; exact j0
   ·rw [Array.getElem?_setIfInBounds, if_neg (by omega), Array.getElem?_setIfInBounds, if_neg (by omega)]; exact j1
theorem LTm.keptN {w w' : World} {v : Value} {t : M.Tm} {W g : Nat} (h : LTm w v t W) (hk : Kept [g] w w') (hs : Keeps w w') (hg : w.heap.size ≤ g) : LTm w' v t W := by
 refine ⟨?_, h.2⟩
 obtain ⟨A, n, c, h1, h2, h3, h4, h5⟩ := h.1
 refine ⟨A, n, c, h1, h2, h3, h4, fun k x hx => ?_⟩
 obtain ⟨ad, ha, hlt, B, p, q, k1, k2, k3, k4⟩ := h5 k x hx
 have hkeep : ∀ a : Addr, a.block = ad.block → w'.cell? a = w.cell? a := fun a e => World.cell?_of_block (by rw [e]; exact hk.2 ad.block hlt (by simp; omega))
 exact ⟨ad, ha, Nat.lt_of_lt_of_le hlt hk.1.size, B, p, q, by rw [hkeep _ (addr_block _ _)]; exact k1, by rw [hkeep _ (by rw [addr_block, addr_block])]; exact k2, by rw [hkeep _ (by rw [addr_block, addr_block])]; exact k3, hs _ _ k4⟩
namespace M
/-- x's integers, then zeros. -/
def fillY (x : List (Bool × List Nat)) (i n : Nat) : List (Bool × List Nat) := x.take i ++ List.replicate (n - i) (false, [])
theorem fillY_zero (x : List (Bool × List Nat)) (n : Nat) : fillY x 0 n = List.replicate n (false, []) := by unfold fillY; simp
theorem fillY_set {x : List (Bool × List Nat)} {i n : Nat} {y : Bool × List Nat} (hy : x[i]? = some y) (hn : i < n) : (fillY x i n).set i y = fillY x (i + 1) n := by
 have hi := (List.getElem?_eq_some_iff.1 hy).1
 unfold fillY
 rw [List.set_append_right _ _ (by rw [List.length_take]; omega), show i - (x.take i).length = 0 by rw [List.length_take]; omega, show n - i = (n - (i + 1)) + 1 by omega, List.replicate_succ, List.set_cons_zero, List.take_add_one, hy, Option.toList_some, List.append_assoc]
 rfl
theorem valAt_fill (x : List (Bool × List Nat)) {n : Nat} (hn : x.length ≤ n) (v : Int) : valAt (fillY x x.length n) v = valAt x v := by
 unfold valAt fillY
 rw [List.take_length]
 rcases Nat.lt_or_ge v.toNat x.length with h | h
 ·rw [List.getElem?_append_left h]
 ·rw [List.getElem?_append_right h, List.getElem?_eq_none h]
  rcases Nat.lt_or_ge (v.toNat - x.length) (n - x.length) with h2 | h2
  ·rw [List.getElem?_replicate, if_pos h2]; rfl
  ·rw [List.getElem?_replicate, if_neg (by omega)]
theorem valAt_set {y : List (Bool × List Nat)} {k : Nat} (hk : k < y.length) (z : Bool × List Nat) (v : Int) (hv : 0 ≤ v) : valAt (y.set k z) v = if v = (k : Int) then zv z.1 z.2 else valAt y v := by
 unfold valAt
 by_cases e : v = (k : Int)
 ·subst e
  rw [if_pos rfl, Int.toNat_natCast, List.getElem?_set_self hk]
 ·rw [if_neg e, List.getElem?_set_ne (by omega)]
theorem atT_upd {f f' : Int → Int} {k q : Int} {lo : Int} {t : Tm} (ot : okT lo t) (hlo : -1 ≤ lo) (h : ∀ v, 0 ≤ v → f' v = if v = k then q else f v) : atT f' t = atT f t - coef t k * f k + coef t k * q := by
 induction t generalizing lo with
 | nil => rw [atT_nil, atT_nil, show coef [] k = 0 from rfl, Int.zero_mul, Int.zero_mul]; rfl
 | cons x r ih =>
  obtain ⟨v, c⟩ := x
  have h1 := ot.1
  rw [atT_cons, atT_cons, ih ot.2.2 (by omega), coef_cons, h v (by omega)]
  by_cases e : v = k
  ·subst e
   rw [if_pos rfl, if_pos rfl, coef_low ot.2.2 (Int.le_refl _), Int.zero_mul, Int.zero_mul]; omega
  ·rw [if_neg e, if_neg e]; omega
theorem fillY_len {x : List (Bool × List Nat)} {i n : Nat} (hi : i ≤ x.length) (hn : i ≤ n) : (fillY x i n).length = n := by
 unfold fillY
 rw [List.length_append, List.length_take, List.length_replicate]; omega
end M
end Go.Proofs.YtklmnmkmpkobhaaGreat
