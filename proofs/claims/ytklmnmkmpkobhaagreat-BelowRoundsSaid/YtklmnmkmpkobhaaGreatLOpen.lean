/-
  Arguments that are forms, or rows of integers, opened; words for layer 6's laws.
-/
import Derived.Test.YtklmnmkmpkobhaaGreatLFaceE
import Derived.Test.YtklmnmkmpkobhaaGreatJG
namespace Go.Proofs.YtklmnmkmpkobhaaGreat
open Go.ChangeShapes Go.WideShapes Go.ChangeAt Go.RowKit
set_option linter.unusedSimpArgs false
set_option linter.unusedVariables false
theorem cells_Mono : Tryz.prog.cellsOf 56 = 3 := by kernel_rfl
theorem cells_Lin : Tryz.prog.cellsOf 27 = 3 := by kernel_rfl
section
variable {H : Type} {enc : TypeId × Value → H} {W W' : World}
set_option maxRecDepth 100000 in
/-- A row of terms that is an argument's. -/
theorem open_LL {fuel : Nat} {v : Value} {d : DataW H} {ps : List MemPlace} (hf : DataW.trod enc Tryz.prog W 0 (fun _ => true) true fuel 22 [v] = some (d, ps)) :
 ∃ A n c ls, v = .slice A n c ∧ LList W (.slice A n c) ls := by
 rcases Go.Deep.open_slice Tryz.underlying22 hf with ⟨hcs, _⟩ | ⟨a, len, cap, m, n, D, Pl, hcs, _, hl, hmx, hm, _, hx⟩
 ·injection hcs with hcs
  subst hcs
  exact ⟨none, 0, 0, [], rfl, LList.nil _ _ (Nat.zero_le _) _⟩
 ·injection hcs with hcs
  subst hcs
  simp only [if_true] at hm
  subst hm
  rw [cells_Mono] at hx
  have key : ∀ i, i < len → ∃ (x : Int × Bool × List Nat), a.block < W.heap.size ∧ LAt W a i x := by
   intro i hi
   obtain ⟨cs', h1, h2⟩ := hx i (by omega)
   obtain ⟨_, hlen, hc⟩ := World.cells?_some h1
   obtain ⟨y0, y1, n', _, _, h0, h1'⟩ := trod_struct2 Tryz.underlying56 h2
   match cs', hlen with
   | [v0, v1, v2], _ =>
    have cI : Tryz.prog.cellsOf 3 = 1 := by kernel_rfl
    have c0 : Tryz.prog.cellsOf 4 = 1 := by kernel_rfl
    have c1 : Tryz.prog.cellsOf 23 = 1 := by kernel_rfl
    simp only [List.drop_zero, cI, List.take_succ_cons, List.take_zero] at h0
    simp only [List.drop_succ_cons, List.drop_zero, cells_Int, List.take_succ_cons, List.take_zero] at h1'
    obtain ⟨z0, z1, n'', _, _, k0, k1⟩ := trod_struct2 Tryz.underlying25 h1'
    simp only [List.drop_zero, c0, List.take_succ_cons, List.take_zero] at k0
    simp only [List.drop_succ_cons, List.drop_zero, c1, List.take_succ_cons, List.take_zero] at k1
    obtain ⟨x, hx', _⟩ := DataW.trod_int Tryz.underlying3 h0
    injection hx' with hx'
    subst hx'
    obtain ⟨b, hb, _⟩ := DataW.trod_bool Tryz.underlying4 k0
    injection hb with hb
    subst hb
    obtain ⟨A', n1, c1', l, rfl, hn⟩ := open_row k1
    have m0 := hc 0 (by omega)
    have m1 := hc 1 (by omega)
    have m2 := hc 2 (by omega)
    have hbl := World.block_lt_of_cell? W _ m1
    rw [addr_block, addr_block] at hbl
    exact ⟨(x, b, l), hbl, A', n1, c1', m0, m1, m2, hn⟩
  obtain ⟨f, hfx⟩ := Go.Deep.choose_lt (α := Int × Bool × List Nat) (p := fun i x => a.block < W.heap.size ∧ LAt W a i x) key
  refine ⟨some a, _, _, (List.range len).map f, rfl, some a, _, _, rfl, by simp, hl, hmx, fun k x hk => ?_⟩
  rw [List.getElem?_map] at hk
  obtain ⟨k', hk1, hk2⟩ := Option.map_eq_some_iff.1 hk
  obtain ⟨hk3, hk4⟩ := List.getElem?_eq_some_iff.1 hk1
  simp at hk3 hk4
  subst hk4 hk2
  exact ⟨a, rfl, (hfx k hk3).1, (hfx k hk3).2⟩
set_option maxRecDepth 100000 in
/-- An argument that is a form, or what is none. -/
theorem open_L {r : Reach} {b0 : Nat} {v : Value} {d : DataW H} {ps : List MemPlace} (hval : Value.okWide Tryz.prog W r b0 27 v) (h : DataW.Trod enc Tryz.prog W 0 (fun _ => true) true 27 v d ps) :
 ∃ A n c ls g B m q l, v = .agg #[.slice A n c, .bool g, .slice B m q] ∧ LList W (.slice A n c) ls ∧ Num W W.heap.size (.slice B m q) l := by
 obtain ⟨cs, rfl, hsz⟩ := okWide_struct Tryz.underlying27 hval
 obtain ⟨v0, v1, v2, rfl⟩ := Go.Joins.array3 (hsz.trans cells_Lin)
 obtain ⟨fuel, hf⟩ := h
 obtain ⟨y0, y1, n, _, _, h0, h1⟩ := trod_struct2 Tryz.underlying27 hf
 have cS : Tryz.prog.cellsOf 22 = 1 := by kernel_rfl
 have c0 : Tryz.prog.cellsOf 4 = 1 := by kernel_rfl
 have c1 : Tryz.prog.cellsOf 23 = 1 := by kernel_rfl
 simp only [Value.cells, List.drop_zero, cS, List.take_succ_cons, List.take_zero] at h0
 simp only [Value.cells, List.drop_succ_cons, List.drop_zero, cells_Int, List.take_succ_cons, List.take_zero] at h1
 obtain ⟨z0, z1, n', _, _, k0, k1⟩ := trod_struct2 Tryz.underlying25 h1
 simp only [List.drop_zero, c0, List.take_succ_cons, List.take_zero] at k0
 simp only [List.drop_succ_cons, List.drop_zero, c1, List.take_succ_cons, List.take_zero] at k1
 obtain ⟨A, n1, c1', ls, rfl, hL⟩ := open_LL h0
 obtain ⟨b, hb, _⟩ := DataW.trod_bool Tryz.underlying4 k0
 injection hb with hb
 subst hb
 obtain ⟨B, m1, q1, l, rfl, hn⟩ := open_row k1
 exact ⟨A, n1, c1', ls, b, B, m1, q1, l, rfl, hL, hn⟩
set_option maxRecDepth 100000 in
theorem open_ZL {r : Reach} {b0 : Nat} {v : Value} {d : DataW H} {ps : List MemPlace} (hval : Value.okWide Tryz.prog W r b0 28 v) (h : DataW.Trod enc Tryz.prog W 0 (fun _ => true) true 28 v d ps) :
 ∃ A n c ls, v = .slice A n c ∧ ZList W (.slice A n c) ls := by
 obtain ⟨a0, len, cap, rfl⟩ := okWide_slice Tryz.underlying28 hval
 obtain ⟨fuel, hf⟩ := h
 have hf' : DataW.trod enc Tryz.prog W 0 (fun _ => true) true fuel 28 [.slice a0 len cap] = some (d, ps) := hf
 rcases Go.Deep.open_slice Tryz.underlying28 hf' with ⟨hcs, _⟩ | ⟨a, len', cap', m, n, D, Pl, hcs, _, hl, hmx, hm, _, hx⟩
 ·injection hcs with hcs
  injection hcs with e1 e2 e3
  subst e1 e2 e3
  exact ⟨none, 0, 0, [], rfl, ZList.nil _ _ (Nat.zero_le _) _⟩
 ·injection hcs with hcs
  injection hcs with e1 e2 e3
  subst e1 e2 e3
  simp only [if_true] at hm
  subst hm
  rw [cells_Int] at hx
  have key : ∀ i, i < len → ∃ (x : Bool × List Nat), a.block < W.heap.size ∧ ZAt W a i x := by
   intro i hi
   obtain ⟨cs', h1, h2⟩ := hx i (by omega)
   obtain ⟨_, hlen, hc⟩ := World.cells?_some h1
   obtain ⟨y0, y1, n', _, _, h0, h1'⟩ := trod_struct2 Tryz.underlying25 h2
   match cs', hlen with
   | [v0, v1], _ =>
    have c0 : Tryz.prog.cellsOf 4 = 1 := by kernel_rfl
    have c1 : Tryz.prog.cellsOf 23 = 1 := by kernel_rfl
    simp only [List.drop_zero, c0, List.take_succ_cons, List.take_zero] at h0
    simp only [List.drop_succ_cons, List.drop_zero, c1, List.take_succ_cons, List.take_zero] at h1'
    obtain ⟨b, hb, _⟩ := DataW.trod_bool Tryz.underlying4 h0
    injection hb with hb
    subst hb
    obtain ⟨A', n1, c1', l, rfl, hn⟩ := open_row h1'
    have k0 := hc 0 (by omega)
    have k1 := hc 1 (by omega)
    have hbl := World.block_lt_of_cell? W _ k1
    rw [addr_block, addr_block] at hbl
    exact ⟨(b, l), hbl, A', n1, c1', k0, k1, hn⟩
  obtain ⟨f, hfx⟩ := Go.Deep.choose_lt (α := Bool × List Nat) (p := fun i x => a.block < W.heap.size ∧ ZAt W a i x) key
  refine ⟨some a, _, _, (List.range len).map f, rfl, some a, _, _, rfl, by simp, hl, hmx, fun k x hk => ?_⟩
  rw [List.getElem?_map] at hk
  obtain ⟨k', hk1, hk2⟩ := Option.map_eq_some_iff.1 hk
  obtain ⟨hk3, hk4⟩ := List.getElem?_eq_some_iff.1 hk1
  simp at hk3 hk4
  subst hk4 hk2
  exact ⟨a, rfl, (hfx k hk3).1, (hfx k hk3).2⟩
end
namespace M
def fewL (ls : List (Int × Bool × List Nat)) (l : List Nat) : Bool := ls.all (fun x => decide (x.2.2.length ≤ 4) && decide (x.1 ≤ 100)) && (decide (ls.length ≤ 8) && decide (l.length ≤ 4))
def fewP (xs : List (Bool × List Nat)) : Bool := xs.all (fun x => decide (x.2.length ≤ 4)) && decide (xs.length ≤ 12)
theorem fewL_parts {ls : List (Int × Bool × List Nat)} {l : List Nat} (h : fewL ls l = true) : (∀ x ∈ ls, x.2.2.length ≤ 4) ∧ ls.length ≤ 8 ∧ l.length ≤ 4 := by
 unfold fewL at h
 simp only [Bool.and_eq_true, List.all_eq_true, decide_eq_true_eq] at h
 exact ⟨fun x hx => (h.1 x hx).1, h.2.1, h.2.2⟩
theorem fewP_parts {xs : List (Bool × List Nat)} (h : fewP xs = true) : (∀ x ∈ xs, x.2.length ≤ 4) ∧ xs.length ≤ 12 := by
 unfold fewP at h
 simp only [Bool.and_eq_true, List.all_eq_true, decide_eq_true_eq] at h
 exact h
theorem fewL_no {ls : List (Int × Bool × List Nat)} {l : List Nat} {x : Int × Bool × List Nat} (hx : x ∈ ls) (h : (decide (x.2.2.length ≤ 4) && decide (x.1 ≤ 100)) = false) : fewL ls l = false := by
 unfold fewL
 rw [Bool.and_eq_false_iff]
 exact .inl (List.all_eq_false.2 ⟨x, hx, by rw [h]; decide⟩)
theorem fewP_no {xs : List (Bool × List Nat)} {x : Bool × List Nat} (hx : x ∈ xs) (h : decide (x.2.length ≤ 4) = false) : fewP xs = false := by
 unfold fewP
 rw [Bool.and_eq_false_iff]
 exact .inl (List.all_eq_false.2 ⟨x, hx, by rw [h]; decide⟩)
theorem ft_len (ls : List (Int × Bool × List Nat)) (g : Bool) (l : List Nat) : (ft ls g l).length ≤ ls.length := by
 unfold ft tv
 split
 ·rw [List.length_map]; exact Nat.le_refl _
 ·exact Nat.zero_le _
end M
theorem worthL_of {w : World} {g : Bool} {A B : Option Addr} {n c m d W : Nat} {ls : List (Int × Bool × List Nat)} {l : List Nat} (h1 : LList w (.slice A n c) ls) (h2 : Num w w.heap.size (.slice B m d) l) (h3 : ∀ x ∈ ls, x.2.2.length ≤ W) (h4 : l.length ≤ W) {t : M.Tm} {κ : Int} (ht : t = M.ft ls g l) (hk : κ = M.fk ls g l) : WorthL w (.agg #[.slice A n c, .bool g, .slice B m d]) t κ W :=
 ⟨A, n, c, ls, g, B, m, d, l, rfl, h1, h2, h3, h4, ht.symm, hk.symm⟩
theorem WorthL.wide {w : World} {v : Value} {t : M.Tm} {κ : Int} {W U : Nat} (h : WorthL w v t κ W) (hU : W ≤ U) : WorthL w v t κ U := by
 obtain ⟨A, n, c, ls, g, B, m, d, l, h1, h2, h3, h4, h5, h6⟩ := h
 exact ⟨A, n, c, ls, g, B, m, d, l, h1, h2, h3, fun x hx => Nat.le_trans (h4 x hx) hU, Nat.le_trans h5 hU, h6⟩
theorem IsL.shape {w : World} {v : Value} {t : M.Tm} {κ : Int} {W : Nat} (h : IsL w v t κ W) : ∃ A n c g B m d, v = .agg #[.slice A n c, .bool g, .slice B m d] := by
 obtain ⟨A, n, c, g, B, m, d, e, _⟩ := h
 exact ⟨A, n, c, g, B, m, d, e⟩
theorem IsL.kb {w w' : World} {v : Value} {t : M.Tm} {κ : Int} {W g : Nat} {cs : Array Value} {T : TypeId} (h : IsL w v t κ W) (hb : Box w g cs T) (hni : noInt cs = true) (hk : Kept [g] w w') (hs : Keeps w w') : IsL w' v t κ W := by
 obtain ⟨A, n, c, g', B, m, d, e, h1, h2, h3⟩ := h
 exact ⟨A, n, c, g', B, m, d, e, h1.kb hb hni hk hs, h2.kz hs, h3⟩
theorem IsL.is_yes {w : World} {v : Value} {t : M.Tm} {κ : Int} {W : Nat} (h : IsL w v t κ W) : Calls Tryz.prog 14 #[v] w (GivesB w true) := by
 obtain ⟨A, n, c, g, B, m, d, rfl, h2, h3, h4⟩ := h
 obtain ⟨g', A', n', c', e, hg, hm⟩ := h3.form
 simp at e
 obtain ⟨rfl, rfl, rfl, rfl⟩ := e
 subst hg
 exact isL_any h2.1 hm.1 (by unfold M.isL; rw [(M.isT_of h4).1, M.isZ_of]; rfl)
theorem varL_l {w : World} {v : Int} : Calls Tryz.prog 19 #[.int .i64 v] w (GivesL w [(max v 0, 1)] 0 1) := by
 by_cases h : 0 ≤ v
 ·rw [show max v 0 = v by omega]; exact varL_pos h
 ·rw [show max v 0 = 0 by omega]; exact varL_neg (by omega)
theorem rVarL_l {w : World} {v : Int} : Calls Tryz.prog 20 #[.int .i64 v] w (GivesL w [(max v 0, 1)] 0 1) := by
 by_cases h : 0 ≤ v
 ·rw [show max v 0 = v by omega]; exact rVarL_pos h
 ·rw [show max v 0 = 0 by omega]; exact rVarL_neg (by omega)
theorem Num.cnt {w : World} {C : Nat} {A : Option Addr} {n c : Nat} {l : List Nat} (hm : Num w C (.slice A n c) l) : n = l.length ∧ n ≤ 9223372036854775807 := by
 obtain ⟨_, _, _, e, h, h1, h2, _⟩ := hm
 injection e with _ e2 e3
 unfold maxLen at h2
 exact ⟨by omega, by omega⟩
theorem IsL.to {w : World} {v : Value} {t s : M.Tm} {κ μ : Int} {W : Nat} (h : IsL w v t κ W) (ht : t = s) (hk : κ = μ) : IsL w v s μ W := ht ▸ hk ▸ h
end Go.Proofs.YtklmnmkmpkobhaaGreat
