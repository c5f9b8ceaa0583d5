/-
  Layer 12's laws: an argument that is a list of bytes, opened.
-/
import Derived.Test.YtkhmgdfhggejaaaGreatDoorWVK
import Derived.Test.YtkhmgdfhggejaaaGreatDoorWJSL
import Derived.Test.YtkhmgdfhggejaaaGreatDoorCards
import Derived.Test.YtkhmgdfhggejaaaGreatDoorTie
import Derived.LaidMore
import Derived.Stop.Joined
import Derived.Stop.LaidErr
import Derived.SevenTiedAt
import Derived.Lib.LaidTab
namespace Go.Proofs.YtkhmgdfhggejaaaGreatDoor.Q
set_option linter.unusedSimpArgs false
set_option linter.unusedVariables false
open Go.ChangeShapes Go.WideShapes Go.ChangeAt Go.RowKit
section
variable {H : Type} {enc : TypeId × Value → H} {W W' : World}
end
def laid1 {H : Type} : List (String × DataW H) := [("mullion/term.rules", Rows.laid_mullion_term_rules)]
theorem gTab : Tryz.prog.globalNamed "mullion/term.rules" = some 1 := by kernel_rfl
theorem tTab : (Tryz.prog.globals[1]?).map (·.type) = some 157 := by kernel_rfl
theorem door_met (os : Os) (args : Array Value) : laidMetH Tryz.prog laid1 ((World.doorLaid Tryz.prog 400 os).forCall (fun _ _ => 0) ⟨#[], args, []⟩).memory :=
 laidMetH_of_parts3 (fuel := 8) (laidMet_of_run' 8 (by kernel_rfl) (by kernel_rfl)) (by kernel_rfl) (by kernel_rfl)
theorem cells_rule : Tryz.prog.cellsOf 156 = 5 := by kernel_rfl
theorem cells_i : Tryz.prog.cellsOf 3 = 1 := by kernel_rfl
def ruleRows : List (DataW Unit) := (List.range 23).map fun i => .agg ((List.range 5).map fun j => .lit (.int .i64 (M.rulesC.getD (i * 5 + j) 0)))
theorem laid_rows : (Rows.laid_mullion_term_rules : DataW Unit) = .agg ruleRows := by kernel_rfl
section
variable {enc : TypeId × Value → Unit} {W : World}
theorem int_of {f : Nat} {v : Value} {y : DataW Unit × List MemPlace} (h : DataW.trod enc Tryz.prog W 0 (fun _ => true) false f 3 [v] = some y) : ∃ z, v = .int .i64 z ∧ y.1 = .lit (.int .i64 z) := by
 obtain ⟨z, hz, hy, _⟩ := DataW.trod_int Tryz.underlying3 h
 injection hz with hz
 exact ⟨z, hz, by rw [hy]⟩
set_option maxRecDepth 4000 in
theorem rule_cells {f : Nat} {cs : List Value} {x : DataW Unit × List MemPlace} (h : DataW.trod enc Tryz.prog W 0 (fun _ => true) false f 156 cs = some x) :
 ∃ a b c d e, cs = [.int .i64 a, .int .i64 b, .int .i64 c, .int .i64 d, .int .i64 e] ∧ x.1 = .agg [.lit (.int .i64 a), .lit (.int .i64 b), .lit (.int .i64 c), .lit (.int .i64 d), .lit (.int .i64 e)] := by
 obtain ⟨xs, n, rfl, hx, hlen, hxl, hf⟩ := DataW.trod_struct Tryz.underlying156 h
 rw [cells_rule] at hlen
 match xs, hxl with
 | [y0, y1, y2, y3, y4], _ =>
 match cs, hlen with
 | [v0, v1, v2, v3, v4], _ =>
  have h0 : DataW.trod enc Tryz.prog W 0 (fun _ => true) false n 3 (([v0, v1, v2, v3, v4].drop 0).take (Tryz.prog.cellsOf 3)) = some y0 := hf 0 _ rfl
  have h1 : DataW.trod enc Tryz.prog W 0 (fun _ => true) false n 3 (([v0, v1, v2, v3, v4].drop 1).take (Tryz.prog.cellsOf 3)) = some y1 := hf 1 _ rfl
  have h2 : DataW.trod enc Tryz.prog W 0 (fun _ => true) false n 3 (([v0, v1, v2, v3, v4].drop 2).take (Tryz.prog.cellsOf 3)) = some y2 := hf 2 _ rfl
  have h3 : DataW.trod enc Tryz.prog W 0 (fun _ => true) false n 3 (([v0, v1, v2, v3, v4].drop 3).take (Tryz.prog.cellsOf 3)) = some y3 := hf 3 _ rfl
  have h4 : DataW.trod enc Tryz.prog W 0 (fun _ => true) false n 3 (([v0, v1, v2, v3, v4].drop 4).take (Tryz.prog.cellsOf 3)) = some y4 := hf 4 _ rfl
  rw [cells_i] at h0 h1 h2 h3 h4
  obtain ⟨a, rfl, ha⟩ := int_of (v := v0) h0
  obtain ⟨b, rfl, hb⟩ := int_of (v := v1) h1
  obtain ⟨c, rfl, hc⟩ := int_of (v := v2) h2
  obtain ⟨d, rfl, hd⟩ := int_of (v := v3) h3
  obtain ⟨e, rfl, he⟩ := int_of (v := v4) h4
  exact ⟨a, b, c, d, e, rfl, by rw [hx]; simp only [List.map_cons, List.map_nil, ha, hb, hc, hd, he]⟩
set_option maxRecDepth 4000 in
theorem rules_cells {f : Nat} {cs : List Value} {p : List MemPlace} (h : DataW.trod enc Tryz.prog W 0 (fun _ => true) false f 157 cs = some (Rows.laid_mullion_term_rules, p)) :
 ∀ (k : Nat) (x : Int), M.rulesC[k]? = some x → cs[k]? = some (Value.int .i64 x) := by
 obtain ⟨xs, n, rfl, hx, hlen, hxl, hf⟩ := DataW.trod_array Tryz.underlying157 h
 rw [laid_rows] at hx
 have hx1 : ruleRows = xs.map (·.1) := by
  have := congrArg Prod.fst hx
  injection this
 intro k x hk
 have hk115 : k < 115 := show k < M.rulesC.length from (List.getElem?_eq_some_iff.1 hk).1
 obtain ⟨i, j, rfl, hj⟩ : ∃ i j, k = i * 5 + j ∧ j < 5 := ⟨k / 5, k % 5, by omega, Nat.mod_lt _ (by omega)⟩
 have hi : i < 23 := by omega
 have h1 := hf i hi
 obtain ⟨y, hy⟩ : ∃ y, xs[i]? = some y := ⟨xs[i]'(by omega), List.getElem?_eq_getElem (by omega)⟩
 rw [hy, cells_rule] at h1
 obtain ⟨a, b, c, d, e, hcs, hyd⟩ := rule_cells h1
 have h2 : ruleRows[i]? = some y.1 := by rw [hx1, List.getElem?_map, hy]; rfl
 have h3 : ruleRows[i]? = some (.agg ((List.range 5).map fun j => .lit (.int .i64 (M.rulesC.getD (i * 5 + j) 0)))) := by
  unfold ruleRows
  rw [List.getElem?_map, List.getElem?_range hi]
  rfl
 rw [h2, hyd] at h3
 have h4 := Option.some.inj h3
 injection h4 with h5
 have h6 : cs[i * 5 + j]? = ([Value.int .i64 a, .int .i64 b, .int .i64 c, .int .i64 d, .int .i64 e] : List Value)[j]? := by
  rw [← hcs, List.getElem?_take, if_pos hj, List.getElem?_drop]
 have h7 : M.rulesC.getD (i * 5 + j) 0 = x := by rw [List.getD_eq_getElem?_getD, hk]; rfl
 rw [h6]
 simp only [show List.range 5 = [0, 1, 2, 3, 4] from rfl, List.map_cons, List.map_nil, List.cons.injEq, DataW.lit.injEq, Lit.int.injEq, true_and, and_true] at h5
 obtain ⟨e0, e1, e2, e3, e4⟩ := h5
 match j, hj with
 | 0, _ => rw [← h7, ← e0]; rfl
 | 1, _ => rw [← h7, ← e1]; rfl
 | 2, _ => rw [← h7, ← e2]; rfl
 | 3, _ => rw [← h7, ← e3]; rfl
 | 4, _ => rw [← h7, ← e4]; rfl
end
theorem tab_of_laid {W : World} (h : laidMetH Tryz.prog laid1 W) : Tab W := by
 rw [MakeChecks.laidMetH_plain _ _ _ (by kernel_rfl)] at h
 obtain ⟨ps, ⟨g', t', cs, fuel, p, q, hg', ht', hvar, hd, _, _⟩, _⟩ := h
 obtain rfl := Option.some.inj (gTab.symm.trans hg')
 obtain rfl := Option.some.inj (tTab.symm.trans ht')
 intro k x hk
 rw [World.var?_cell gTab hvar k, ← Array.getElem?_toList]
 exact rules_cells hd k x hk
end Go.Proofs.YtkhmgdfhggejaaaGreatDoor.Q
