/-
  WholeOrders: whatever three integers, or what is none: true, and the input reads as it did. No conditions.
-/
import Derived.Test.YtjmonmbgfihgmaaZKnown
import Derived.Test.YtjmonmbgfihgmaaZOrdA
import Derived.Test.YtjmonmbgfihgmaaZOrdB
import Derived.Test.YtjmonmbgfihgmaaZOrdC
import Derived.Test.YtjmonmbgfihgmaaZOrdD
namespace Go.Proofs.Ytjmonmbgfihgmaa
open Go.ChangeShapes Go.WideShapes Go.ChangeAt Go.RowKit
set_option linter.unusedSimpArgs false
set_option linter.unusedVariables false

theorem wholeOrders_walk (W : World) (ga : Bool) (Aa : Option Addr) (na ca : Nat) (la : List Nat) (ha : Num W W.heap.size (.slice Aa na ca) la) (gb : Bool) (Ab : Option Addr) (nb cb : Nat) (lb : List Nat) (hb : Num W W.heap.size (.slice Ab nb cb) lb) (gc : Bool) (Ac : Option Addr) (nc cc : Nat) (lc : List Nat) (hc : Num W W.heap.size (.slice Ac nc cc) lc) :
    Calls Try.prog 7 #[.agg #[.bool ga, .slice Aa na ca], .agg #[.bool gb, .slice Ab nb cb], .agg #[.bool gc, .slice Ac nc cc]] W (fun e w' => e = .returned (.bool true) ∧ Ext W w') := by
  rcases fa : (decide (la.length ≤ 8)) with _ | _
  · exact wholeOrders_skip0 W ga Aa na ca la ha gb Ab nb cb lb hb gc Ac nc cc lc hc fa
  rcases fb : (decide (lb.length ≤ 8)) with _ | _
  · exact wholeOrders_skip1 W ga Aa na ca la ha gb Ab nb cb lb hb gc Ac nc cc lc hc fa fb
  rcases fc : (decide (lc.length ≤ 8)) with _ | _
  · exact wholeOrders_skip2 W ga Aa na ca la ha gb Ab nb cb lb hb gc Ac nc cc lc hc fa fb fc
  rcases ia : (M.isZ ga la) with _ | _
  · exact wholeOrders_skip3 W ga Aa na ca la ha gb Ab nb cb lb hb gc Ac nc cc lc hc fa fb fc ia
  rcases ib : (M.isZ gb lb) with _ | _
  · exact wholeOrders_skip4 W ga Aa na ca la ha gb Ab nb cb lb hb gc Ac nc cc lc hc fa fb fc ia ib
  rcases ic : (M.isZ gc lc) with _ | _
  · exact wholeOrders_skip5 W ga Aa na ca la ha gb Ab nb cb lb hb gc Ac nc cc lc hc fa fb fc ia ib ic
  rcases (by omega : 0 ≤ M.zcmp (M.zv ga la) (M.zv gb lb) ∨ M.zcmp (M.zv ga la) (M.zv gb lb) < 0) with h1 | h1
  · exact wholeOrders_ge W ga Aa na ca la ha gb Ab nb cb lb hb gc Ac nc cc lc hc fa fb fc ia ib ic _ rfl _ rfl _ rfl h1
  · rcases (by omega : 0 ≤ M.zcmp (M.zv gb lb) (M.zv gc lc) ∨ M.zcmp (M.zv gb lb) (M.zv gc lc) < 0) with h2 | h2
    · exact wholeOrders_lg W ga Aa na ca la ha gb Ab nb cb lb hb gc Ac nc cc lc hc fa fb fc ia ib ic _ rfl _ rfl _ rfl ⟨h1, h2⟩
    · exact wholeOrders_ll W ga Aa na ca la ha gb Ab nb cb lb hb gc Ac nc cc lc hc fa fb fc ia ib ic _ rfl _ rfl _ rfl ⟨h1, h2⟩

set_option maxRecDepth 100000 in
theorem wholeOrders_lifted (os : Os) (started : os.Started) (H : Type) (enc : TypeId × Value → H) :
    ReturnsInHanded {} Try.checked os 7 .any (Rows.wholeOrdersSpec.pre6 enc Try.prog Try.f7 Rows.wholeOrdersRow.domain false) (Rows.wholeOrdersSpec.post enc Try.prog Try.f7 false true false false) := by
  refine returnsInHanded_of_change (C := Try.checked) own started (by kernel_rfl) Try.func7
    (ChangeSpec.witness6 (enc := enc) (C := Try.checked) false ⟨#[], #[.agg #[.bool false, .slice none 0 0], .agg #[.bool false, .slice none 0 0], .agg #[.bool false, .slice none 0 0]], []⟩ 8 (by kernel_rfl) (by kernel_rfl) (by kernel_rfl) (by kernel_rfl)) ?_
  intro W base args ds gs before hval0 hW _ _
  have hval : ∀ (j : Nat) t v, Try.f7.params[j]? = some t → args[j]? = some v → Value.okWide Try.prog W .any base t v := hval0
  have hW' := hW
  obtain ⟨p, q, hA0, hV, rfl, hfz, hnd⟩ := hW
  have hA : DataW.TrodAll enc Try.prog W 0 (fun _ => true) true Try.f7.params.toList args.toList ds p := hA0
  rw [Try.params7] at hA hval
  obtain ⟨v0, vs0, d0, ds0, p0, q0, hargs, rfl, rfl, h0, r0⟩ := trodAll_cons hA
  obtain ⟨v1, vs1, d1, ds1, p1, q1, rfl, rfl, rfl, h1, r1⟩ := trodAll_cons r0
  obtain ⟨v2, vs2, d2, ds2, p2, q2, rfl, rfl, rfl, h2, r2⟩ := trodAll_cons r1
  obtain ⟨rfl, rfl, rfl⟩ := trodAll_nil r2
  obtain rfl : args = #[v0, v1, v2] := by cases args; simp_all
  obtain ⟨rfl, rfl⟩ := trodVars_none hV
  obtain ⟨g0, A0, n0, c0, l0, rfl, e0⟩ := open_Z (hval 0 24 _ rfl rfl) h0
  obtain ⟨g1, A1, n1, c1, l1, rfl, e1⟩ := open_Z (hval 1 24 _ rfl rfl) h1
  obtain ⟨g2, A2, n2, c2, l2, rfl, e2⟩ := open_Z (hval 2 24 _ rfl rfl) h2
  clear hA0 hval0
  refine (wholeOrders_walk W g0 A0 n0 c0 l0 e0 g1 A1 n1 c1 l1 e1 g2 A2 n2 c2 l2 e2).mono fun e W' ⟨he, hg⟩ => ?_
  subst he
  exact ⟨_, rfl, law_post hW' rfl rfl (by kernel_rfl) (by kernel_rfl) hg⟩

theorem wholeOrders_over : Rows.wholeOrdersRow.holds Try.pinned (OpenSpec.ofChange Rows.wholeOrdersSpec) :=
  OpenClaim.holds_of_wide 7 Try.f7 rfl rfl rfl rfl rfl rfl rfl ⟨rfl, rfl, rfl, rfl, rfl⟩ rfl rfl rfl rfl rfl (by kernel_rfl) Try.func7 (by kernel_rfl)
    (of_decide_eq_true (by kernel_rfl)) (by unfold Func.isWrapper; first | (rw [if_pos (by decide +kernel)]; kernel_rfl) | (rw [if_neg (by decide +kernel)]; exact ⟨rfl, rfl⟩))
    (fun os started H enc _ => wholeOrders_lifted os started H enc)

theorem wholeOrders_proved : Rows.WholeOrdersSaid := wholeOrders_over

end Go.Proofs.Ytjmonmbgfihgmaa
