/-
  RatTells: whatever two fractions and two integers, or what is none: true, and the input reads as it did. No conditions.
-/
import Derived.Test.YtkjfeedclaedfaaGreatRLTelS
import Derived.Test.YtkjfeedclaedfaaGreatRLTelZ
import Derived.Test.YtkjfeedclaedfaaGreatRLTelN
namespace Go.Proofs.YtkjfeedclaedfaaGreat
open Go.ChangeShapes Go.WideShapes Go.ChangeAt Go.RowKit
set_option linter.unusedSimpArgs false
set_option linter.unusedVariables false

theorem ratTells_walk (W : World) (ga : Bool) (Aa : Option Addr) (na ca : Nat) (la : List Nat) (Ba : Option Addr) (ma da : Nat) (ra : List Nat) (ha : Num W W.heap.size (.slice Aa na ca) la) (ka : Num W W.heap.size (.slice Ba ma da) ra) (gb : Bool) (Ab : Option Addr) (nb cb : Nat) (lb : List Nat) (Bb : Option Addr) (mb db : Nat) (rb : List Nat) (hb : Num W W.heap.size (.slice Ab nb cb) lb) (kb : Num W W.heap.size (.slice Bb mb db) rb) (gp : Bool) (Ap : Option Addr) (np cp : Nat) (lp : List Nat) (hp : Num W W.heap.size (.slice Ap np cp) lp) (gq : Bool) (Aq : Option Addr) (nq cq : Nat) (lq : List Nat) (hq : Num W W.heap.size (.slice Aq nq cq) lq) :
    Calls Tryz.prog 3 #[.agg #[.bool ga, .slice Aa na ca, .slice Ba ma da], .agg #[.bool gb, .slice Ab nb cb, .slice Bb mb db], .agg #[.bool gp, .slice Ap np cp], .agg #[.bool gq, .slice Aq nq cq]] W (fun e w' => e = .returned (.bool true) ∧ Ext W w') := by
  rcases fa : ((decide (la.length ≤ 4) && decide (ra.length ≤ 4))) with _ | _
  · exact ratTells_skip0 W ga Aa na ca la Ba ma da ra ha ka gb Ab nb cb lb Bb mb db rb hb kb gp Ap np cp lp hp gq Aq nq cq lq hq fa
  rcases fb : ((decide (lb.length ≤ 4) && decide (rb.length ≤ 4))) with _ | _
  · exact ratTells_skip1 W ga Aa na ca la Ba ma da ra ha ka gb Ab nb cb lb Bb mb db rb hb kb gp Ap np cp lp hp gq Aq nq cq lq hq fa fb
  rcases fp : (decide (lp.length ≤ 5)) with _ | _
  · exact ratTells_skip2 W ga Aa na ca la Ba ma da ra ha ka gb Ab nb cb lb Bb mb db rb hb kb gp Ap np cp lp hp gq Aq nq cq lq hq fa fb fp
  rcases fq : (decide (lq.length ≤ 5)) with _ | _
  · exact ratTells_skip3 W ga Aa na ca la Ba ma da ra ha ka gb Ab nb cb lb Bb mb db rb hb kb gp Ap np cp lp hp gq Aq nq cq lq hq fa fb fp fq
  by_cases h0 : M.rv gb lb rb = 0
  · exact ratTells_zero W ga Aa na ca la Ba ma da ra ha ka gb Ab nb cb lb Bb mb db rb hb kb gp Ap np cp lp hp gq Aq nq cq lq hq fa fb fp fq _ rfl _ rfl _ rfl _ rfl h0
  · exact ratTells_some W ga Aa na ca la Ba ma da ra ha ka gb Ab nb cb lb Bb mb db rb hb kb gp Ap np cp lp hp gq Aq nq cq lq hq fa fb fp fq _ rfl _ rfl _ rfl _ rfl h0

set_option maxRecDepth 100000 in
theorem ratTells_lifted (os : Os) (started : os.Started) (H : Type) (enc : TypeId × Value → H) :
    ReturnsInHanded {} Tryz.checked os 3 .any (Rows.ratTellsSpec.pre6 enc Tryz.prog Tryz.f3 Rows.ratTellsRow.domain false) (Rows.ratTellsSpec.post enc Tryz.prog Tryz.f3 false true false false) := by
  refine returnsInHanded_of_change (C := Tryz.checked) own started (by kernel_rfl) Tryz.func3
    (ChangeSpec.witness6 (enc := enc) (C := Tryz.checked) false ⟨#[], #[.agg #[.bool false, .slice none 0 0, .slice none 0 0], .agg #[.bool false, .slice none 0 0, .slice none 0 0], .agg #[.bool false, .slice none 0 0], .agg #[.bool false, .slice none 0 0]], []⟩ 8 (by kernel_rfl) (by kernel_rfl) (by kernel_rfl) (by kernel_rfl)) ?_
  intro W base args ds gs before hval0 hW _ _
  have hval : ∀ (j : Nat) t v, Tryz.f3.params[j]? = some t → args[j]? = some v → Value.okWide Tryz.prog W .any base t v := hval0
  have hW' := hW
  obtain ⟨p, q, hA0, hV, rfl, hfz, hnd⟩ := hW
  have hA : DataW.TrodAll enc Tryz.prog W 0 (fun _ => true) true Tryz.f3.params.toList args.toList ds p := hA0
  rw [Tryz.params3] at hA hval
  obtain ⟨v0, vs0, d0, ds0, p0, q0, hargs, rfl, rfl, h0, r0⟩ := trodAll_cons hA
  obtain ⟨v1, vs1, d1, ds1, p1, q1, rfl, rfl, rfl, h1, r1⟩ := trodAll_cons r0
  obtain ⟨v2, vs2, d2, ds2, p2, q2, rfl, rfl, rfl, h2, r2⟩ := trodAll_cons r1
  obtain ⟨v3, vs3, d3, ds3, p3, q3, rfl, rfl, rfl, h3, r3⟩ := trodAll_cons r2
  obtain ⟨rfl, rfl, rfl⟩ := trodAll_nil r3
  obtain rfl : args = #[v0, v1, v2, v3] := by cases args; simp_all
  obtain ⟨rfl, rfl⟩ := trodVars_none hV
  obtain ⟨g0, A0, n0, c0, l0, B0, m0, z0, t0, rfl, e0, f0⟩ := open_R (hval 0 26 _ rfl rfl) h0
  obtain ⟨g1, A1, n1, c1, l1, B1, m1, z1, t1, rfl, e1, f1⟩ := open_R (hval 1 26 _ rfl rfl) h1
  obtain ⟨g2, A2, n2, c2, l2, rfl, e2⟩ := open_Z (hval 2 24 _ rfl rfl) h2
  obtain ⟨g3, A3, n3, c3, l3, rfl, e3⟩ := open_Z (hval 3 24 _ rfl rfl) h3
  clear hA0 hval0
  refine (ratTells_walk W g0 A0 n0 c0 l0 B0 m0 z0 t0 e0 f0 g1 A1 n1 c1 l1 B1 m1 z1 t1 e1 f1 g2 A2 n2 c2 l2 e2 g3 A3 n3 c3 l3 e3).mono fun e W' ⟨he, hg⟩ => ?_
  subst he
  exact ⟨_, rfl, law_post hW' rfl rfl (by kernel_rfl) (by kernel_rfl) hg⟩

theorem ratTells_over : Rows.ratTellsRow.holds Tryz.pinned (OpenSpec.ofChange Rows.ratTellsSpec) :=
  OpenClaim.holds_of_wide 3 Tryz.f3 rfl rfl rfl rfl rfl rfl rfl ⟨rfl, rfl, rfl, rfl, rfl⟩ rfl rfl rfl rfl rfl (by kernel_rfl) Tryz.func3 (by kernel_rfl)
    (of_decide_eq_true (by kernel_rfl)) (by unfold Func.isWrapper; first | (rw [if_pos (by decide +kernel)]; kernel_rfl) | (rw [if_neg (by decide +kernel)]; exact ⟨rfl, rfl⟩))
    (fun os started H enc _ => ratTells_lifted os started H enc)

theorem ratTells_proved : Rows.RatTellsSaid := ratTells_over

end Go.Proofs.YtkjfeedclaedfaaGreat
