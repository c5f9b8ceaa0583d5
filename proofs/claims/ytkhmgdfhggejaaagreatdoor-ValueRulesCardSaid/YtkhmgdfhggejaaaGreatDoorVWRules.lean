/-
  ValueRules: whatever the input: true, and the input reads as it did.
-/
import Derived.Test.YtkhmgdfhggejaaaGreatDoorWVL
import Derived.Test.YtkhmgdfhggejaaaGreatDoorWVR
import Derived.Test.YtkhmgdfhggejaaaGreatDoorWVN
namespace Go.Proofs.YtkhmgdfhggejaaaGreatDoor.Q
open Go.ChangeShapes Go.WideShapes Go.ChangeAt Go.RowKit
set_option linter.unusedSimpArgs false
set_option linter.unusedVariables false
theorem rules_i {p q a b : M.Tm} {m : List M.Fn} {vP vQ vA vB v : Value} {d : Int} {w : World} (hp : IsTm w p vP) (hq : IsTm w q vQ) (ha : IsTm w a vA) (hb : IsTm w b vB) (h : FnList w m v) (hd : (Lit.int .i16 d).wf = true) (hT : Tab w) : Calls Tryz.prog 3 #[vP, vQ, vA, vB, v, .int .i16 d] w (GivesB w true) := by
 have h1 : -32768 ≤ d ∧ d ≤ 32767 := by simpa [Lit.wf, IntKind.min, IntKind.max, IntKind.signed, IntKind.bits] using hd
 exact rules_v hp hq ha hb h h1.1 h1.2 hT
set_option maxRecDepth 100000 in
theorem valueRules_lifted (os : Os) (started : os.Started) (H : Type) (enc : TypeId × Value → H) :
 ReturnsInHanded {} Tryz.checked os 3 .any (fun w args => (Rows.valueRulesSpec.pre enc Tryz.prog Tryz.f3 [] false w args ∧ laidMetH Tryz.prog laid1 w) ∧ sizedMet enc Tryz.prog Tryz.f3 (OpenSpec.ofChange Rows.valueRulesSpec) false w args)
  (Rows.valueRulesSpec.post enc Tryz.prog Tryz.f3 false true false false) := by
 refine returnsInHanded_of_change_and (C := Tryz.checked) (X := fun w _ => laidMetH Tryz.prog laid1 w) (fun _ _ _ hh h => h.of_heap hh) own started (by kernel_rfl) Tryz.func3
  (ChangeSpec.witness_shaped (enc := enc) (C := Tryz.checked) (os := os) (X := fun w _ => laidMetH Tryz.prog laid1 w) false (World.doorLaid Tryz.prog 400 os) #[.agg #[.int .i64 0, .bool false, .slice none 0 0, .string ⟨#[]⟩, .int .i64 0, .slice none 0 0], .agg #[.int .i64 0, .bool false, .slice none 0 0, .string ⟨#[]⟩, .int .i64 0, .slice none 0 0], .agg #[.int .i64 0, .bool false, .slice none 0 0, .string ⟨#[]⟩, .int .i64 0, .slice none 0 0], .agg #[.int .i64 0, .bool false, .slice none 0 0, .string ⟨#[]⟩, .int .i64 0, .slice none 0 0], .slice none 0 0, .int .i16 0] 8 rfl (World.shaped_of_RefB (by kernel_rfl) (by kernel_rfl)) (by kernel_rfl) (by kernel_rfl) (by kernel_rfl) (door_met os _)) ?_
 intro W base args ds gs before hval0 hW _ _ hL _
 have hval : ∀ (j : Nat) t v, Tryz.f3.params[j]? = some t → args[j]? = some v → Value.okWide Tryz.prog W .any base t v := hval0
 have hW' := hW
 obtain ⟨p, q, hA0, hV, rfl, hfz, hnd⟩ := hW
 have hA : DataW.TrodAll enc Tryz.prog W 0 (fun _ => true) true Tryz.f3.params.toList args.toList ds p := hA0
 rw [Tryz.params3] at hA hval
 obtain ⟨v0, vs0, d0, ds0, p0, q0, hargs, rfl, rfl, h0, r0⟩ := trodAll_cons hA
 obtain ⟨v1, vs1, d1, ds1, p1, q1, rfl, rfl, rfl, h1, r1⟩ := trodAll_cons r0
 obtain ⟨v2, vs2, d2, ds2, p2, q2, rfl, rfl, rfl, h2, r2⟩ := trodAll_cons r1
 obtain ⟨v3, vs3, d3, ds3, p3, q3, rfl, rfl, rfl, h3, r3⟩ := trodAll_cons r2
 obtain ⟨v4, vs4, d4, ds4, p4, q4, rfl, rfl, rfl, h4, r4⟩ := trodAll_cons r3
 obtain ⟨v5, vs5, d5, ds5, p5, q5, rfl, rfl, rfl, h5, r5⟩ := trodAll_cons r4
 obtain ⟨rfl, rfl, rfl⟩ := trodAll_nil r5
 obtain rfl : args = #[v0, v1, v2, v3, v4, v5] := by cases args; simp_all
 obtain ⟨rfl, rfl⟩ := trodVars_none hV
 obtain ⟨t0, e0⟩ := open_Term (hval 0 27 _ rfl rfl) h0
 obtain ⟨t1, e1⟩ := open_Term (hval 1 27 _ rfl rfl) h1
 obtain ⟨t2, e2⟩ := open_Term (hval 2 27 _ rfl rfl) h2
 obtain ⟨t3, e3⟩ := open_Term (hval 3 27 _ rfl rfl) h3
 obtain ⟨l4, e4⟩ := open_Funs (hval 4 28 _ rfl rfl) h4
 obtain ⟨a5, rfl, -, -, w5⟩ := open_int Tryz.underlying29 (hval 5 29 v5 rfl rfl) h5
 have hT := tab_of_laid hL
 clear hA0 hval0 hL
 refine (rules_i e0 e1 e2 e3 e4 w5 hT).mono fun e W' ⟨he, hg⟩ => ?_
 subst he
 exact ⟨_, rfl, law_post hW' rfl rfl (by kernel_rfl) (by kernel_rfl) hg⟩
set_option maxHeartbeats 8000000 in
theorem valueRules_over : Rows.ValueRulesSaid := by
 refine OpenClaim.holds_of_wide 3 Tryz.f3 rfl rfl rfl rfl rfl rfl rfl ⟨rfl, rfl, rfl, rfl, rfl⟩ rfl rfl rfl rfl rfl (by as_aux_lemma => kernel_rfl) Tryz.func3 ?_
  (of_decide_eq_true (by as_aux_lemma => kernel_rfl)) (by unfold Func.isWrapper; first | (rw [if_pos (by decide +kernel)]; kernel_rfl) | (rw [if_neg (by decide +kernel)]; exact ⟨rfl, rfl⟩))
  (fun os started H enc _ => valueRules_lifted os started H enc)
 unfold joinedFacts
 simp only [Bool.and_eq_true]
 repeat' apply And.intro
 all_goals (as_aux_lemma => kernel_rfl)
theorem valueRules_named : Tryz.prog.funcNamed "mullion/mullionlaw12.ValueRules" = some 3 := by kernel_rfl
theorem valueRules_all : ([27, 27, 27, 27, 28, 29].all fun u => !Tryz.prog.wantsStandIn u) = true := by kernel_rfl
set_option maxHeartbeats 8000000 in
theorem valueRules_card : Rows.ValueRulesCardSaid :=
 Claim7.holds_tied_plain_at .later [] [.wider] true Rows.valueRulesCard.stood.harness false
  valueRules_over (fun _ h => by cases h) (by as_aux_lemma => kernel_rfl) (fun _ h => by cases h) valueRules_row_tie rfl ⟨rfl, rfl⟩ (by as_aux_lemma => kernel_rfl) rfl
  (fun f fn hf hfn => by
   obtain rfl : f = 3 := Option.some.inj (valueRules_named.symm.trans hf) |>.symm
   obtain rfl : fn = Tryz.f3 := (Option.some.inj (Tryz.func3.symm.trans hfn)).symm
   exact ⟨by as_aux_lemma => kernel_rfl, fun j t ht => by
    rw [Tryz.params3] at ht
    have hm : t ∈ [27, 27, 27, 27, 28, 29] := by simpa using Array.mem_of_getElem? ht
    exact (show Tryz.prog.wantsStandIn t = false by simpa using List.all_eq_true.1 valueRules_all t hm)⟩)
  (by as_aux_lemma => kernel_rfl)
end Go.Proofs.YtkhmgdfhggejaaaGreatDoor.Q
