/-
  SortLets: whatever the input: true, and the input reads as it did.
-/
import Derived.Test.YtgkofipifjfjhaaGreatDoorJSL
import Derived.Test.YtgkofipifjfjhaaGreatDoorSLLetsI
namespace Go.Proofs.YtgkofipifjfjhaaGreatDoor.Q
open Go.ChangeShapes Go.WideShapes Go.ChangeAt Go.RowKit
set_option linter.unusedSimpArgs false
set_option linter.unusedVariables false
theorem lets_i {t body : M.T} {l : List M.Sg} {vt vb : Value} {a : Int} {SA : Option Addr} {sn sc : Nat} {w : World} (ht : IsT w t vt) (hb : IsT w body vb) (hl : Sgs w l (.slice SA sn sc)) (ha : (Lit.int .u8 a).wf = true) (hT : TabT w) : Calls Tryz.prog 4 #[vt, vb, .slice SA sn sc, .int .u8 a] w (GivesB w true) := by
 have h1 : 0 ≤ a ∧ a ≤ 255 := by simpa [Lit.wf, IntKind.min, IntKind.max, IntKind.signed, IntKind.bits] using ha
 obtain ⟨k, hk⟩ : ∃ k : Nat, a % 3 = (k : Int) := ⟨(a % 3).toNat, by omega⟩
 exact lets_t letsC ht hb hl h1.1 h1.2 hk (by omega) hT
set_option maxRecDepth 100000 in
theorem sortLets_lifted (os : Os) (started : os.Started) (H : Type) (enc : TypeId × Value → H) :
 ReturnsInHanded {} Tryz.checked os 4 .any (fun w args => (Rows.sortLetsSpec.pre enc Tryz.prog Tryz.f4 [] false w args ∧ laidMetH Tryz.prog laid5 w) ∧ sizedMet enc Tryz.prog Tryz.f4 (OpenSpec.ofChange Rows.sortLetsSpec) false w args)
  (Rows.sortLetsSpec.post enc Tryz.prog Tryz.f4 false true false false) := by
 refine returnsInHanded_of_change_and (C := Tryz.checked) (X := fun w _ => laidMetH Tryz.prog laid5 w) (fun _ _ _ hh h => h.of_heap hh) own started (by kernel_rfl) Tryz.func4
  (ChangeSpec.witness_shaped (enc := enc) (C := Tryz.checked) (os := os) (X := fun w _ => laidMetH Tryz.prog laid5 w) false (World.doorLaid Tryz.prog 400 os) #[.agg #[.bool false, .int .i64 0, .string ⟨#[]⟩, .slice none 0 0], .agg #[.bool false, .int .i64 0, .string ⟨#[]⟩, .slice none 0 0], .slice none 0 0, .int .u8 0] 8 rfl (World.shaped_of_RefB (by kernel_rfl) (by kernel_rfl)) (by kernel_rfl) (by kernel_rfl) (by kernel_rfl) (door_met os _)) ?_
 intro W base args ds gs before hval0 hW _ _ hL _
 have hval : ∀ (j : Nat) t v, Tryz.f4.params[j]? = some t → args[j]? = some v → Value.okWide Tryz.prog W .any base t v := hval0
 have hW' := hW
 obtain ⟨p, q, hA0, hV, rfl, hfz, hnd⟩ := hW
 have hA : DataW.TrodAll enc Tryz.prog W 0 (fun _ => true) true Tryz.f4.params.toList args.toList ds p := hA0
 rw [Tryz.params4] at hA hval
 obtain ⟨v0, vs0, d0, ds0, p0, q0, hargs, rfl, rfl, h0, r0⟩ := trodAll_cons hA
 obtain ⟨v1, vs1, d1, ds1, p1, q1, rfl, rfl, rfl, h1, r1⟩ := trodAll_cons r0
 obtain ⟨v2, vs2, d2, ds2, p2, q2, rfl, rfl, rfl, h2, r2⟩ := trodAll_cons r1
 obtain ⟨v3, vs3, d3, ds3, p3, q3, rfl, rfl, rfl, h3, r3⟩ := trodAll_cons r2
 obtain ⟨rfl, rfl, rfl⟩ := trodAll_nil r3
 obtain rfl : args = #[v0, v1, v2, v3] := by cases args; simp_all
 obtain ⟨rfl, rfl⟩ := trodVars_none hV
 obtain ⟨t0, e0⟩ := open_Tree (hval 0 26 _ rfl rfl) h0
 obtain ⟨t1, e1⟩ := open_Tree (hval 1 26 _ rfl rfl) h1
 obtain ⟨l2, A2, n2, c2, rfl, e2⟩ := open_Sigs (hval 2 27 _ rfl rfl) h2
 obtain ⟨a3, rfl, -, -, w3⟩ := open_int Tryz.underlying5 (hval 3 5 v3 rfl rfl) h3
 have hT := tab_of_laid hL
 clear hA0 hval0 hL
 refine (lets_i e0 e1 e2 w3 hT).mono fun e W' ⟨he, hg⟩ => ?_
 subst he
 exact ⟨_, rfl, law_post hW' rfl rfl (by kernel_rfl) (by kernel_rfl) hg⟩

set_option maxHeartbeats 8000000 in
theorem sortLets_over : Rows.SortLetsSaid := by
 refine OpenClaim.holds_of_wide 4 Tryz.f4 rfl rfl rfl rfl rfl rfl rfl ⟨rfl, rfl, rfl, rfl, rfl⟩ rfl rfl rfl rfl rfl (by as_aux_lemma => kernel_rfl) Tryz.func4 ?_
  (of_decide_eq_true (by as_aux_lemma => kernel_rfl)) (by unfold Func.isWrapper; first | (rw [if_pos (by decide +kernel)]; kernel_rfl) | (rw [if_neg (by decide +kernel)]; exact ⟨rfl, rfl⟩))
  (fun os started H enc _ => sortLets_lifted os started H enc)
 unfold joinedFacts
 simp only [Bool.and_eq_true]
 repeat' apply And.intro
 all_goals (as_aux_lemma => kernel_rfl)

theorem sortLets_named : Tryz.prog.funcNamed "mullion/mullionlaw11.SortLets" = some 4 := by kernel_rfl
theorem sortLets_all : ([26, 26, 27, 5].all fun u => !Tryz.prog.wantsStandIn u) = true := by kernel_rfl

set_option maxHeartbeats 8000000 in
theorem sortLets_card : Rows.SortLetsCardSaid :=
 Claim7.holds_tied_plain_at .later [] [.data, .data, .data, .wider, .data] true Rows.sortLetsCard.stood.harness false
  sortLets_over (fun _ h => by cases h) (by as_aux_lemma => kernel_rfl) (fun _ h => by cases h) sortLets_row_tie rfl ⟨rfl, rfl⟩ (by as_aux_lemma => kernel_rfl) rfl
  (fun f fn hf hfn => by
   obtain rfl : f = 4 := Option.some.inj (sortLets_named.symm.trans hf) |>.symm
   obtain rfl : fn = Tryz.f4 := (Option.some.inj (Tryz.func4.symm.trans hfn)).symm
   exact ⟨by as_aux_lemma => kernel_rfl, fun j t ht => by
    rw [Tryz.params4] at ht
    have hm : t ∈ [26, 26, 27, 5] := by simpa using Array.mem_of_getElem? ht
    exact (show Tryz.prog.wantsStandIn t = false by simpa using List.all_eq_true.1 sortLets_all t hm)⟩)
  (by as_aux_lemma => kernel_rfl)

end Go.Proofs.YtgkofipifjfjhaaGreatDoor.Q
