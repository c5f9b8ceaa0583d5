/-
  ValueLocal, where what it reads is of bulk at most 1048576: true, and the input reads as it did.
-/
import Derived.Test.YtkhmgdfhggejaaaGreatDoorWVL
import Derived.Test.YtkhmgdfhggejaaaGreatDoorWVP
import Derived.Deep.DeepHandedRow
import Derived.Deep.DeepWitnessRowRef
namespace Go.Proofs.YtkhmgdfhggejaaaGreatDoor.Q
open Go.ChangeShapes Go.WideShapes Go.ChangeAt Go.RowKit
set_option linter.unusedSimpArgs false
set_option linter.unusedVariables false
theorem local_i {t : M.Tm} {m : List M.Fn} {s : ByteArray} {x : M.Vl} {tv mv v : Value} {w : World} (ht : IsTm w t tv) (hm : FnList w m mv) (hx : IsVl w x v) (hxw : x.2.2.length ≤ 2000000) (hT : Tab w) : Calls Tryz.prog 4 #[tv, mv, .string s, v] w (GivesB w true) := by
 have h := local_v (nm := s.data.toList) ht hm hx hxw hT
 exact h
theorem local_bound {H : Type} {d0 d1 d2 d3 : DataW H} (hk : Rows.uptoSmall H [d0, d1, d2, d3] = true) : Rows.uptoBulk d3 ≤ 1048576 := by
 have h : Rows.uptoBulkAll [d0, d1, d2, d3] ≤ 1048576 := of_decide_eq_true hk
 simp only [Rows.uptoBulkAll] at h
 omega
theorem laid_met1 (os : Os) (args : Array Value) : laidMet Tryz.prog Rows.valueLocalUptoRow.laid ((World.doorLaid Tryz.prog 400 os).forCall (fun _ _ => 0) ⟨#[], args, []⟩).memory :=
 laidMet_of_run' 8 (by kernel_rfl) (by kernel_rfl)
set_option maxRecDepth 100000 in
theorem valueLocal_lifted (os : Os) (started : os.Started) (H : Type) (enc : TypeId × Value → H) (F : Stop.Interp) :
 ReturnsInHanded {} Tryz.checked os 4 .any ((Rows.OpenSpec.upto Rows.valueLocalSpec).preRow enc Tryz.prog Tryz.f4 Rows.valueLocalUptoRow.domain false Rows.valueLocalUptoRow.laid) (((Rows.OpenSpec.upto Rows.valueLocalSpec).at F).post enc Tryz.prog Tryz.f4 false true false false) := by
 have hx : ∃ places, DataW.whole enc Tryz.prog ((World.doorLaid Tryz.prog 400 os).forCall (fun _ _ => 0) ⟨#[], #[.agg #[.int .i64 0, .bool false, .slice none 0 0, .string ⟨#[]⟩, .int .i64 0, .slice none 0 0], .slice none 0 0, .string ⟨#[]⟩, .agg #[.int .i64 0, .bool false, .slice none 0 0]], []⟩).memory Tryz.f4.params.toList Rows.valueLocalSpec.vars false #[.agg #[.int .i64 0, .bool false, .slice none 0 0, .string ⟨#[]⟩, .int .i64 0, .slice none 0 0], .slice none 0 0, .string ⟨#[]⟩, .agg #[.int .i64 0, .bool false, .slice none 0 0]].toList 8 = some ([.agg [.lit (.int .i64 0), .agg [.lit (.bool false), .nil], .lit (.string []), .lit (.int .i64 0), .nil], .nil, .lit (.string []), .agg [.lit (.int .i64 0), .agg [.lit (.bool false), .nil]]], [], places) := ⟨[], by kernel_rfl⟩
 obtain ⟨places, hx⟩ := hx
 refine returnsInHanded_of_row (C := Tryz.checked) (s := Rows.OpenSpec.upto Rows.valueLocalSpec) own started (by kernel_rfl) Tryz.func4
  (witness_row_atRef (enc := enc) (C := Tryz.checked) false (World.doorLaid Tryz.prog 400 os) #[.agg #[.int .i64 0, .bool false, .slice none 0 0, .string ⟨#[]⟩, .int .i64 0, .slice none 0 0], .slice none 0 0, .string ⟨#[]⟩, .agg #[.int .i64 0, .bool false, .slice none 0 0]] rfl (by kernel_rfl) (by kernel_rfl) (by kernel_rfl)
   (OpenSpec.preRow_of_cond 8 hx (by kernel_rfl) (fun k hk => by cases hk; kernel_rfl) (by kernel_rfl) (laid_met1 os _))) ?_
 intro W base args ds gs before hval0 hW _ hcond _ hL _ _
 have hval : ∀ (j : Nat) t v, Tryz.f4.params[j]? = some t → args[j]? = some v → Value.okWide Tryz.prog W .any base t v := hval0
 have hk := hcond _ rfl
 have hW' := hW
 obtain ⟨p, q, hA0, hV, rfl, hfz, hnd⟩ := hW
 have hA : DataW.TrodAll enc Tryz.prog W 0 (fun _ => true) true Tryz.f4.params.toList args.toList ds p := hA0
 rw [Tryz.params4] at hA hval
 obtain ⟨v0, vs0, d0, ds0, p0, q0, hargs, rfl, rfl, h0, r0⟩ := trodAll_cons hA
 obtain ⟨v1, vs1, d1, ds1, p1, q1, rfl, rfl, rfl, h1, r1⟩ := trodAll_cons r0
 obtain ⟨v2, vs2, d2, ds2, p2, q2, rfl, rfl, rfl, h2, r2⟩ := trodAll_cons r1
 obtain ⟨v3, vs3, d3, ds3, p3, q3, rfl, rfl, rfl, h3, r3⟩ := trodAll_cons r2
 obtain ⟨rfl, rfl, rfl⟩ := trodAll_nil r3
 obtain rfl : args = #[v0, v1, v2, v3] := by cases args; simp_all
 obtain ⟨rfl, rfl⟩ := trodVars_none hV
 obtain ⟨t0, e0⟩ := open_Term (hval 0 27 _ rfl rfl) h0
 obtain ⟨l1, e1⟩ := open_Funs (hval 1 28 _ rfl rfl) h1
 obtain ⟨s2, rfl, -⟩ := Go.ChangeMaps.open_string Tryz.underlying9 (hval 2 9 v2 rfl rfl) h2
 obtain ⟨x3, e3, b3⟩ := open_ValueB (hval 3 38 _ rfl rfl) h3
 have hb := local_bound (d0 := d0) (d1 := d1) (d2 := d2) (d3 := d3) (by simpa using hk)
 have hT := tab_of_laid hL
 clear hA0 hval0 hL hcond hk
 refine (local_i e0 e1 e3 (by omega) hT (s := s2)).mono fun e W' ⟨he, hg⟩ => ?_
 subst he
 exact ⟨_, rfl, law_post (s := Rows.valueLocalSpec) hW' rfl rfl (by kernel_rfl) (by kernel_rfl) hg⟩

set_option maxHeartbeats 8000000 in
theorem valueLocal_over : Rows.ValueLocalUptoSaid :=
 OpenClaim.holds_of_cond 4 Tryz.f4 rfl rfl rfl rfl rfl rfl rfl ⟨rfl, rfl, rfl, rfl, rfl⟩ rfl rfl rfl rfl rfl (by as_aux_lemma => kernel_rfl) Tryz.func4 (by as_aux_lemma => kernel_rfl)
  (of_decide_eq_true (by as_aux_lemma => kernel_rfl)) (by unfold Func.isWrapper; first | (rw [if_pos (by decide +kernel)]; kernel_rfl) | (rw [if_neg (by decide +kernel)]; exact ⟨rfl, rfl⟩))
  (fun os started H enc _ F => by rw [OpenClaim.pre_eq_preRow]; exact valueLocal_lifted os started H enc F)

theorem valueLocal_named : Tryz.prog.funcNamed "mullion/mullionlaw12.ValueLocal" = some 4 := by kernel_rfl
theorem valueLocal_all : ([27, 28, 9, 38].all fun u => !Tryz.prog.wantsStandIn u) = true := by kernel_rfl

set_option maxHeartbeats 8000000 in
theorem valueLocal_card : Rows.ValueLocalUptoCardSaid :=
 Claim7.holds_tied_plain_at .later [] [.wider] true Rows.valueLocalUptoCard.stood.harness false
  valueLocal_over (fun _ h => by cases h) (by as_aux_lemma => kernel_rfl) (fun _ h => by cases h) valueLocalUpto_row_tie rfl ⟨rfl, rfl⟩ (by as_aux_lemma => kernel_rfl) rfl
  (fun f fn hf hfn => by
   obtain rfl : f = 4 := Option.some.inj (valueLocal_named.symm.trans hf) |>.symm
   obtain rfl : fn = Tryz.f4 := (Option.some.inj (Tryz.func4.symm.trans hfn)).symm
   exact ⟨by as_aux_lemma => kernel_rfl, fun j t ht => by
    rw [Tryz.params4] at ht
    have hm : t ∈ [27, 28, 9, 38] := by simpa using Array.mem_of_getElem? ht
    exact (show Tryz.prog.wantsStandIn t = false by simpa using List.all_eq_true.1 valueLocal_all t hm)⟩)
  (by as_aux_lemma => kernel_rfl)

end Go.Proofs.YtkhmgdfhggejaaaGreatDoor.Q
