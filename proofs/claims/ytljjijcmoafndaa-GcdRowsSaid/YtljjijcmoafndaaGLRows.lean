/-
  GcdRows: whatever list of numbers of 32 bits and whatever number of 8: true. No conditions.
-/
import Derived.Test.YtljjijcmoafndaaGKnown
import Derived.Test.YtljjijcmoafndaaGLRowsN
import Derived.Test.YtljjijcmoafndaaGLRowsP
namespace Go.Proofs.Ytljjijcmoafndaa
open Go.ChangeShapes Go.WideShapes Go.ChangeAt Go.RowKit
set_option linter.unusedSimpArgs false
set_option linter.unusedVariables false

set_option maxRecDepth 100000 in
set_option maxHeartbeats 1000000 in
theorem gcdRows_skip (W : World) (A : Option Addr) (n c : Nat) (xs : List Int) (hX : IList W (.slice A n c) xs) (at_ : Int) (h1 : 0 ≤ at_) (h2 : at_ ≤ 255) (hfl : decide ((12 : Int) < (n : Int)) = true) :
    Calls Try.prog 7 #[.slice A n c, .int .u8 at_] W (fun e w' => e = .returned (.bool true) ∧ Ext W w') := by
  have HX := hid hX
  have hb9 : n ≤ 9223372036854775807 := hX.count.2.2.2
  clear hX h1 h2
  go_enter Try.func7, Try.ntmps7
  go_upto_region 1 with (fail)
  have E := hid (Ext.refl W)
  go_upto_region 1 with (fail)
  refine wp_region_T [(0, 1), (1, 0)] (by kernel_rfl) fun wd hb => ?_
  replace E := hid (E.out.trans hb)
  clear hb
  refine WE.call (d := some 9) rfl rfl (by rfl) (f := 8) (args := #[]) (by go_simp) ?_
  refine (known4 _).mono ?_
  rintro e wn ⟨rfl, hb⟩
  refine ⟨_, rfl, hb, ?_⟩
  replace E := hid (E.out.trans hb)
  clear hb
  simp only [Act.put, List.setIfInBounds_toArray, List.set_cons_zero, List.set_cons_succ]
  refine WE.pure (d := some 10) rfl rfl (by rfl) (v := (.bool false)) (fun w' hk => ?_) ?_
  · go_simp
  simp only [Act.put, List.setIfInBounds_toArray, List.set_cons_zero, List.set_cons_succ]
  refine WE.done ?_
  go_upto_region 3 with (fail)
  refine wp_region_T [(0, 0), (1, 0), (2, 0)] (by kernel_rfl) fun wd hb => ?_
  replace E := hid (E.out.trans hb)
  clear hb
  refine WE.pure (d := some 11) rfl rfl (by rfl) (v := (.slice A n c)) (fun w' hk => ?_) ?_
  · go_simp
  simp only [Act.put, List.setIfInBounds_toArray, List.set_cons_zero, List.set_cons_succ]
  refine WE.pure (d := some 12) rfl rfl (by rfl) (v := (.int .i64 (n : Int))) (fun w' hk => ?_) ?_
  · go_simp
  simp only [Act.put, List.setIfInBounds_toArray, List.set_cons_zero, List.set_cons_succ]
  refine WE.pure (d := some 13) rfl rfl (by rfl) (v := (.bool true)) (fun w' hk => ?_) ?_
  · go_simp
  simp only [Act.put, List.setIfInBounds_toArray, List.set_cons_zero, List.set_cons_succ]
  refine WE.done ?_
  repeat go_step
  go_ret
  exact ⟨rfl, E.out⟩

theorem u8_of_wf {n : Int} (h : (Lit.int .u8 n).wf = true) : 0 ≤ n ∧ n ≤ 255 := by
  simpa [Lit.wf, IntKind.min, IntKind.max, IntKind.signed, IntKind.bits] using h
theorem gcdRows_walk (W : World) (A : Option Addr) (n c : Nat) (xs : List Int) (hX : IList W (.slice A n c) xs) (at_ : Int) (h : 0 ≤ at_ ∧ at_ ≤ 255) : Calls Try.prog 7 #[.slice A n c, .int .u8 at_] W (fun e w' => e = .returned (.bool true) ∧ Ext W w') := by
  rcases Nat.lt_or_ge 12 n with h3 | h3
  · exact gcdRows_skip W A n c xs hX at_ h.1 h.2 (decide_eq_true (by omega))
  · rcases Nat.eq_zero_or_pos n with h0 | h0
    · exact gcdRows_none W A n c xs hX at_ h.1 h.2 h3 h0
    · exact gcdRows_some W A n c xs hX at_ h.1 h.2 h3 h0

set_option maxRecDepth 100000 in
theorem gcdRows_lifted (os : Os) (started : os.Started) (H : Type) (enc : TypeId × Value → H) :
    ReturnsInHanded {} Try.checked os 7 .any (Rows.gcdRowsSpec.pre6 enc Try.prog Try.f7 Rows.gcdRowsRow.domain false) (Rows.gcdRowsSpec.post enc Try.prog Try.f7 false true false false) := by
  refine returnsInHanded_of_change (C := Try.checked) own started (by kernel_rfl) Try.func7
    (ChangeSpec.witness6 (enc := enc) (C := Try.checked) false ⟨#[], #[.slice none 0 0, .int .u8 0], []⟩ 8 (by kernel_rfl) (by kernel_rfl) (by kernel_rfl) (by kernel_rfl)) ?_
  intro W base args ds gs before hval0 hW _ _
  have hval : ∀ (j : Nat) t v, Try.f7.params[j]? = some t → args[j]? = some v → Value.okWide Try.prog W .any base t v := hval0
  have hW' := hW
  obtain ⟨p, q, hA0, hV, rfl, hfz, hnd⟩ := hW
  have hA : DataW.TrodAll enc Try.prog W 0 (fun _ => true) true Try.f7.params.toList args.toList ds p := hA0
  rw [Try.params7] at hA hval
  obtain ⟨v0, vs0, d0, ds0, p0, q0, hargs, rfl, rfl, h0, r0⟩ := trodAll_cons hA
  obtain ⟨v1, vs1, d1, ds1, p1, q1, rfl, rfl, rfl, h1, r1⟩ := trodAll_cons r0
  obtain ⟨rfl, rfl, rfl⟩ := trodAll_nil r1
  obtain rfl : args = #[v0, v1] := by cases args; simp_all
  obtain ⟨rfl, rfl⟩ := trodVars_none hV
  obtain ⟨A0, n0, c0, l0, rfl, e0⟩ := open_IL (hval 0 43 _ rfl rfl) h0
  obtain ⟨a1, rfl, -, -, w1⟩ := open_int Try.underlying5 (hval 1 5 v1 rfl rfl) h1
  clear hA0 hval0
  refine (gcdRows_walk W A0 n0 c0 l0 e0 a1 (u8_of_wf w1)).mono fun e W' ⟨he, hg⟩ => ?_
  subst he
  exact ⟨_, rfl, law_post hW' rfl rfl (by kernel_rfl) (by kernel_rfl) hg⟩

theorem gcdRows_over : Rows.gcdRowsRow.holds Try.pinned (OpenSpec.ofChange Rows.gcdRowsSpec) :=
  OpenClaim.holds_of_wide 7 Try.f7 rfl rfl rfl rfl rfl rfl rfl ⟨rfl, rfl, rfl, rfl, rfl⟩ rfl rfl rfl rfl rfl (by kernel_rfl) Try.func7 (by kernel_rfl)
    (of_decide_eq_true (by kernel_rfl)) (by unfold Func.isWrapper; first | (rw [if_pos (by decide +kernel)]; kernel_rfl) | (rw [if_neg (by decide +kernel)]; exact ⟨rfl, rfl⟩))
    (fun os started H enc _ => gcdRows_lifted os started H enc)

theorem gcdRows_proved : Rows.GcdRowsSaid := gcdRows_over

end Go.Proofs.Ytljjijcmoafndaa
