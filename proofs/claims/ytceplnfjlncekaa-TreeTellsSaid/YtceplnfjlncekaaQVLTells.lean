/-
  WHAT: of every words the trees, or where and what is wrong (TreeTells).
  FOR EVERY INPUT: no condition.
-/
import Derived.Test.YtceplnfjlncekaaQVRead
import Derived.Test.YtceplnfjlncekaaQTAll
import Derived.Test.YtceplnfjlncekaaQUKnown
import Derived.Test.YtceplnfjlncekaaQLaw
namespace Go.Proofs.Ytceplnfjlncekaa
set_option linter.unusedSimpArgs false
set_option linter.unusedVariables false
open Go.ChangeShapes Go.WideShapes Go.ChangeAt Go.RowKit

set_option maxHeartbeats 16000000 in
set_option maxRecDepth 100000 in
theorem treeTells_walk (W : World) (A : Option Addr) (n c : Nat) (ts : List M.Tok) (ht : TList W (.slice A n c) ts) : Calls Try.prog 3 #[.slice A n c] W (GivesB W true) := by
  obtain ⟨f, hf⟩ : ∃ f, M.few9 ts = f := ⟨_, rfl⟩
  have HF := hid (show ∀ w', Ext W w' → Calls Try.prog 10 #[.slice A n c] w' (fun e w'' => e = .returned (.bool f) ∧ w' = w'') from fun w' e => by have := few9_n (ht.up e); rwa [hf] at this)
  cases f
  · clear ht hf
    go_enter Try.func3, Try.ntmps3
    go_wp2_with fail
    refine (known9_n _).mono ?_
    rintro e w1 ⟨rfl, hx⟩
    have E := hid hx
    clear hx
    go_wp2_with fail
    refine (HF.out _ E.out).mono ?_
    rintro e w2 ⟨rfl, rfl⟩
    go_wp2_with fail
    go_ret
    exact ⟨rfl, E.out⟩
  · have hl := (M.few9_parts hf).2
    have HR1 := hid (show ∀ w', Ext W w' → Calls Try.prog 11 #[.slice A n c] w' (GivesR w' (M.readM ts)) from fun w' e => read_t (ht.up e) (by omega))
    have HR2 := hid (show ∀ w', Ext W w' → Calls Try.prog 12 #[.slice A n c] w' (GivesR w' (M.readM ts)) from fun w' e => rRead_n (ht.up e) (by omega))
    obtain ⟨⟨ks, k, x⟩, hR⟩ : ∃ R, M.readM ts = R := ⟨_, rfl⟩
    rw [hR] at HR1 HR2
    have HS := hid (show ∀ (w' : World) (v v' : Value), Kids w' ks v → Kids w' ks v' → Calls Try.prog 13 #[v, v'] w' (GivesB w' true) from fun w' v v' h h' => by
      have := sameAll_n h h'
      rwa [decide_eq_true rfl, Bool.true_and, (M.sameTs_iff_of (fun k t _ u => M.sameT_iff t u) rfl).2 rfl] at this)
    clear ht hf hl hR
    go_enter Try.func3, Try.ntmps3
    go_wp2_with fail
    refine (known9_n _).mono ?_
    rintro e w1 ⟨rfl, hx⟩
    have E := hid hx
    clear hx
    go_wp2_with fail
    refine (HF.out _ E.out).mono ?_
    rintro e w2 ⟨rfl, rfl⟩
    go_wp2_with fail
    refine (HR1.out _ E.out).mono ?_
    rintro e w3 ⟨v3, rfl, hv3, hx⟩
    replace E := hid (E.out.trans hx)
    have HV3 := hid hv3
    clear hx hv3
    go_wp2_with fail
    refine (HR2.out _ E.out).mono ?_
    rintro e w4 ⟨v4, rfl, hv4, hx⟩
    have HV3' := hid (HV3.out.up hx)
    replace E := hid (E.out.trans hx)
    have HV4 := hid hv4
    clear hx hv4 HV3
    go_wp2_with fail
    refine (HS.out _ _ _ HV3'.out HV4.out).mono ?_
    rintro e w5 ⟨rfl, hx⟩
    replace E := hid (E.out.trans hx)
    clear hx
    go_wp2_with fail
    go_ret
    exact ⟨rfl, E.out⟩

set_option maxRecDepth 100000 in
theorem treeTells_lifted (os : Os) (started : os.Started) (H : Type) (enc : TypeId × Value → H) :
    ReturnsInHanded {} Try.checked os 3 .any (Rows.treeTellsSpec.pre6 enc Try.prog Try.f3 Rows.treeTellsRow.domain false) (Rows.treeTellsSpec.post enc Try.prog Try.f3 false true false false) := by
  refine returnsInHanded_of_change (C := Try.checked) own started (by kernel_rfl) Try.func3
    (ChangeSpec.witness6 (enc := enc) (C := Try.checked) false ⟨#[], #[.slice none 0 0], []⟩ 8 (by kernel_rfl) (by kernel_rfl) (by kernel_rfl) (by kernel_rfl)) ?_
  intro W base args ds gs before hval0 hW _ _
  have hval : ∀ (j : Nat) t v, Try.f3.params[j]? = some t → args[j]? = some v → Value.okWide Try.prog W .any base t v := hval0
  have hW' := hW
  obtain ⟨p, q, hA0, hV, rfl, hfz, hnd⟩ := hW
  have hA : DataW.TrodAll enc Try.prog W 0 (fun _ => true) true Try.f3.params.toList args.toList ds p := hA0
  rw [Try.params3] at hA hval
  obtain ⟨v0, vs0, d0, ds0, p0, q0, hargs, rfl, rfl, h0, r0⟩ := trodAll_cons hA
  obtain ⟨rfl, rfl, rfl⟩ := trodAll_nil r0
  obtain rfl : args = #[v0] := by cases args; simp_all
  obtain ⟨rfl, rfl⟩ := trodVars_none hV
  obtain ⟨A0, n0, c0, ts0, rfl, e0⟩ := open_TL (hval 0 22 _ rfl rfl) h0
  clear hA0 hval0
  refine (treeTells_walk W A0 n0 c0 ts0 e0).mono fun e W' ⟨he, hg⟩ => ?_
  subst he
  exact ⟨_, rfl, law_post hW' rfl rfl (by kernel_rfl) (by kernel_rfl) hg⟩

theorem treeTells_over : Rows.treeTellsRow.holds Try.pinned (OpenSpec.ofChange Rows.treeTellsSpec) :=
  OpenClaim.holds_of_wide 3 Try.f3 rfl rfl rfl rfl rfl rfl rfl ⟨rfl, rfl, rfl, rfl, rfl⟩ rfl rfl rfl rfl rfl (by kernel_rfl) Try.func3 (by kernel_rfl)
    (of_decide_eq_true (by kernel_rfl)) (by unfold Func.isWrapper; first | (rw [if_pos (by decide +kernel)]; kernel_rfl) | (rw [if_neg (by decide +kernel)]; exact ⟨rfl, rfl⟩))
    (fun os started H enc _ => treeTells_lifted os started H enc)

theorem treeTells_proved : Rows.TreeTellsSaid := treeTells_over

end Go.Proofs.Ytceplnfjlncekaa
