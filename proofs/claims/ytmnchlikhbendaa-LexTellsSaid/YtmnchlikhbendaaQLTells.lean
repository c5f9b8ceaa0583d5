/-
  WHAT: of every text its words, or where and what is wrong; of every words their text: package lex answers as the document's words ask (LexTells).
  FOR EVERY INPUT: no condition.
-/
import Derived.Test.YtmnchlikhbendaaQLaw
namespace Go.Proofs.Ytmnchlikhbendaa
set_option linter.unusedSimpArgs false
set_option linter.unusedVariables false
open Go.ChangeShapes Go.WideShapes Go.ChangeAt Go.RowKit

set_option maxHeartbeats 8000000 in
set_option maxRecDepth 100000 in
theorem lexTells_walk (W : World) (s : List UInt8) (A : Option Addr) (n c : Nat) (ts : List M.Tok) (h1 : TList W (.slice A n c) ts) (B : Option Addr) (m d : Nat) (us : List M.Tok) (h2 : TList W (.slice B m d) us) :
    Calls Try.prog 3 #[str s, .slice A n c, .slice B m d] W (GivesB W true) := by
  have hsz : (⟨s.toArray⟩ : ByteArray).size = s.length := by rw [Lib.size_eq]
  have HT := hid h1
  have HU := hid h2
  obtain ⟨q1, hq1⟩ : ∃ q, M.few ts = q := ⟨_, rfl⟩
  obtain ⟨q2, hq2⟩ : ∃ q, M.few us = q := ⟨_, rfl⟩
  have HF1 := hid (show ∀ w, Ext W w → Calls Try.prog 9 #[.slice A n c] w fun e w' => e = .returned (.bool q1) ∧ w = w' from fun w hE => hq1 ▸ few_n (h1.up hE))
  have HF2 := hid (show ∀ w, Ext W w → Calls Try.prog 9 #[.slice B m d] w fun e w' => e = .returned (.bool q2) ∧ w = w' from fun w hE => hq2 ▸ few_n (h2.up hE))
  have HQ1 := hid hq1
  clear h1 h2 hq1 hq2
  rcases Nat.lt_or_ge 4100 s.length with hl | hl
  · have hq : 4100 < (s.length : Int) := by omega
    go_enter Try.func3, Try.ntmps3
    go_wp2_with fail
    refine (known_n _).mono ?_
    rintro e w1 ⟨rfl, hb⟩
    have E := hid hb
    clear hb
    go_wp2
    go_ret
    exact ⟨rfl, E.out⟩
  · have hq : decide (4100 < (s.length : Int)) = false := by simp; omega
    cases q1
    · go_enter Try.func3, Try.ntmps3
      go_wp2_with fail
      refine (known_n _).mono ?_
      rintro e w1 ⟨rfl, hb⟩
      have E := hid hb
      clear hb
      go_wp2_with fail
      refine (HF1.out _ E.out).mono ?_
      rintro e w' ⟨rfl, rfl⟩
      go_wp2
      go_ret
      exact ⟨rfl, E.out⟩
    · cases q2
      · go_enter Try.func3, Try.ntmps3
        go_wp2_with fail
        refine (known_n _).mono ?_
        rintro e w1 ⟨rfl, hb⟩
        have E := hid hb
        clear hb
        go_wp2_with fail
        refine (HF1.out _ E.out).mono ?_
        rintro e w' ⟨rfl, rfl⟩
        go_wp2_with fail
        refine (HF2.out _ E.out).mono ?_
        rintro e w' ⟨rfl, rfl⟩
        go_wp2
        go_ret
        exact ⟨rfl, E.out⟩
      · have hs9 : s.length ≤ 1000000 := by omega
        obtain ⟨T, hT⟩ : ∃ T, M.wToks s = T := ⟨_, rfl⟩
        obtain ⟨k, hk⟩ : ∃ k, M.wAt s = k := ⟨_, rfl⟩
        obtain ⟨z, hz⟩ : ∃ z, M.wErr s = z := ⟨_, rfl⟩
        obtain ⟨qs, hqs⟩ : ∃ q, M.isSym s = q := ⟨_, rfl⟩
        obtain ⟨pr, hpr⟩ : ∃ p, M.print ts = p := ⟨_, rfl⟩
        obtain ⟨sm, hsm⟩ : ∃ q, decide (ts = us) = q := ⟨_, rfl⟩
        have HW := hid (fun w => words_n s (by omega) w)
        have HRW := hid (fun w => rWords_n s (by omega) w)
        rw [hT, hk, hz] at HW HRW
        have HS := hid (fun w => symbol_n s (by omega) w)
        have HRS := hid (fun w => rSymbol_n s (by omega) w)
        rw [hqs] at HS HRS
        have hfp := M.few_print HQ1.out
        have htx : ∀ t ∈ ts, t.2.length ≤ 1000000000 := fun t ht => by have := (M.few_parts HQ1.out).1 t ht; omega
        have HP := hid (show ∀ w, Ext W w → Calls Try.prog 15 #[.slice A n c] w (GivesT w pr) from fun w hE => hpr ▸ print_n (HT.out.up hE) (by omega) htx)
        have HRP := hid (show ∀ w, Ext W w → Calls Try.prog 16 #[.slice A n c] w (GivesT w pr) from fun w hE => hpr ▸ rPrint_n (HT.out.up hE) (by omega) htx)
        have HM := hid (show ∀ w, Ext W w → Calls Try.prog 17 #[.slice A n c, .slice B m d] w (GivesB w sm) from fun w hE => hsm ▸ same_n (HT.out.up hE) (HU.out.up hE))
        have HRM := hid (show ∀ w, Ext W w → Calls Try.prog 12 #[.slice A n c, .slice B m d] w (GivesB w sm) from fun w hE => hsm ▸ rSame_n (HT.out.up hE) (HU.out.up hE))
        clear hT hk hz hqs hpr hsm hfp htx
        go_enter Try.func3, Try.ntmps3
        go_wp2_with fail
        refine (known_n _).mono ?_
        rintro e w1 ⟨rfl, hb⟩
        have E := hid hb
        clear hb
        go_wp2_with fail
        refine (HF1.out _ E.out).mono ?_
        rintro e w' ⟨rfl, rfl⟩
        go_wp2_with fail
        refine (HF2.out _ E.out).mono ?_
        rintro e w' ⟨rfl, rfl⟩
        go_wp2_with fail
        refine (HW.out _).mono ?_
        rintro e w2 ⟨v, rfl, hv, hb⟩
        obtain ⟨A1, c1, rfl⟩ := hv.shape
        have HV := hid hv
        replace E := hid (E.out.trans hb)
        clear hb hv
        go_wp2_with fail
        refine (HRW.out _).mono ?_
        rintro e w3 ⟨v, rfl, hv, hb⟩
        obtain ⟨A2, c2, rfl⟩ := hv.shape
        have HX := hid hv
        replace HV := hid (HV.out.up hb)
        replace E := hid (E.out.trans hb)
        clear hb hv
        go_wp2_with fail
        refine (rSame_n HV.out HX.out).mono ?_
        rintro e w4 ⟨rfl, hb⟩
        replace E := hid (E.out.trans hb)
        clear hb
        rw [decide_eq_true rfl]
        go_wp2_with fail
        refine (HS.out _).mono ?_
        rintro e w5 ⟨rfl, hb⟩
        replace E := hid (E.out.trans hb)
        clear hb
        go_wp2_with fail
        refine (HRS.out _).mono ?_
        rintro e w' ⟨rfl, rfl⟩
        go_wp2_with fail
        refine (HP.out _ E.out).mono ?_
        rintro e w6 ⟨rfl, hb⟩
        replace E := hid (E.out.trans hb)
        clear hb
        go_wp2_with fail
        refine (HRP.out _ E.out).mono ?_
        rintro e w7 ⟨rfl, hb⟩
        replace E := hid (E.out.trans hb)
        clear hb
        go_wp2_with fail
        refine (HM.out _ E.out).mono ?_
        rintro e w8 ⟨rfl, hb⟩
        replace E := hid (E.out.trans hb)
        clear hb
        go_wp2_with fail
        refine (HRM.out _ E.out).mono ?_
        rintro e w9 ⟨rfl, hb⟩
        replace E := hid (E.out.trans hb)
        clear hb
        go_wp2
        go_ret
        exact ⟨rfl, E.out⟩

set_option maxRecDepth 100000 in
theorem lexTells_lifted (os : Os) (started : os.Started) (H : Type) (enc : TypeId × Value → H) :
    ReturnsInHanded {} Try.checked os 3 .any (Rows.lexTellsSpec.pre6 enc Try.prog Try.f3 Rows.lexTellsRow.domain false) (Rows.lexTellsSpec.post enc Try.prog Try.f3 false true false false) := by
  refine returnsInHanded_of_change (C := Try.checked) own started (by kernel_rfl) Try.func3
    (ChangeSpec.witness6 (enc := enc) (C := Try.checked) false ⟨#[], #[.string ⟨#[]⟩, .slice none 0 0, .slice none 0 0], []⟩ 8 (by kernel_rfl) (by kernel_rfl) (by kernel_rfl) (by kernel_rfl)) ?_
  intro W base args ds gs before hval0 hW _ _
  have hval : ∀ (j : Nat) t v, Try.f3.params[j]? = some t → args[j]? = some v → Value.okWide Try.prog W .any base t v := hval0
  have hW' := hW
  obtain ⟨p, q, hA0, hV, rfl, hfz, hnd⟩ := hW
  have hA : DataW.TrodAll enc Try.prog W 0 (fun _ => true) true Try.f3.params.toList args.toList ds p := hA0
  rw [Try.params3] at hA hval
  obtain ⟨v0, vs0, d0, ds0, p0, q0, hargs, rfl, rfl, h0, r0⟩ := trodAll_cons hA
  obtain ⟨v1, vs1, d1, ds1, p1, q1, rfl, rfl, rfl, h1, r1⟩ := trodAll_cons r0
  obtain ⟨v2, vs2, d2, ds2, p2, q2, rfl, rfl, rfl, h2, r2⟩ := trodAll_cons r1
  obtain ⟨rfl, rfl, rfl⟩ := trodAll_nil r2
  obtain rfl : args = #[v0, v1, v2] := by cases args; simp_all
  obtain ⟨rfl, rfl⟩ := trodVars_none hV
  obtain ⟨a0, rfl, -⟩ := Go.ChangeMaps.open_string Try.underlying9 (hval 0 9 v0 rfl rfl) h0
  obtain ⟨A1, n1, c1, ts1, rfl, e1⟩ := open_TL (hval 1 22 _ rfl rfl) h1
  obtain ⟨A2, n2, c2, ts2, rfl, e2⟩ := open_TL (hval 2 22 _ rfl rfl) h2
  clear hA0 hval0
  refine (lexTells_walk W a0.data.toList A1 n1 c1 ts1 e1 A2 n2 c2 ts2 e2).mono fun e W' ⟨he, hg⟩ => ?_
  subst he
  exact ⟨_, rfl, law_post hW' rfl rfl (by kernel_rfl) (by kernel_rfl) hg⟩

theorem lexTells_over : Rows.lexTellsRow.holds Try.pinned (OpenSpec.ofChange Rows.lexTellsSpec) :=
  OpenClaim.holds_of_wide 3 Try.f3 rfl rfl rfl rfl rfl rfl rfl ⟨rfl, rfl, rfl, rfl, rfl⟩ rfl rfl rfl rfl rfl (by kernel_rfl) Try.func3 (by kernel_rfl)
    (of_decide_eq_true (by kernel_rfl)) (by unfold Func.isWrapper; first | (rw [if_pos (by decide +kernel)]; kernel_rfl) | (rw [if_neg (by decide +kernel)]; exact ⟨rfl, rfl⟩))
    (fun os started H enc _ => lexTells_lifted os started H enc)

theorem lexTells_proved : Rows.LexTellsSaid := lexTells_over

end Go.Proofs.Ytmnchlikhbendaa
