/-
  WHAT: of each byte alone what it is (LexBytes).
  FOR EVERY INPUT: no condition.
-/
import Derived.Test.YtmnchlikhbendaaQLaw
namespace Go.Proofs.Ytmnchlikhbendaa
set_option linter.unusedSimpArgs false
set_option linter.unusedVariables false
open Go.ChangeShapes Go.WideShapes Go.ChangeAt Go.RowKit

theorem byte_run (b : UInt8) (g : Nat) (w : World) (h : w.cell? ⟨g, 0, none⟩ = some (.int .u8 (b.toNat : Int))) : (convert 38 9 (.slice (some ⟨g, 0, none⟩) 1 1)).run Try.prog w = .ok (.string ⟨#[b]⟩) w :=
  run_convert_bytes_back (P := Try.prog) w 38 9 5 ⟨g, 0, none⟩ 1 [b] Try.underlying38 Try.underlying5 Try.underlying9 (fun j hj => by
    obtain rfl : j = 0 := by simpa using hj
    simpa [Addr.add] using h)
theorem byte_new (b : UInt8) (w : World) : (convert 38 9 (.slice (some ⟨w.heap.size, 0, none⟩) 1 1)).run Try.prog (w.alloc (.cells #[.int .u8 (b.toNat : Int)] 5)) = .ok (.string ⟨#[b]⟩) (w.alloc (.cells #[.int .u8 (b.toNat : Int)] 5)) :=
  byte_run b _ _ (by rw [World.cell?_alloc_new]; rfl)
theorem byte_at (b : UInt8) (z : Int) (hz : z = (b.toNat : Int)) (w : World) : (convert 38 9 (.slice (some ⟨w.heap.size, 0, none⟩) 1 1)).run Try.prog (w.alloc (.cells #[.int .u8 z] 5)) = .ok (.string ⟨#[b]⟩) (w.alloc (.cells #[.int .u8 z] 5)) := by
  subst hz; exact byte_new b w
namespace M
/-- What a byte alone is. -/
def aloneOk (b : UInt8) : Bool :=
  if blank b || b == 59 then wToks [b] == [] && (wAt [b] == 1 && wErr [b] == 0)
  else if b == 40 then wToks [b] == [(1, [])] && (wAt [b] == 1 && wErr [b] == 0)
  else if b == 41 then wToks [b] == [(2, [])] && (wAt [b] == 1 && wErr [b] == 0)
  else if dig b then wToks [b] == [(3, [b])] && (wAt [b] == 1 && wErr [b] == 0)
  else if isSym [b] then wToks [b] == [(4, [b])] && (wAt [b] == 1 && wErr [b] == 0)
  else wToks [b] == [] && (wAt [b] == 0 && wErr [b] == 14)
theorem alone (b : UInt8) : aloneOk b = true := all_bytes aloneOk (by decide +kernel) b
end M
theorem words_byte (b : UInt8) {ts : List M.Tok} {k : Nat} {z : Int} (h : (M.wToks [b] == ts && (M.wAt [b] == k && M.wErr [b] == z)) = true) (w : World) : Calls Try.prog 10 #[.string ⟨#[b]⟩] w (GivesW w ts k z) := by
  simp only [Bool.and_eq_true, beq_iff_eq] at h
  obtain ⟨rfl, rfl, rfl⟩ := h
  exact words_n [b] (by simp) w
set_option maxHeartbeats 8000000 in
set_option maxRecDepth 100000 in
theorem lexBytes_b (W : World) (b : UInt8) : Calls Try.prog 6 #[.int .u8 (b.toNat : Int)] W (GivesB W true) := by
  have hal := M.alone b
  unfold M.aloneOk at hal
  rcases h1 : (M.blank b || b == 59) with _ | _
  · rw [h1, if_neg (by decide)] at hal
    obtain ⟨⟨n1, n2, n3, n4⟩, n5⟩ : (b ≠ 32 ∧ b ≠ 9 ∧ b ≠ 10 ∧ b ≠ 13) ∧ b ≠ 59 := by
      rw [M.blank_iff] at h1; simpa [and_assoc] using h1
    have q1 := ne_byte n1 (n := 32) rfl
    have q2 := ne_byte n2 (n := 9) rfl
    have q3 := ne_byte n3 (n := 10) rfl
    have q4 := ne_byte n4 (n := 13) rfl
    have q5 := ne_byte n5 (n := 59) rfl
    by_cases h40 : b = 40
    · subst h40
      rw [if_pos (by decide)] at hal
      have HW := hid (fun w => words_byte 40 hal w)
      clear hal n1 n2 n3 n4 n5 h1 q1 q2 q3 q4 q5
      go_enter Try.func6, Try.ntmps6
      go_wp2_with fail
      refine (known_n _).mono ?_
      rintro e w1 ⟨rfl, hb⟩
      have E := hid hb
      clear hb
      have hcv := byte_at 40 40 rfl w1
      go_wp2_with fail
      refine (HW.out _).mono ?_
      rintro e w2 ⟨v, rfl, hv, hb⟩
      replace E := hid ((E.out.alloc' _).trans hb)
      clear hb hcv
      obtain ⟨A, n, c, rfl, hn, hnc, hcm, hA⟩ := hv
      obtain rfl : n = 1 := hn
      have hc9 : c ≤ 9223372036854775807 := by unfold maxLen at hcm; omega
      obtain ⟨ad, rfl, hadb, hA2⟩ := hA (by simp)
      obtain ⟨c0, c1⟩ := hA2 0 _ rfl
      replace c0 : w2.cell? ad = some (.int .i64 1) := c0
      replace c1 : w2.cell? ⟨ad.block, ad.off + 1, none⟩ = some (.string ⟨#[]⟩) := c1
      clear hA hA2
      go_wp2
      go_ret
      exact ⟨rfl, E.out⟩
    by_cases h41 : b = 41
    · subst h41
      rw [if_neg (by decide), if_pos (by decide)] at hal
      have HW := hid (fun w => words_byte 41 hal w)
      clear hal n1 n2 n3 n4 n5 h1 q1 q2 q3 q4 q5 h40
      go_enter Try.func6, Try.ntmps6
      go_wp2_with fail
      refine (known_n _).mono ?_
      rintro e w1 ⟨rfl, hb⟩
      have E := hid hb
      clear hb
      have hcv := byte_at 41 41 rfl w1
      go_wp2_with fail
      refine (HW.out _).mono ?_
      rintro e w2 ⟨v, rfl, hv, hb⟩
      replace E := hid ((E.out.alloc' _).trans hb)
      clear hb hcv
      obtain ⟨A, n, c, rfl, hn, hnc, hcm, hA⟩ := hv
      obtain rfl : n = 1 := hn
      have hc9 : c ≤ 9223372036854775807 := by unfold maxLen at hcm; omega
      obtain ⟨ad, rfl, hadb, hA2⟩ := hA (by simp)
      obtain ⟨c0, c1⟩ := hA2 0 _ rfl
      replace c0 : w2.cell? ad = some (.int .i64 2) := c0
      replace c1 : w2.cell? ⟨ad.block, ad.off + 1, none⟩ = some (.string ⟨#[]⟩) := c1
      clear hA hA2
      go_wp2
      go_ret
      exact ⟨rfl, E.out⟩
    rw [if_neg (by simpa using h40), if_neg (by simpa using h41)] at hal
    have q6 := ne_byte h40 (n := 40) rfl
    have q7 := ne_byte h41 (n := 41) rfl
    clear n1 n2 n3 n4 n5 h1 h40 h41
    rcases h6 : M.dig b with _ | _
    · rw [h6, if_neg (by decide)] at hal
      have hd := M.dig_iff b
      rw [h6] at hd
      have hdc : decide (48 ≤ (b.toNat : Int)) = false ∨ (48 ≤ (b.toNat : Int) ∧ decide ((b.toNat : Int) ≤ 57) = false) := by
        have : ¬ (48 ≤ b.toNat ∧ b.toNat ≤ 57) := by simpa using hd.symm
        rcases Nat.lt_or_ge b.toNat 48 with h | h
        · exact .inl (by simp; omega)
        · exact .inr ⟨by omega, by simp; omega⟩
      rcases h7 : M.isSym [b] with _ | _
      · rw [h7, if_neg (by decide)] at hal
        have HW := hid (fun w => words_byte b hal w)
        have HS := hid (fun w => symbol_n [b] (by simp) w)
        rw [h7] at HS
        clear hal h6 h7 hd
        rcases hdc with d1 | ⟨d1, d2⟩
        all_goals
          go_enter Try.func6, Try.ntmps6
          go_wp2_with fail
          refine (known_n _).mono ?_
          rintro e w1 ⟨rfl, hb⟩
          have E := hid hb
          clear hb
          have hcv := byte_new b w1
          go_wp2_with fail
          refine (HW.out _).mono ?_
          rintro e w2 ⟨v, rfl, hv, hb⟩
          replace E := hid ((E.out.alloc' _).trans hb)
          clear hb hcv
          obtain ⟨A, n, c, rfl, hn, -, hcm, -⟩ := hv
          obtain rfl : n = 0 := hn
          have hcv := byte_new b w2
          go_wp2_with fail
          refine (HS.out _).mono ?_
          rintro e w3 ⟨rfl, hb⟩
          replace E := hid ((E.out.alloc' _).trans hb)
          clear hb hcv
          go_wp2
          go_ret
          exact ⟨rfl, E.out⟩
      · rw [h7, if_pos rfl] at hal
        have HW := hid (fun w => words_byte b hal w)
        have HS := hid (fun w => symbol_n [b] (by simp) w)
        rw [h7] at HS
        clear hal h6 h7 hd
        rcases hdc with d1 | ⟨d1, d2⟩
        all_goals
          go_enter Try.func6, Try.ntmps6
          go_wp2_with fail
          refine (known_n _).mono ?_
          rintro e w1 ⟨rfl, hb⟩
          have E := hid hb
          clear hb
          have hcv := byte_new b w1
          go_wp2_with fail
          refine (HW.out _).mono ?_
          rintro e w2 ⟨v, rfl, hv, hb⟩
          replace E := hid ((E.out.alloc' _).trans hb)
          clear hb hcv
          obtain ⟨A, n, c, rfl, hn, hnc, hcm, hA⟩ := hv
          obtain rfl : n = 1 := hn
          have hc9 : c ≤ 9223372036854775807 := by unfold maxLen at hcm; omega
          obtain ⟨ad, rfl, hadb, hA2⟩ := hA (by simp)
          obtain ⟨c0, c1⟩ := hA2 0 _ rfl
          replace c0 : w2.cell? ad = some (.int .i64 4) := c0
          replace c1 : w2.cell? ⟨ad.block, ad.off + 1, none⟩ = some (.string ⟨#[b]⟩) := c1
          clear hA hA2
          have HC0 := hid c0
          have HC1 := hid c1
          clear c0 c1
          have hcv := byte_new b w2
          go_wp2_with fail
          refine (HS.out _).mono ?_
          rintro e w3 ⟨rfl, hb⟩
          have c0 := ((Ext.alloc w2 _).trans hb).cell HC0.out
          have c1 := ((Ext.alloc w2 _).trans hb).cell HC1.out
          replace E := hid ((E.out.alloc' _).trans hb)
          clear hb hcv
          go_wp2
          have e0 := ((Ext.refl w3).alloc' (.cells #[.int .u8 (b.toNat : Int)] 5)).cell c0
          have e1 := ((Ext.refl w3).alloc' (.cells #[.int .u8 (b.toNat : Int)] 5)).cell c1
          have hcv : (convert 38 9 (.slice (some ⟨w3.heap.size, 0, none⟩) 1 1)).run Try.prog (w3.alloc (.cells #[.int .u8 (b.toNat : Int)] 5)).drew = .ok (.string ⟨#[b]⟩) (w3.alloc (.cells #[.int .u8 (b.toNat : Int)] 5)).drew := byte_run b _ _ (by show (w3.alloc _).cell? _ = _; rw [World.cell?_alloc_new]; rfl)
          go_region
          go_wp2
          go_ret
          exact ⟨rfl, (E.out.alloc' _).drew'⟩
    · rw [h6, if_pos rfl] at hal
      have hd := M.dig_iff b
      rw [h6] at hd
      have hdc : 48 ≤ b.toNat ∧ b.toNat ≤ 57 := by simpa using hd.symm
      have d1 : 48 ≤ (b.toNat : Int) := by omega
      have d2 : (b.toNat : Int) ≤ 57 := by omega
      have HW := hid (fun w => words_byte b hal w)
      clear hal h6 hd hdc
      go_enter Try.func6, Try.ntmps6
      go_wp2_with fail
      refine (known_n _).mono ?_
      rintro e w1 ⟨rfl, hb⟩
      have E := hid hb
      clear hb
      have hcv := byte_new b w1
      go_wp2_with fail
      refine (HW.out _).mono ?_
      rintro e w2 ⟨v, rfl, hv, hb⟩
      replace E := hid ((E.out.alloc' _).trans hb)
      clear hb hcv
      obtain ⟨A, n, c, rfl, hn, hnc, hcm, hA⟩ := hv
      obtain rfl : n = 1 := hn
      have hc9 : c ≤ 9223372036854775807 := by unfold maxLen at hcm; omega
      obtain ⟨ad, rfl, hadb, hA2⟩ := hA (by simp)
      obtain ⟨c0, c1⟩ := hA2 0 _ rfl
      replace c0 : w2.cell? ad = some (.int .i64 3) := c0
      replace c1 : w2.cell? ⟨ad.block, ad.off + 1, none⟩ = some (.string ⟨#[b]⟩) := c1
      clear hA hA2
      go_wp2
      have e0 := ((Ext.refl w2).alloc' (.cells #[.int .u8 (b.toNat : Int)] 5)).cell c0
      have e1 := ((Ext.refl w2).alloc' (.cells #[.int .u8 (b.toNat : Int)] 5)).cell c1
      have hcv : (convert 38 9 (.slice (some ⟨w2.heap.size, 0, none⟩) 1 1)).run Try.prog (w2.alloc (.cells #[.int .u8 (b.toNat : Int)] 5)).drew = .ok (.string ⟨#[b]⟩) (w2.alloc (.cells #[.int .u8 (b.toNat : Int)] 5)).drew := byte_run b _ _ (by show (w2.alloc _).cell? _ = _; rw [World.cell?_alloc_new]; rfl)
      go_region
      go_wp2
      go_ret
      exact ⟨rfl, (E.out.alloc' _).drew'⟩
  · rw [h1, if_pos rfl] at hal
    have HW := hid (fun w => words_byte b hal w)
    have hcase : b = 32 ∨ b = 9 ∨ b = 10 ∨ b = 13 ∨ b = 59 := by
      rw [M.blank_iff] at h1; simpa [or_assoc] using h1
    clear h1 hal
    rcases hcase with rfl | rfl | rfl | rfl | rfl
    · go_enter Try.func6, Try.ntmps6
      go_wp2_with fail
      refine (known_n _).mono ?_
      rintro e w1 ⟨rfl, hb⟩
      have E := hid hb
      clear hb
      have hcv := byte_at 32 32 rfl w1
      go_wp2_with fail
      refine (HW.out _).mono ?_
      rintro e w2 ⟨v, rfl, hv, hb⟩
      replace E := hid ((E.out.alloc' _).trans hb)
      clear hb hcv
      obtain ⟨A, n, c, rfl, hn, -, hcm, -⟩ := hv
      obtain rfl : n = 0 := hn
      go_wp2
      go_ret
      exact ⟨rfl, E.out⟩
    · go_enter Try.func6, Try.ntmps6
      go_wp2_with fail
      refine (known_n _).mono ?_
      rintro e w1 ⟨rfl, hb⟩
      have E := hid hb
      clear hb
      have hcv := byte_at 9 9 rfl w1
      go_wp2_with fail
      refine (HW.out _).mono ?_
      rintro e w2 ⟨v, rfl, hv, hb⟩
      replace E := hid ((E.out.alloc' _).trans hb)
      clear hb hcv
      obtain ⟨A, n, c, rfl, hn, -, hcm, -⟩ := hv
      obtain rfl : n = 0 := hn
      go_wp2
      go_ret
      exact ⟨rfl, E.out⟩
    · go_enter Try.func6, Try.ntmps6
      go_wp2_with fail
      refine (known_n _).mono ?_
      rintro e w1 ⟨rfl, hb⟩
      have E := hid hb
      clear hb
      have hcv := byte_at 10 10 rfl w1
      go_wp2_with fail
      refine (HW.out _).mono ?_
      rintro e w2 ⟨v, rfl, hv, hb⟩
      replace E := hid ((E.out.alloc' _).trans hb)
      clear hb hcv
      obtain ⟨A, n, c, rfl, hn, -, hcm, -⟩ := hv
      obtain rfl : n = 0 := hn
      go_wp2
      go_ret
      exact ⟨rfl, E.out⟩
    · go_enter Try.func6, Try.ntmps6
      go_wp2_with fail
      refine (known_n _).mono ?_
      rintro e w1 ⟨rfl, hb⟩
      have E := hid hb
      clear hb
      have hcv := byte_at 13 13 rfl w1
      go_wp2_with fail
      refine (HW.out _).mono ?_
      rintro e w2 ⟨v, rfl, hv, hb⟩
      replace E := hid ((E.out.alloc' _).trans hb)
      clear hb hcv
      obtain ⟨A, n, c, rfl, hn, -, hcm, -⟩ := hv
      obtain rfl : n = 0 := hn
      go_wp2
      go_ret
      exact ⟨rfl, E.out⟩
    · go_enter Try.func6, Try.ntmps6
      go_wp2_with fail
      refine (known_n _).mono ?_
      rintro e w1 ⟨rfl, hb⟩
      have E := hid hb
      clear hb
      have hcv := byte_at 59 59 rfl w1
      go_wp2_with fail
      refine (HW.out _).mono ?_
      rintro e w2 ⟨v, rfl, hv, hb⟩
      replace E := hid ((E.out.alloc' _).trans hb)
      clear hb hcv
      obtain ⟨A, n, c, rfl, hn, -, hcm, -⟩ := hv
      obtain rfl : n = 0 := hn
      go_wp2
      go_ret
      exact ⟨rfl, E.out⟩
theorem lexBytes_walk (W : World) (c : Int) (hc : 0 ≤ c ∧ c ≤ 255) : Calls Try.prog 6 #[.int .u8 c] W (GivesB W true) := by
  obtain ⟨k, rfl⟩ : ∃ k : Nat, c = (k : Int) := ⟨c.toNat, by omega⟩
  have e : k = (UInt8.ofNat k).toNat := by simp; omega
  rw [e]
  exact lexBytes_b W _

set_option maxRecDepth 100000 in
theorem lexBytes_lifted (os : Os) (started : os.Started) (H : Type) (enc : TypeId × Value → H) :
    ReturnsInHanded {} Try.checked os 6 .any (Rows.lexBytesSpec.pre6 enc Try.prog Try.f6 Rows.lexBytesRow.domain false) (Rows.lexBytesSpec.post enc Try.prog Try.f6 false true false false) := by
  refine returnsInHanded_of_change (C := Try.checked) own started (by kernel_rfl) Try.func6
    (ChangeSpec.witness6 (enc := enc) (C := Try.checked) false ⟨#[], #[.int .u8 0], []⟩ 8 (by kernel_rfl) (by kernel_rfl) (by kernel_rfl) (by kernel_rfl)) ?_
  intro W base args ds gs before hval0 hW _ _
  have hval : ∀ (j : Nat) t v, Try.f6.params[j]? = some t → args[j]? = some v → Value.okWide Try.prog W .any base t v := hval0
  have hW' := hW
  obtain ⟨p, q, hA0, hV, rfl, hfz, hnd⟩ := hW
  have hA : DataW.TrodAll enc Try.prog W 0 (fun _ => true) true Try.f6.params.toList args.toList ds p := hA0
  rw [Try.params6] at hA hval
  obtain ⟨v0, vs0, d0, ds0, p0, q0, hargs, rfl, rfl, h0, r0⟩ := trodAll_cons hA
  obtain ⟨rfl, rfl, rfl⟩ := trodAll_nil r0
  obtain rfl : args = #[v0] := by cases args; simp_all
  obtain ⟨rfl, rfl⟩ := trodVars_none hV
  obtain ⟨a0, rfl, -, -, w0⟩ := open_int Try.underlying5 (hval 0 5 v0 rfl rfl) h0
  clear hA0 hval0
  refine (lexBytes_walk W a0 (u8_of_wf w0)).mono fun e W' ⟨he, hg⟩ => ?_
  subst he
  exact ⟨_, rfl, law_post hW' rfl rfl (by kernel_rfl) (by kernel_rfl) hg⟩

theorem lexBytes_over : Rows.lexBytesRow.holds Try.pinned (OpenSpec.ofChange Rows.lexBytesSpec) :=
  OpenClaim.holds_of_wide 6 Try.f6 rfl rfl rfl rfl rfl rfl rfl ⟨rfl, rfl, rfl, rfl, rfl⟩ rfl rfl rfl rfl rfl (by kernel_rfl) Try.func6 (by kernel_rfl)
    (of_decide_eq_true (by kernel_rfl)) (by unfold Func.isWrapper; first | (rw [if_pos (by decide +kernel)]; kernel_rfl) | (rw [if_neg (by decide +kernel)]; exact ⟨rfl, rfl⟩))
    (fun os started H enc _ => lexBytes_lifted os started H enc)

theorem lexBytes_proved : Rows.LexBytesSaid := lexBytes_over

end Go.Proofs.Ytmnchlikhbendaa
