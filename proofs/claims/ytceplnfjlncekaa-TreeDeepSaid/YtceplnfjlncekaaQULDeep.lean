/-
  WHAT: so many lists within one another, and one more; so many words in a list, and one more (TreeDeep).
  FOR EVERY INPUT: no condition.
-/
import Derived.Test.YtceplnfjlncekaaQTOpen
import Derived.Test.YtceplnfjlncekaaQUKnown
namespace Go.Proofs.Ytceplnfjlncekaa
set_option linter.unusedSimpArgs false
set_option linter.unusedVariables false
open Go.ChangeShapes Go.WideShapes Go.ChangeAt Go.RowKit

namespace M
theorem nest_isU {k : Nat} (h : k < 60) : isU (nest k) = true := by
 obtain ⟨h1, h2, h3⟩ := nest_parts k
 unfold isU
 rw [h1, h2, h3, decide_eq_true (by omega), decide_eq_true (by omega)]
 rfl
theorem read_nest {K : Nat} (h1 : 1 ≤ K) (h2 : K ≤ 61) : (K ≤ 60 ∧ readM (List.replicate K (1, []) ++ List.replicate K (2, [])) = ([nest (K - 1)], 2 * K, 0)) ∨ (K = 61 ∧ readM (List.replicate K (1, []) ++ List.replicate K (2, [])) = ([], 60, 15)) := by
 rcases Nat.lt_or_ge 60 K with h | h
 ·obtain rfl : K = 61 := by omega
  exact .inr ⟨rfl, readM_deep _⟩
 ·left
  refine ⟨h, ?_⟩
  obtain ⟨k, rfl⟩ : ∃ k, K = k + 1 := ⟨K - 1, by omega⟩
  have := readM_one (nest_isU (k := k) (by omega))
  rw [nest_wds] at this
  rw [this]
  simp; omega
theorem read_wide (m : Nat) : (m < 400 ∧ readM ((1, []) :: (List.replicate m (3, [49]) ++ [(2, [])])) = ([wide m], m + 2, 0)) ∨ (400 ≤ m ∧ readM ((1, []) :: (List.replicate m (3, [49]) ++ [(2, [])])) = ([], 400, 11)) := by
 rcases Nat.lt_or_ge m 400 with h | h
 ·left
  refine ⟨h, ?_⟩
  have := readM_one (wide_isU h)
  rw [wide_wds] at this
  rw [this]
  simp
 ·exact .inr ⟨h, readM_wide h _⟩
end M
/-- The one tree of a list. -/
theorem Kids.one {w : World} {t : M.T} {v : Value} (h : Kids w [t] v) : ∃ ad B d c, v = .slice (some ad) 1 c ∧ 1 ≤ c ∧ c ≤ 9223372036854775807 ∧ w.cell? ad = some (.bool t.list) ∧ w.cell? ⟨ad.block, ad.off + 1, none⟩ = some (.int .i64 t.tok.1) ∧ w.cell? ⟨ad.block, ad.off + 2, none⟩ = some (str t.tok.2) ∧ w.cell? ⟨ad.block, ad.off + 3, none⟩ = some (.slice B t.kids.length d)
 ∧ IsT w t (tv t.list t.tok B t.kids.length d) := by
 obtain ⟨A, c, rfl⟩ := h.shape
 replace h : Kids w [t] (.slice A 1 c) := h
 obtain ⟨h1, h2, h3⟩ := h.le
 obtain ⟨ad, u, B, d, rfl, hu, c0, c1, c2, c3, ht⟩ := h.get (k := 0) (by omega)
 obtain rfl : u = t := by simpa using hu.symm
 rw [Nat.zero_mul, Addr.add_zero'] at c0 c1 c2 c3
 exact ⟨ad, B, d, c, rfl, h2, by unfold maxLen at h3; omega, c0, c1, c2, c3, ht⟩
set_option maxHeartbeats 16000000 in
set_option maxRecDepth 100000 in
theorem treeDeep_walk (W : World) (a : Int) (ha : 0 ≤ a ∧ a ≤ 255) (b : Int) (hb : 0 ≤ b ∧ b ≤ 65535) : Calls Try.prog 6 #[.int .u8 a, .int .u16 b] W (GivesB W true) := by
 obtain ⟨ha0, ha1⟩ := ha
 obtain ⟨hb0, hb1⟩ := hb
 obtain ⟨r, hr⟩ : ∃ r : Nat, a % 3 = (r : Int) := ⟨(a % 3).toNat, by omega⟩
 obtain ⟨q, hq⟩ : ∃ q : Nat, b % 4 = (q : Int) := ⟨(b % 4).toNat, by omega⟩
 have hr3 : r < 3 := by omega
 have hq4 : q < 4 := by omega
 obtain ⟨K, hK⟩ : ∃ K, 59 + r = K := ⟨_, rfl⟩
 obtain ⟨m, hm⟩ : ∃ m, 398 + q = m := ⟨_, rfl⟩
 have hKi : 59 + (r : Int) = (K : Int) := by omega
 have hmi : 398 + (q : Int) = (m : Int) := by omega
 have hK1 : 1 ≤ K := by omega
 have hK2 : K ≤ 61 := by omega
 have hm2 : m ≤ 401 := by omega
 have HK := hid hK
 have HM := hid hm
 clear hK hm
 go_enter Try.func6, Try.ntmps6
 go_wp2_with fail
 refine (known9_n _).mono ?_
 rintro e w1 ⟨rfl, hx⟩
 have E := hid hx
 clear hx
 go_wp2_with fail
 clear hr
 go_loopw [6, 7] (fun x i wr => ∃ (k : Nat), i = .int .i64 (k : Int) ∧ k ≤ K ∧ Hid (OwnT W.heap.size wr x (List.replicate k (1, [])) ∧ Ext W wr)) (fun _ i _ => K - (intOf i).toNat)
 case atStart => exact ⟨0, rfl, Nat.zero_le _, OwnT.nil _ _, E.out⟩
 case round =>
  obtain ⟨k, rfl, hk, hR⟩ := hrel
  replace E := hid hR.out.2
  have HS := hid hR.out.1
  clear hR
  rcases Nat.lt_or_ge k K with hlt | hge
  ·have hlt' : (k : Int) < (K : Int) := by omega
   go_wp2_with (at_builtin; refine wpList_appT rfl (.tmp 29) (.tmp 31) rfl W.heap.size _ _ rfl (HS.out.alloc _) _ (1, []) rfl ?c0 ?c1 ?c2 ?c3 ?_)
   case c2 => simp; omega
   case c3 => have h1 := E.out.size; simp; omega
   intro v' w3 hown hbel
   have HOW := hid hown
   have HE := hid (show Ext W w3 from Below.trans (B := W.heap.size) (E.out.alloc' _) hbel)
   clear hown hbel
   go_wp2_with fail
   go_roundw
   case rel => exact ⟨k + 1, by simp, by omega, by rw [List.replicate_succ']; exact HOW.out, HE.out⟩
   case measure => simp [intOf]; omega
  obtain rfl : k = K := by omega
  go_wp2_with fail
  go_loopw [6, 8] (fun x i wr => ∃ (j : Nat), i = .int .i64 (j : Int) ∧ j ≤ k ∧ Hid (OwnT W.heap.size wr x (List.replicate k (1, []) ++ List.replicate j (2, [])) ∧ Ext W wr)) (fun _ i _ => k - (intOf i).toNat)
  case atStart => exact ⟨0, rfl, Nat.zero_le _, by simpa using HS.out, E.out⟩
  case round =>
   clear hk hge
   obtain ⟨j, rfl, hk, hR⟩ := hrel
   replace E := hid hR.out.2
   have HS := hid hR.out.1
   clear hR
   rcases Nat.lt_or_ge j k with hlt | hge
   ·have hlt' : (j : Int) < (k : Int) := by omega
    go_wp2_with (at_builtin; refine wpList_appT rfl (.tmp 38) (.tmp 40) rfl W.heap.size _ _ rfl (HS.out.alloc _) _ (2, []) rfl ?d0 ?d1 ?d2 ?d3 ?_)
    case d2 => simp; omega
    case d3 => have h1 := E.out.size; simp; omega
    intro v' w3 hown hbel
    have HOW := hid hown
    have HE := hid (show Ext W w3 from Below.trans (B := W.heap.size) (E.out.alloc' _) hbel)
    clear hown hbel
    go_wp2_with fail
    go_roundw
    case rel => exact ⟨j + 1, by simp, by omega, by rw [List.replicate_succ']; exact HOW.out, HE.out⟩
    case measure => simp [intOf]; omega
   obtain rfl : j = k := by omega
   have HRD := hid (read_t HS.out.list (by simp; omega))
   obtain ⟨R1, hR1⟩ : ∃ R1, M.readM (List.replicate j (1, []) ++ List.replicate j (2, [])) = R1 := ⟨_, rfl⟩
   have HR1 := hid hR1
   rw [hR1] at HRD
   clear hR1
   go_wp2_with fail
   refine HRD.out.mono ?_
   rintro e w4 ⟨v4, rfl, hv4, hx⟩
   have HV4 := hid hv4
   have E4 := hid (E.out.trans hx)
   clear hv4 hx HS HRD E
   go_wp2_with fail
   clear hq
   go_loopw [13, 14] (fun x i wr => ∃ (k : Nat), i = .int .i64 (k : Int) ∧ k ≤ m ∧ Hid (OwnT w4.heap.size wr x ((1, []) :: List.replicate k (3, [49])) ∧ Ext w4 wr)) (fun _ i _ => m - (intOf i).toNat)
   case atStart => exact ⟨0, rfl, Nat.zero_le _, OwnT.lit w4.heap.size w4 (1, []) (Nat.le_refl _), Ext.alloc _ _⟩
   case round =>
    obtain ⟨k, rfl, hkk, hR⟩ := hrel
    have E := hid hR.out.2
    have HS := hid hR.out.1
    clear hR
    rcases Nat.lt_or_ge k m with hlt | hge'
    ·have hlt' : (k : Int) < (m : Int) := by omega
     go_wp2_with (at_builtin; refine wpList_appT rfl (.tmp 59) (.tmp 61) rfl w4.heap.size _ _ rfl (HS.out.alloc _) _ (3, [49]) rfl ?g0 ?g1 ?g2 ?g3 ?_)
     case g2 => simp; omega
     case g3 => have h1 := E.out.size; simp; omega
     intro v' w3 hown hbel
     have HOW := hid hown
     have HE := hid (show Ext w4 w3 from Below.trans (B := w4.heap.size) (E.out.alloc' _) hbel)
     clear hown hbel
     go_wp2_with fail
     go_roundw
     case rel => exact ⟨k + 1, by simp, by omega, by rw [List.replicate_succ', ← List.cons_append]; exact HOW.out, HE.out⟩
     case measure => simp [intOf]; omega
    obtain rfl : k = m := by omega
    go_wp2_with (at_builtin; refine wpList_appT rfl (.tmp 63) (.tmp 65) rfl w4.heap.size _ _ rfl (HS.out.alloc _) _ (2, []) rfl ?f0 ?f1 ?f2 ?f3 ?_)
    case f2 => simp; omega
    case f3 => have h1 := E.out.size; simp; omega
    intro v' w5 hown hbel
    have HOW := hid hown
    replace E := hid (show Ext w4 w5 from Below.trans (B := w4.heap.size) (E.out.alloc' _) hbel)
    clear hown hbel HS
    have HRD := hid (read_t HOW.out.list (by simp; omega))
    obtain ⟨R2, hR2⟩ : ∃ R2, M.readM ((1, []) :: (List.replicate k (3, [49]) ++ [(2, [])])) = R2 := ⟨_, rfl⟩
    have HR2 := hid hR2
    rw [hR2] at HRD
    clear hR2
    go_wp2_with fail
    refine HRD.out.mono ?_
    rintro e w6 ⟨v6, rfl, hv6, hx⟩
    have HV6 := hid hv6
    replace E := hid (E.out.trans hx)
    clear hv6 hx HRD HOW
    have EF := hid (Ext.refl w6)
    rcases M.read_nest hK1 hK2 with ⟨hj, hn1⟩ | ⟨hj, hn1⟩
    ·obtain rfl := HR1.out.symm.trans hn1
     obtain ⟨ad, B, d, c, rfl, hc1, hc2, c0, c1, c2, c3, hT⟩ := (HV4.out.up E.out).one
     obtain ⟨L, hL⟩ : ∃ L, (M.nest (j - 1)).list = L := ⟨_, rfl⟩
     obtain ⟨TK, hTK⟩ : ∃ TK, (M.nest (j - 1)).tok = TK := ⟨_, rfl⟩
     obtain ⟨NK, hNK⟩ : ∃ NK, (M.nest (j - 1)).kids.length = NK := ⟨_, rfl⟩
     have HT := hid hT
     have HD1 := hid (show ∀ w', Ext w6 w' → Calls Try.prog 19 #[tv L TK B NK d] w' (GivesI w' (j : Int)) from fun w' e => by
      have := deep_t (M.nest (j - 1)) (HT.out.up e)
      rw [hL, hTK, hNK, (M.nest_parts _).2.1, show min (j - 1 + 1) 61 = j by omega] at this
      exact this)
     have HC1 := hid (show ∀ w', Ext w6 w' → Calls Try.prog 17 #[tv L TK B NK d] w' (GivesI w' (j : Int)) from fun w' e => by
      have := count_t (M.nest (j - 1)) (HT.out.up e)
      rw [hL, hTK, hNK, (M.nest_parts _).1, show min (j - 1 + 1) 401 = j by omega] at this
      exact this)
     rw [hL] at c0
     rw [hTK] at c1 c2
     rw [hNK] at c3
     have hj60 : decide (60 < (j : Int)) = false := by simp; omega
     clear hT hL hTK hNK hn1
     rcases M.read_wide k with ⟨hk4, hn2⟩ | ⟨hk4, hn2⟩
     ·obtain rfl := HR2.out.symm.trans hn2
      obtain ⟨ad', B', d', c', rfl, hc1', hc2', c0', c1', c2', c3', hT⟩ := HV6.out.one
      obtain ⟨L', hL⟩ : ∃ L, (M.wide k).list = L := ⟨_, rfl⟩
      obtain ⟨TK', hTK⟩ : ∃ TK, (M.wide k).tok = TK := ⟨_, rfl⟩
      obtain ⟨NK', hNK⟩ : ∃ NK, (M.wide k).kids.length = NK := ⟨_, rfl⟩
      obtain ⟨y, hy⟩ : ∃ y, k + 1 = y := ⟨_, rfl⟩
      have hyi : (k : Int) + 1 = (y : Int) := by omega
      have hy4 : decide (400 < (y : Int)) = false := by simp; omega
      have HT' := hid hT
      have HC2 := hid (show ∀ w', Ext w6 w' → Calls Try.prog 17 #[tv L' TK' B' NK' d'] w' (GivesI w' (y : Int)) from fun w' e => by
       have := count_t (M.wide k) (HT'.out.up e)
       rw [hL, hTK, hNK, M.wide_cnt, show min (k + 1) 401 = y by omega] at this
       exact this)
      rw [hL] at c0'
      rw [hTK] at c1' c2'
      rw [hNK] at c3'
      have HY := hid hy
      clear hT hL hTK hNK hn2 hy hk4
      go_wp2_with (first | (go_at_call 19; refine (HD1.out _ EF.out).mono ?_; rintro e w' ⟨rfl, hx⟩; replace EF := hid (EF.out.trans hx); replace c0 := hx.cell c0; replace c1 := hx.cell c1; replace c2 := hx.cell c2; replace c3 := hx.cell c3; replace c0' := hx.cell c0'; replace c1' := hx.cell c1'; replace c2' := hx.cell c2'; replace c3' := hx.cell c3'; clear hx) | (go_at_call 17; first | (refine (HC1.out _ EF.out).mono ?_; rintro e w' ⟨rfl, hx⟩; replace EF := hid (EF.out.trans hx); replace c0' := hx.cell c0'; replace c1' := hx.cell c1'; replace c2' := hx.cell c2'; replace c3' := hx.cell c3'; clear hx) | (refine (HC2.out _ EF.out).mono ?_; rintro e w' ⟨rfl, hx⟩; replace EF := hid (EF.out.trans hx); clear hx)))
      go_ret
      exact ⟨rfl, (E4.out.trans E.out).trans EF.out⟩
     ·obtain rfl := HR2.out.symm.trans hn2
      obtain ⟨A6, c6, rfl⟩ := HV6.out.shape
      obtain ⟨y, hy⟩ : ∃ y, k + 1 = y := ⟨_, rfl⟩
      have hyi : (k : Int) + 1 = (y : Int) := by omega
      have hy4 : (400 < (y : Int)) := by omega
      have HY := hid hy
      clear hn2 hy hk4
      go_wp2_with (first | (go_at_call 19; refine (HD1.out _ EF.out).mono ?_; rintro e w' ⟨rfl, hx⟩; replace EF := hid (EF.out.trans hx); replace c0 := hx.cell c0; replace c1 := hx.cell c1; replace c2 := hx.cell c2; replace c3 := hx.cell c3; clear hx) | (go_at_call 17; refine (HC1.out _ EF.out).mono ?_; rintro e w' ⟨rfl, hx⟩; replace EF := hid (EF.out.trans hx); clear hx))
      go_ret
      exact ⟨rfl, (E4.out.trans E.out).trans EF.out⟩
    ·subst hj
     obtain rfl := HR1.out.symm.trans hn1
     obtain ⟨A4, c4, rfl⟩ := HV4.out.shape
     clear hn1
     rcases M.read_wide k with ⟨hk4, hn2⟩ | ⟨hk4, hn2⟩
     ·obtain rfl := HR2.out.symm.trans hn2
      obtain ⟨ad', B', d', c', rfl, hc1', hc2', c0', c1', c2', c3', hT⟩ := HV6.out.one
      obtain ⟨L', hL⟩ : ∃ L, (M.wide k).list = L := ⟨_, rfl⟩
      obtain ⟨TK', hTK⟩ : ∃ TK, (M.wide k).tok = TK := ⟨_, rfl⟩
      obtain ⟨NK', hNK⟩ : ∃ NK, (M.wide k).kids.length = NK := ⟨_, rfl⟩
      obtain ⟨y, hy⟩ : ∃ y, k + 1 = y := ⟨_, rfl⟩
      have hyi : (k : Int) + 1 = (y : Int) := by omega
      have hy4 : decide (400 < (y : Int)) = false := by simp; omega
      have HT' := hid hT
      have HC2 := hid (show ∀ w', Ext w6 w' → Calls Try.prog 17 #[tv L' TK' B' NK' d'] w' (GivesI w' (y : Int)) from fun w' e => by
       have := count_t (M.wide k) (HT'.out.up e)
       rw [hL, hTK, hNK, M.wide_cnt, show min (k + 1) 401 = y by omega] at this
       exact this)
      rw [hL] at c0'
      rw [hTK] at c1' c2'
      rw [hNK] at c3'
      have HY := hid hy
      clear hT hL hTK hNK hn2 hy hk4
      go_wp2_with (go_at_call 17; refine (HC2.out _ EF.out).mono ?_; rintro e w' ⟨rfl, hx⟩; replace EF := hid (EF.out.trans hx); clear hx)
      go_ret
      exact ⟨rfl, (E4.out.trans E.out).trans EF.out⟩
     ·obtain rfl := HR2.out.symm.trans hn2
      obtain ⟨A6, c6, rfl⟩ := HV6.out.shape
      obtain ⟨y, hy⟩ : ∃ y, k + 1 = y := ⟨_, rfl⟩
      have hyi : (k : Int) + 1 = (y : Int) := by omega
      have hy4 : (400 < (y : Int)) := by omega
      have HY := hid hy
      clear hn2 hy hk4
      go_wp2
      go_ret
      exact ⟨rfl, (E4.out.trans E.out).trans EF.out⟩

set_option maxRecDepth 100000 in
theorem treeDeep_lifted (os : Os) (started : os.Started) (H : Type) (enc : TypeId × Value → H) :
 ReturnsInHanded {} Try.checked os 6 .any (Rows.treeDeepSpec.pre6 enc Try.prog Try.f6 Rows.treeDeepRow.domain false) (Rows.treeDeepSpec.post enc Try.prog Try.f6 false true false false) := by
 refine returnsInHanded_of_change (C := Try.checked) own started (by kernel_rfl) Try.func6
  (ChangeSpec.witness6 (enc := enc) (C := Try.checked) false ⟨#[], #[.int .u8 0, .int .u16 0], []⟩ 8 (by kernel_rfl) (by kernel_rfl) (by kernel_rfl) (by kernel_rfl)) ?_
 intro W base args ds gs before hval0 hW _ _
 have hval : ∀ (j : Nat) t v, Try.f6.params[j]? = some t → args[j]? = some v → Value.okWide Try.prog W .any base t v := hval0
 have hW' := hW
 obtain ⟨p, q, hA0, hV, rfl, hfz, hnd⟩ := hW
 have hA : DataW.TrodAll enc Try.prog W 0 (fun _ => true) true Try.f6.params.toList args.toList ds p := hA0
 rw [Try.params6] at hA hval
 obtain ⟨v0, vs0, d0, ds0, p0, q0, hargs, rfl, rfl, h0, r0⟩ := trodAll_cons hA
 obtain ⟨v1, vs1, d1, ds1, p1, q1, rfl, rfl, rfl, h1, r1⟩ := trodAll_cons r0
 obtain ⟨rfl, rfl, rfl⟩ := trodAll_nil r1
 obtain rfl : args = #[v0, v1] := by cases args; simp_all
 obtain ⟨rfl, rfl⟩ := trodVars_none hV
 obtain ⟨a0, rfl, -, -, w0⟩ := open_int Try.underlying5 (hval 0 5 v0 rfl rfl) h0
 obtain ⟨a1, rfl, -, -, w1⟩ := open_int Try.underlying42 (hval 1 42 v1 rfl rfl) h1
 clear hA0 hval0
 refine (treeDeep_walk W a0 (u8_of_wf w0) a1 (u16_of_wf w1)).mono fun e W' ⟨he, hg⟩ => ?_
 subst he
 exact ⟨_, rfl, law_post hW' rfl rfl (by kernel_rfl) (by kernel_rfl) hg⟩

theorem treeDeep_over : Rows.treeDeepRow.holds Try.pinned (OpenSpec.ofChange Rows.treeDeepSpec) :=
 OpenClaim.holds_of_wide 6 Try.f6 rfl rfl rfl rfl rfl rfl rfl ⟨rfl, rfl, rfl, rfl, rfl⟩ rfl rfl rfl rfl rfl (by kernel_rfl) Try.func6 (by kernel_rfl)
  (of_decide_eq_true (by kernel_rfl)) (by unfold Func.isWrapper; first | (rw [if_pos (by decide +kernel)]; kernel_rfl) | (rw [if_neg (by decide +kernel)]; exact ⟨rfl, rfl⟩))
  (fun os started H enc _ => treeDeep_lifted os started H enc)

theorem treeDeep_proved : Rows.TreeDeepSaid := treeDeep_over

end Go.Proofs.Ytceplnfjlncekaa
