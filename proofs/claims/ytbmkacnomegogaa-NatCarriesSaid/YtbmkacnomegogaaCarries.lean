/-
  NatCarries: whatever number of 8 bits: true, and the input reads as it did. No conditions.
-/
import Derived.Test.YtbmkacnomegogaaLaw
import Derived.ProofKit
import Derived.OpenShut
import Derived.Carry
namespace Go.Proofs.Ytbmkacnomegogaa
open Go.ChangeShapes Go.WideShapes Go.ChangeAt Go.RowKit

theorem val_nines (k : Nat) : M.val (List.replicate k 999999999) + 1 = 1000000000 ^ k := by
  induction k with
  | zero => rfl
  | succ k ih => rw [List.replicate_succ, M.val, Nat.pow_succ]; omega
theorem limbs_nines {k : Nat} (hk : 0 < k) : M.limbs (M.val (List.replicate k 999999999)) = List.replicate k 999999999 := by
  apply M.limbs_val
  · rw [M.small_iff]; intro x hx; have := List.eq_of_mem_replicate hx; omega
  · rw [List.getLast?_replicate, if_neg (by omega)]; simp
theorem limbs_one_up (k : Nat) : M.limbs (M.val (List.replicate k 999999999) + 1) = List.replicate k 0 ++ [1] := by
  have h : M.val (List.replicate k 999999999) + 1 = M.val (List.replicate k 0 ++ [1]) := by
    rw [val_nines, M.val_append, M.val_replicate, List.length_replicate]; simp [M.val]
  rw [h]
  apply M.limbs_val
  · rw [M.small_append]; exact ⟨M.small_replicate k, rfl⟩
  · simp
theorem up_get {k i x : Nat} (h : (List.replicate k 0 ++ [1])[i]? = some x) : (i < k → x = 0) ∧ (i = k → x = 1) := by
  constructor
  · intro hi
    rw [List.getElem?_append_left (by simpa using hi), List.getElem?_replicate, if_pos hi] at h
    injection h with h; exact h.symm
  · rintro rfl
    rw [List.getElem?_append_right (by simp)] at h
    simp at h; exact h.symm
theorem square (p : Nat) : p * p + (p + (p + 1)) = (p + 1) * (p + 1) := by rw [Nat.add_mul, Nat.mul_add]; omega

set_option maxHeartbeats 4000000 in
theorem natCarries_walk (W : World) (n : Int) (wn8 : (Lit.int .u8 n).wf = true) :
    Calls Try.prog 7 #[.int .u8 n] W fun e w' => e = .returned (.bool true) ∧ Ext W w' := by
  have hn : 0 ≤ n ∧ n ≤ 255 := by simpa [Lit.wf, IntKind.min, IntKind.max, IntKind.signed, IntKind.bits] using wn8
  clear wn8
  obtain ⟨K, hK, hK1, hK2⟩ : ∃ K : Nat, n % 30 + 1 = (K : Int) ∧ 1 ≤ K ∧ K ≤ 30 := ⟨(n % 30 + 1).toNat, by omega, by omega, by omega⟩
  go_enter Try.func7, Try.ntmps7
  go_wp2_with fail
  refine (known_any _).mono ?_
  rintro e wn ⟨rfl, hb⟩
  have E := hid hb
  clear hb 
  go_wp2
  clear hK
  go_loopw [4, 5] (fun v i wr => ∃ t : Nat, t ≤ K ∧ i = .int .i64 (t : Int) ∧ Own wn.heap.size wr v (List.replicate t 999999999) ∧ Ext wn wr) (fun _ i _ => K - (intOf i).toNat)
  case atStart => exact ⟨0, Nat.zero_le _, rfl, Own.nil _ _, Ext.refl _⟩
  case round =>
    obtain ⟨t, ht, rfl, hown, hext⟩ := hrel
    have HO := hid hown
    have HX := hid hext
    clear hown hext
    by_cases hlt : t < K
    · go_wp2_with (at_builtin; refine wpList_app1 rfl (.tmp 20) (.tmp 21) rfl wn.heap.size _ _ rfl (HO.out.alloc _) wr.heap.size 999999999 rfl ?c1 ?c3 ?c4 ?c5 ?_)
      case c1 => simp [go_sem]
      case c3 => omega
      case c4 => simp; omega
      case c5 => have := HX.out.size; simp; omega
      intro v' w' hown' hgrow
      have HO' := hid hown'
      have HG := hid hgrow
      clear hown' hgrow
      go_wp2
      go_roundw
      case rel =>
        refine ⟨t + 1, by omega, by go_num, by rw [List.replicate_succ']; exact HO'.out, ?_⟩
        have hz := HX.out.size
        exact (HX.out.trans (Ext.alloc _ _)).below.trans ((HO.out.alloc _).below HG.out (Nat.le_refl _) (by simp; omega))
      case measure => simp [intOf]; all_goals omega
    · obtain rfl : t = K := by omega
      have hp := HO.out.num
      rw [← limbs_nines (by omega)] at hp
      have hq := limbs_one_up t
      have hlen : (M.limbs (M.val (List.replicate t 999999999))).length ≤ 30 := by rw [limbs_nines (by omega)]; simp; omega
      obtain ⟨p, hpp⟩ : ∃ p, p = M.val (List.replicate t 999999999) := ⟨_, rfl⟩
      rw [← hpp] at hp hq hlen
      have A := hid (show IsN wr _ p 30 from ⟨hp, hlen⟩)
      have HQ := hid hq
      replace E := hid (E.out.trans HX.out)
      clear hp hq hlen hpp HO HX
      go_wp2_with fail
      refine (of_n 1 (by omega) _).mono ?_
      rintro e wn ⟨vB, rfl, bx, hb⟩
      replace A := hid (A.out.up hb)
      replace E := hid (E.out.trans hb)
      have B := hid bx
      clear hb bx
      go_wp2_with fail
      refine (add_n A.out B.out (by omega) (by omega)).mono ?_
      rintro e wn ⟨vS, rfl, sx, hb⟩
      replace A := hid (A.out.up hb)
      replace B := hid (B.out.up hb)
      replace E := hid (E.out.trans hb)
      have S := hid sx
      clear hb sx
      clear B
      have hs := S.out.1
      rw [HQ.out] at hs
      obtain ⟨AS, nS, cS, rfl, hnS, hcS, hmS, hsS, hrS⟩ := hs
      obtain rfl : nS = t + 1 := by rw [hnS]; simp
      obtain ⟨ad, x, rfl, had, hx, hcell⟩ := hrS.get (k := t) (by simp)
      obtain rfl : x = 1 := (up_get hx.out).2 rfl
      have HR := hid hrS
      have hcell1 : wn.cell? (ad.add t) = some (.int .u32 1) := hcell
      clear hnS hcS hmS hsS hrS had hx hcell
      go_wp2
      clear hcell1
      go_loop [7] (fun i => ∃ q : Nat, q ≤ t ∧ i = .int .i64 (q : Int)) (fun i => t - (intOf i).toNat)
      case atStart => exact ⟨0, Nat.zero_le _, rfl⟩
      case round =>
        obtain ⟨q, hq, rfl⟩ := hrel
        by_cases hlt2 : q < t
        · obtain ⟨ad', x, e, _, hx, hcell⟩ := HR.out.get (k := q) (by simp; omega)
          injection e with e
          subst e
          obtain rfl : x = 0 := (up_get hx.out).1 hlt2
          have hcell0 : wn.cell? (ad.add q) = some (.int .u32 0) := hcell
          clear hx hcell
          go_wp2
          go_round
          case rel => exact ⟨q + 1, by omega, by go_num⟩
          case measure => simp [intOf]; all_goals omega
        · clear hlt
          go_wp2_with fail
          refine (mul_n A.out A.out (by omega) (by omega) (by omega)).mono ?_
          rintro e wn ⟨vC, rfl, cx, hb⟩
          replace A := hid (A.out.up hb)
          replace S := hid (S.out.up hb)
          replace E := hid (E.out.trans hb)
          have C := hid cx
          clear hb cx
          go_wp2_with fail
          refine (of_n 1 (by omega) _).mono ?_
          rintro e wn ⟨vB, rfl, bx, hb⟩
          replace A := hid (A.out.up hb)
          replace S := hid (S.out.up hb)
          replace C := hid (C.out.up hb)
          replace E := hid (E.out.trans hb)
          have B := hid bx
          clear hb bx
          go_wp2_with fail
          refine (sub_n S.out B.out (by omega)).mono ?_
          rintro e wn ⟨vT, rfl, tx, hb⟩
          replace A := hid (A.out.up hb)
          replace S := hid (S.out.up hb)
          replace C := hid (C.out.up hb)
          replace B := hid (B.out.up hb)
          replace E := hid (E.out.trans hb)
          have T := hid tx
          clear hb tx
          clear B
          go_wp2_with fail
          refine (cmp_n T.out A.out (z := 0) (M.cmp_zero.2 (by omega))).mono ?_
          rintro e wn ⟨rfl, hb⟩
          replace A := hid (A.out.up hb)
          replace S := hid (S.out.up hb)
          replace C := hid (C.out.up hb)
          replace T := hid (T.out.up hb)
          replace E := hid (E.out.trans hb)
          clear hb 
          clear T
          go_wp2_with fail
          refine (add_n A.out S.out (by omega) (by omega)).mono ?_
          rintro e wn ⟨vT, rfl, tx, hb⟩
          replace A := hid (A.out.up hb)
          replace S := hid (S.out.up hb)
          replace C := hid (C.out.up hb)
          replace E := hid (E.out.trans hb)
          have T := hid tx
          clear hb tx
          go_wp2_with fail
          refine (add_n C.out T.out (by omega) (by omega)).mono ?_
          rintro e wn ⟨vD, rfl, dx, hb⟩
          replace A := hid (A.out.up hb)
          replace S := hid (S.out.up hb)
          replace C := hid (C.out.up hb)
          replace T := hid (T.out.up hb)
          replace E := hid (E.out.trans hb)
          have D := hid dx
          clear hb dx
          clear C T
          go_wp2_with fail
          refine (mul_n S.out S.out (by omega) (by omega) (by omega)).mono ?_
          rintro e wn ⟨vT, rfl, tx, hb⟩
          replace A := hid (A.out.up hb)
          replace S := hid (S.out.up hb)
          replace D := hid (D.out.up hb)
          replace E := hid (E.out.trans hb)
          have T := hid tx
          clear hb tx
          go_wp2_with fail
          refine (cmp_n D.out T.out (z := 0) (M.cmp_zero.2 (square p))).mono ?_
          rintro e wn ⟨rfl, hb⟩
          replace A := hid (A.out.up hb)
          replace S := hid (S.out.up hb)
          replace D := hid (D.out.up hb)
          replace T := hid (T.out.up hb)
          replace E := hid (E.out.trans hb)
          clear hb 
          clear D T
          go_wp2
          go_ret
          exact ⟨rfl, E.out⟩

set_option maxRecDepth 100000 in
theorem natCarries_lifted (os : Os) (started : os.Started) (H : Type) (enc : TypeId × Value → H) :
    ReturnsInHanded {} Try.checked os 7 .any (Rows.natCarriesSpec.pre6 enc Try.prog Try.f7 Rows.natCarriesRow.domain false) (Rows.natCarriesSpec.post enc Try.prog Try.f7 false true false false) := by
  refine returnsInHanded_of_change (C := Try.checked) own started (by kernel_rfl) Try.func7
    (ChangeSpec.witness6 (enc := enc) (C := Try.checked) false ⟨#[], #[.int .u8 0], []⟩ 8 (by kernel_rfl) (by kernel_rfl) (by kernel_rfl) (by kernel_rfl)) ?_
  intro W base args ds gs before hval0 hW _ _
  have hval : ∀ (j : Nat) t v, Try.f7.params[j]? = some t → args[j]? = some v → Value.okWide Try.prog W .any base t v := hval0
  have hW' := hW
  obtain ⟨p, q, hA0, hV, rfl, hfz, hnd⟩ := hW
  have hA : DataW.TrodAll enc Try.prog W 0 (fun _ => true) true Try.f7.params.toList args.toList ds p := hA0
  rw [Try.params7] at hA hval
  obtain ⟨v0, vs0, d0, ds0, p0, q0, hargs, rfl, rfl, h0, r0⟩ := trodAll_cons hA
  obtain ⟨rfl, rfl, rfl⟩ := trodAll_nil r0
  obtain rfl : args = #[v0] := by cases args; simp_all
  obtain ⟨rfl, rfl⟩ := trodVars_none hV
  obtain ⟨a0, rfl, -, -, w0⟩ := open_int Try.underlying5 (hval 0 5 v0 rfl rfl) h0
  clear hA0 hval0
  refine (natCarries_walk W a0 w0).mono fun e W' ⟨he, hg⟩ => ?_
  subst he
  exact ⟨_, rfl, law_post hW' rfl rfl (by kernel_rfl) (by kernel_rfl) hg⟩

theorem natCarries_over : Rows.natCarriesRow.holds Try.pinned (OpenSpec.ofChange Rows.natCarriesSpec) :=
  OpenClaim.holds_of_wide 7 Try.f7 rfl rfl rfl rfl rfl rfl rfl ⟨rfl, rfl, rfl, rfl, rfl⟩ rfl rfl rfl rfl rfl (by kernel_rfl) Try.func7 (by kernel_rfl)
    (of_decide_eq_true (by kernel_rfl)) (by unfold Func.isWrapper; first | (rw [if_pos (by decide +kernel)]; kernel_rfl) | (rw [if_neg (by decide +kernel)]; exact ⟨rfl, rfl⟩))
    (fun os started H enc _ => natCarries_lifted os started H enc)

theorem natCarries_proved : Rows.NatCarriesSaid := natCarries_over

end Go.Proofs.Ytbmkacnomegogaa
