/-
  NatPowers: whatever number of 8 bits: true, and the input reads as it did. No conditions.
-/
import Derived.Test.YtbmkacnomegogaaLaw
import Derived.ProofKit
import Derived.OpenShut
import Derived.Carry
namespace Go.Proofs.Ytbmkacnomegogaa
open Go.ChangeShapes Go.WideShapes Go.ChangeAt Go.RowKit

theorem ten_lt {t : Nat} (h : t < 60) : 10 ^ t < 1000000000 ^ 7 := by
  have : 10 ^ t ≤ 10 ^ 59 := Nat.pow_le_pow_right (by omega) (by omega)
  exact Nat.lt_of_le_of_lt this (by decide)
theorem limbs_ten {d r : Nat} (hr : r < 9) : M.limbs (10 ^ (9 * d + r)) = List.replicate d 0 ++ [10 ^ r] := by
  have h1 : 10 ^ r ≤ 10 ^ 8 := Nat.pow_le_pow_right (by omega) (by omega)
  have h2 : 0 < 10 ^ r := Nat.pow_pos (by omega)
  have h : 10 ^ (9 * d + r) = M.val (List.replicate d 0 ++ [10 ^ r]) := by
    rw [M.val_append, M.val_replicate, List.length_replicate, Nat.pow_add, Nat.pow_mul]
    simp [M.val]
  rw [h]
  apply M.limbs_val
  · rw [M.small_append]
    refine ⟨M.small_replicate d, ?_⟩
    rw [M.small_iff]; intro x hx; simp at hx; subst hx; omega
  · simp
theorem ten_get {d i x y : Nat} (h : (List.replicate d 0 ++ [y])[i]? = some x) : (i < d → x = 0) ∧ (i = d → x = y) := by
  constructor
  · intro hi
    rw [List.getElem?_append_left (by simpa using hi), List.getElem?_replicate, if_pos hi] at h
    injection h with h; exact h.symm
  · rintro rfl
    rw [List.getElem?_append_right (by simp)] at h
    simp at h; exact h.symm
theorem IsN.fit {w : World} {v : Value} {N N' k : Nat} (h : IsN w v N k) (e : N = N') {j : Nat} (hj : N' < 1000000000 ^ j) : IsN w v N' j := by
  subst e; exact ⟨h.1, M.limbs_length_le hj⟩

set_option maxHeartbeats 4000000 in
theorem natPowers_walk (W : World) (n : Int) (wn8 : (Lit.int .u8 n).wf = true) :
    Calls Try.prog 6 #[.int .u8 n] W fun e w' => e = .returned (.bool true) ∧ Ext W w' := by
  have hn : 0 ≤ n ∧ n ≤ 255 := by simpa [Lit.wf, IntKind.min, IntKind.max, IntKind.signed, IntKind.bits] using wn8
  clear wn8
  obtain ⟨K, hK, hK2⟩ : ∃ K : Nat, n % 60 = (K : Int) ∧ K < 60 := ⟨(n % 60).toNat, by omega, by omega⟩
  obtain ⟨d, hd⟩ : ∃ d : Nat, d = K / 9 := ⟨_, rfl⟩
  obtain ⟨r, hr⟩ : ∃ r : Nat, r = K % 9 := ⟨_, rfl⟩
  have hdI : (K : Int) / 9 = (d : Int) := by omega
  have hrI : (K : Int) % 9 = (r : Int) := by omega
  have hr9 : r < 9 := by omega
  have hd9 : d ≤ 6 := by omega
  have HKD := hid (show K = 9 * d + r by omega)
  clear hd hr
  go_enter Try.func6, Try.ntmps6
  go_wp2_with fail
  refine (known_any _).mono ?_
  rintro e wn ⟨rfl, hb⟩
  have E := hid hb
  clear hb 
  go_wp2_with fail
  refine (of_n 1 (by omega) _).mono ?_
  rintro e wn ⟨vO, rfl, ox, hb⟩
  replace E := hid (E.out.trans hb)
  have O := hid ox
  clear hb ox
  go_wp2
  clear hK
  go_loopw [4, 5] (fun v i wr => ∃ t : Nat, t ≤ K ∧ i = .int .i64 (t : Int) ∧ IsN wr v (10 ^ t) 7 ∧ Ext wn wr) (fun _ i _ => K - (intOf i).toNat)
  case atStart => exact ⟨0, Nat.zero_le _, rfl, O.out.fit (by rfl) (ten_lt (by omega)), Ext.refl _⟩
  case round =>
    obtain ⟨t, ht, rfl, ho, hext⟩ := hrel
    have T := hid ho
    have HX := hid hext
    clear ho hext
    by_cases hlt : t < K
    · skip
      go_wp2_with fail
      refine (of_n 10 (by omega) _).mono ?_
      rintro e wn ⟨vB, rfl, bx, hb⟩
      replace T := hid (T.out.up hb)
      replace HX := hid (HX.out.trans hb)
      have B := hid bx
      clear hb bx
      go_wp2_with fail
      refine (mul_n T.out B.out (by omega) (by omega) (by omega)).mono ?_
      rintro e wn ⟨vC, rfl, cx, hb⟩
      replace T := hid (T.out.up hb)
      replace B := hid (B.out.up hb)
      replace HX := hid (HX.out.trans hb)
      have C := hid cx
      clear hb cx
      clear T B
      go_wp2
      go_roundw
      case rel => exact ⟨t + 1, by omega, by go_num, C.out.fit (by rw [Nat.pow_succ]) (ten_lt (by omega)), HX.out⟩
      case measure => simp [intOf]; all_goals omega
    · obtain rfl : t = K := by omega
      replace E := hid (E.out.trans HX.out)
      clear HX O hlt
      have hq := limbs_ten (d := d) hr9
      rw [← HKD.out] at hq
      have HQ := hid hq
      have hs := T.out.1
      rw [hq] at hs
      obtain ⟨AS, nS, cS, rfl, hnS, hcS, hmS, hsS, hrS⟩ := hs
      obtain rfl : nS = d + 1 := by rw [hnS]; simp
      have HR := hid hrS
      clear hq hnS hcS hmS hsS hrS
      go_wp2
      go_loop [6, 7] (fun s i => ∃ q y : Nat, q ≤ r ∧ i = .int .i64 (q : Int) ∧ s = .int .u32 (y : Int) ∧ y = 10 ^ q) (fun _ i => r - (intOf i).toNat)
      case atStart => exact ⟨0, 1, Nat.zero_le _, rfl, rfl, rfl⟩
      case round =>
        obtain ⟨q, y, hq, rfl, rfl, hy⟩ := hrel
        have HY := hid hy
        clear hy
        by_cases hlt : q < r
        · have hy9 : y ≤ 10000000 := by rw [HY.out]; exact Nat.le_trans (Nat.pow_le_pow_right (by omega) (show q ≤ 7 by omega)) (by decide)
          go_wp2
          go_round
          case rel => exact ⟨q + 1, 10 * y, by omega, by go_num, by go_num, by rw [HY.out, Nat.pow_succ, Nat.mul_comm]⟩
          case measure => simp [intOf]; all_goals omega
        · obtain rfl : q = r := by omega
          clear hlt hq
          go_wp2
          go_loop [8] (fun i => ∃ i0 : Nat, i0 ≤ d ∧ i = .int .i64 (i0 : Int)) (fun i => d - (intOf i).toNat)
          case atStart => exact ⟨0, Nat.zero_le _, rfl⟩
          case round =>
            obtain ⟨i0, hi0, rfl⟩ := hrel
            by_cases hlt2 : i0 < d
            · obtain ⟨ad, x, rfl, _, hx, hcell⟩ := HR.out.get (k := i0) (by simp; omega)
              obtain rfl : x = 0 := (ten_get hx.out).1 hlt2
              have hcell0 : wr.cell? (ad.add i0) = some (.int .u32 0) := hcell
              clear hx hcell
              go_wp2
              go_round
              case rel => exact ⟨i0 + 1, by omega, by go_num⟩
              case measure => simp [intOf]; all_goals omega
            · obtain rfl : i0 = d := by omega
              clear hlt2 HR
              go_wp2_with fail
              refine (of_n 10 (by omega) _).mono ?_
              rintro e wn ⟨vB, rfl, bx, hb⟩
              replace T := hid (T.out.up hb)
              replace E := hid (E.out.trans hb)
              have B := hid bx
              clear hb bx
              go_wp2_with fail
              refine (div1_n T.out B.out (by omega) (by omega)).mono ?_
              rintro e wn ⟨vQ, vR, rfl, qx, rx, hb⟩
              replace T := hid (T.out.up hb)
              replace B := hid (B.out.up hb)
              replace E := hid (E.out.trans hb)
              have Q := hid qx
              have R := hid rx
              clear hb qx rx
              clear B
              have hs := T.out.1
              rw [HQ.out] at hs
              obtain ⟨AS2, nS, cS2, he, hnS, hcS, hmS, hsS, hrS⟩ := hs
              injection he with he1 he2 he3
              subst he1 he3
              obtain ⟨ad, x, rfl, _, hx, hcell⟩ := hrS.get (k := i0) (by simp)
              obtain rfl : x = y := by rw [(ten_get hx.out).2 rfl, HY.out]
              have H1 : Hid (i0 + 1 = nS) := he2
              clear he2 hnS hcS hmS hsS hrS hx
              by_cases h0 : t = 0
              · subst h0
                obtain ⟨AQ, nQ, cQ, e, hnQ, _⟩ := Q.out.1
                subst e
                obtain rfl : nQ = 0 := by rw [hnQ]; simp [M.limbs]
                clear Q hnQ
                go_wp2_with fail
                refine (of_n 1 (by omega) _).mono ?_
                rintro e wn ⟨vB, rfl, bx, hb⟩
                replace T := hid (T.out.up hb)
                replace R := hid (R.out.up hb)
                replace E := hid (E.out.trans hb)
                have B := hid bx
                clear hb bx
                go_wp2_with fail
                refine (cmp_n R.out B.out (z := 0) (by decide)).mono ?_
                rintro e wn ⟨rfl, hb⟩
                replace T := hid (T.out.up hb)
                replace R := hid (R.out.up hb)
                replace B := hid (B.out.up hb)
                replace E := hid (E.out.trans hb)
                clear hb 
                clear B
                go_wp2
                go_ret
                exact ⟨rfl, E.out⟩
              · have ht1 : 1 ≤ t := by omega
                obtain ⟨s, hs⟩ : ∃ s, t = s + 1 := ⟨t - 1, by omega⟩
                have hten : Hid (10 ^ t % 10 = 0 ∧ 10 ^ t / 10 * 10 = 10 ^ t) := by
                  have h : 10 ^ t % 10 = 0 := by rw [hs, Nat.pow_succ]; exact Nat.mul_mod_left _ _
                  exact ⟨h, Nat.div_mul_cancel (Nat.dvd_of_mod_eq_zero h)⟩
                clear hs
                have hz0 : ((t : Int) == 0) = false := by simp; omega
                obtain ⟨AR, nR, cR, e, hnR, _⟩ := R.out.1
                subst e
                obtain rfl : nR = 0 := by rw [hnR, hten.out.1, M.limbs_zero]; rfl
                clear R hnR h0
                go_wp2_with fail
                refine (of_n 10 (by omega) _).mono ?_
                rintro e wn ⟨vB, rfl, bx, hb⟩
                replace T := hid (T.out.up hb)
                replace Q := hid (Q.out.up hb)
                replace E := hid (E.out.trans hb)
                have B := hid bx
                clear hb bx
                go_wp2_with fail
                refine (mul_n Q.out B.out (by omega) (by omega) (by omega)).mono ?_
                rintro e wn ⟨vC, rfl, cx, hb⟩
                replace T := hid (T.out.up hb)
                replace Q := hid (Q.out.up hb)
                replace B := hid (B.out.up hb)
                replace E := hid (E.out.trans hb)
                have C := hid cx
                clear hb cx
                clear Q B
                go_wp2_with fail
                refine (cmp_n C.out T.out (z := 0) (M.cmp_zero.2 hten.out.2)).mono ?_
                rintro e wn ⟨rfl, hb⟩
                replace T := hid (T.out.up hb)
                replace C := hid (C.out.up hb)
                replace E := hid (E.out.trans hb)
                clear hb 
                clear C T
                go_wp2
                go_ret
                exact ⟨rfl, E.out⟩

set_option maxRecDepth 100000 in
theorem natPowers_lifted (os : Os) (started : os.Started) (H : Type) (enc : TypeId × Value → H) :
    ReturnsInHanded {} Try.checked os 6 .any (Rows.natPowersSpec.pre6 enc Try.prog Try.f6 Rows.natPowersRow.domain false) (Rows.natPowersSpec.post enc Try.prog Try.f6 false true false false) := by
  refine returnsInHanded_of_change (C := Try.checked) own started (by kernel_rfl) Try.func6
    (ChangeSpec.witness6 (enc := enc) (C := Try.checked) false ⟨#[], #[.int .u8 0], []⟩ 8 (by kernel_rfl) (by kernel_rfl) (by kernel_rfl) (by kernel_rfl)) ?_
  intro W base args ds gs before hval0 hW _ _
  have hval : ∀ (j : Nat) t v, Try.f6.params[j]? = some t → args[j]? = some v → Value.okWide Try.prog W .any base t v := hval0
  have hW' := hW
  obtain ⟨p, q, hA0, hV, rfl, hfz, hnd⟩ := hW
  have hA : DataW.TrodAll enc Try.prog W 0 (fun _ => true) true Try.f6.params.toList args.toList ds p := hA0
  rw [Try.params6] at hA hval
  obtain ⟨v0, vs0, d0, ds0, p0, q0, hargs, rfl, rfl, h0, r0⟩ := trodAll_cons hA
  obtain ⟨rfl, rfl, rfl⟩ := trodAll_nil r0
  obtain rfl : args = #[v0] := by cases args; simp_all
  obtain ⟨rfl, rfl⟩ := trodVars_none hV
  obtain ⟨a0, rfl, -, -, w0⟩ := open_int Try.underlying5 (hval 0 5 v0 rfl rfl) h0
  clear hA0 hval0
  refine (natPowers_walk W a0 w0).mono fun e W' ⟨he, hg⟩ => ?_
  subst he
  exact ⟨_, rfl, law_post hW' rfl rfl (by kernel_rfl) (by kernel_rfl) hg⟩

theorem natPowers_over : Rows.natPowersRow.holds Try.pinned (OpenSpec.ofChange Rows.natPowersSpec) :=
  OpenClaim.holds_of_wide 6 Try.f6 rfl rfl rfl rfl rfl rfl rfl ⟨rfl, rfl, rfl, rfl, rfl⟩ rfl rfl rfl rfl rfl (by kernel_rfl) Try.func6 (by kernel_rfl)
    (of_decide_eq_true (by kernel_rfl)) (by unfold Func.isWrapper; first | (rw [if_pos (by decide +kernel)]; kernel_rfl) | (rw [if_neg (by decide +kernel)]; exact ⟨rfl, rfl⟩))
    (fun os started H enc _ => natPowers_lifted os started H enc)

theorem natPowers_proved : Rows.NatPowersSaid := natPowers_over

end Go.Proofs.Ytbmkacnomegogaa
