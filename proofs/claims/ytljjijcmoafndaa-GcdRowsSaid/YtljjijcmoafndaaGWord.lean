/-
  Contracts of package gcd's inner functions over rows of limbs: word, sharedWord, left.
-/
import Derived.Test.YtljjijcmoafndaaZInner
import Derived.Test.YtljjijcmoafndaaHeld
namespace Go.Proofs.Ytljjijcmoafndaa
open Go.RowKit
set_option linter.unusedSimpArgs false
set_option linter.unusedVariables false

namespace M
theorem word_step {n n' : Int} {l : List Nat} {k x : Nat} (hn : n = IntKind.u64.wrap (val (l.drop (k + 1)) : Int)) (hx : l[k]? = some x) (h' : n' = IntKind.u64.wrap (IntKind.u64.wrap (n * 1000000000) + IntKind.u64.wrap (x : Int))) : n' = IntKind.u64.wrap (val (l.drop k) : Int) := by
  subst hn h'
  have e : val (l.drop k) = x + 1000000000 * val (l.drop (k + 1)) := by rw [drop_at hx]; rfl
  rw [e, IntKind.wrap_u64, IntKind.wrap_u64, IntKind.wrap_u64, IntKind.wrap_u64, IntKind.wrap_u64]
  omega
theorem gcd_step (a b : Nat) : Nat.gcd b (a % b) = Nat.gcd a b := by
  rw [Nat.gcd_comm b, ← Nat.gcd_rec, Nat.gcd_comm]
theorem gcd_le_max (a b : Nat) : Nat.gcd a b ≤ max a b := by
  rcases Nat.eq_zero_or_pos a with rfl | h
  · simp
  · have := Nat.gcd_le_left b h
    omega
end M

theorem word_n {w : World} {v : Value} {N k : Nat} (hv : IsN w v N k) (hk : k ≤ 2) :
    Calls Try.prog 64 #[v] w (fun e w' => e = .returned (.int .u64 (N : Int)) ∧ Ext w w') := by
  obtain ⟨A1, n1, c1, rfl⟩ := hv.1.slice
  have HL := hid (show N < 1000000000000000000 by
    have h1 := hv.len
    have h2 : (1000000000 : Nat) ^ k ≤ 1000000000 ^ 2 := Nat.pow_le_pow_right (by omega) hk
    rw [show (1000000000 : Nat) ^ 2 = 1000000000000000000 from rfl] at h2
    omega)
  obtain ⟨A2, n2, c2, e2, hn, hc, hmx, hs, hr⟩ := hv.1
  injection e2 with e2 e3 e4
  subst e2 e3 e4
  have hb1 : n1 ≤ 9223372036854775807 := by unfold maxLen at hmx; omega
  have HR := hid hr
  have HN := hid hn
  clear hr hn hs hmx hc hv
  go_enter Try.func64, Try.ntmps64
  go_wp2
  go_loop [3, 4] (fun x i => ∃ (k : Nat) (z a : Int), k ≤ n1 ∧ z = (k : Int) - 1 ∧ i = .int .i64 z ∧ x = .int .u64 a ∧ a = IntKind.u64.wrap (M.val ((M.limbs N).drop k) : Int)) (fun _ i => (intOf i + 1).toNat)
  case atStart => exact ⟨n1, _, _, Nat.le_refl _, rfl, rfl, rfl, by rw [List.drop_eq_nil_of_le (by rw [← HN.out]; exact Nat.le_refl _)]; rfl⟩
  case round =>
    obtain ⟨k, z, a, hk, hz, rfl, rfl, ha⟩ := hrel
    have HA := hid ha
    clear ha
    rcases k with _ | k
    · obtain rfl : z = -1 := by omega
      clear hz
      have HA2 := hid (show a = (N : Int) from HA.out.trans (by rw [List.drop_zero, M.val_limbs, IntKind.wrap_u64]; have := HL.out; omega))
      go_wp2
      go_ret
      exact ⟨by rw [HA2.out]; rfl, Ext.refl _⟩
    · obtain rfl : z = (k : Int) := by omega
      clear hz
      have hlt : k < n1 := by omega
      obtain ⟨ad, x, rfl, _, HX, hcell⟩ := HR.out.get (k := k) (by rw [← HN.out]; exact hlt)
      go_wp2
      go_round
      case rel => exact ⟨k, _, _, by omega, rfl, rfl, rfl, M.word_step HA.out HX.out rfl⟩
      case measure => simp [intOf]; all_goals omega

theorem sharedWord_n {w : World} {a b : Nat} (ha : (a : Int) ≤ 18446744073709551615) (hb : (b : Int) ≤ 18446744073709551615) :
    Calls Try.prog 63 #[.int .u64 (a : Int), .int .u64 (b : Int)] w (fun e w' => e = .returned (.int .u64 (Nat.gcd a b : Nat)) ∧ Ext w w') := by
  have HA := hid ha
  have HB := hid hb
  clear ha hb
  go_enter Try.func63, Try.ntmps63
  go_wp2
  go_loopw [0, 1] (fun u v wr => ∃ (x y : Nat), u = .int .u64 (x : Int) ∧ v = .int .u64 (y : Int) ∧ Hid ((x : Int) ≤ 18446744073709551615) ∧ Hid ((y : Int) ≤ 18446744073709551615) ∧ Hid (Nat.gcd x y = Nat.gcd a b) ∧ Ext w wr) (fun _ v _ => (intOf v).toNat)
  case atStart => exact ⟨a, b, rfl, rfl, HA, HB, rfl, Ext.refl _⟩
  case round =>
    obtain ⟨x, y, rfl, rfl, HX, HY, HG, hext⟩ := hrel
    have E := hid hext
    clear hext
    by_cases h0 : y = 0
    · subst h0
      go_wp2
      go_ret
      exact ⟨by rw [← HG.out, Nat.gcd_zero_right]; rfl, E.out⟩
    · have hy : decide ((0 : Int) < (y : Int)) = true := decide_eq_true (by omega)
      have hy0 : ¬ (y : Int) = 0 := by omega
      obtain ⟨r, hr⟩ : ∃ r : Nat, r = x % y := ⟨_, rfl⟩
      have hq : (x : Int).tmod (y : Int) = (r : Int) := by
        rw [hr]; exact (Int.ofNat_tmod x y).symm
      have hlt : r < y := by rw [hr]; exact Nat.mod_lt _ (by omega)
      have hw : IntKind.u64.wrap (r : Int) = (r : Int) := by
        have h1 := HY.out
        rw [IntKind.wrap_u64]; omega
      have HM := hid (show (r : Int) ≤ 18446744073709551615 by
        have h1 := HY.out
        omega)
      have HGR := hid (show Nat.gcd y r = Nat.gcd a b by rw [hr]; exact (M.gcd_step x y).trans HG.out)
      have HLT := hid hlt
      clear hr hlt
      go_upto_region 2 with (fail)
      refine wp_region_E [(0, 0), (1, 0), (2, 0), (3, 0), (4, 0), (5, 0)] (fun _ => (0, #[])) rfl (by kernel_rfl) (by intro j hj; cases hj) (fun _ _ d _ _ => by cases d <;> exact Iff.rfl) fun wd hb => ?_
      replace E := hid (E.out.trans hb)
      clear hb
      refine WE.pure (d := some 7) rfl rfl (by rfl) (v := (.int .u64 (y : Int))) (fun w' hk => ?_) ?_
      · go_simp
      simp only [Act.put, List.setIfInBounds_toArray, List.set_cons_zero, List.set_cons_succ]
      refine WE.pure (d := some 8) rfl rfl (by rfl) (v := (.int .u64 (x : Int))) (fun w' hk => ?_) ?_
      · go_simp
      simp only [Act.put, List.setIfInBounds_toArray, List.set_cons_zero, List.set_cons_succ]
      refine WE.pure (d := some 9) rfl rfl (by rfl) (v := (.int .u64 (y : Int))) (fun w' hk => ?_) ?_
      · go_simp
      simp only [Act.put, List.setIfInBounds_toArray, List.set_cons_zero, List.set_cons_succ]
      refine WE.pure (d := some 10) rfl rfl (by rfl) (v := (.int .u64 (r : Int))) (fun w' hk => ?_) ?_
      · go_simp
      simp only [Act.put, List.setIfInBounds_toArray, List.set_cons_zero, List.set_cons_succ]
      refine WE.pure (d := some 0) rfl rfl (by rfl) (v := (.int .u64 (y : Int))) (fun w' hk => ?_) ?_
      · go_simp
      simp only [Act.put, List.setIfInBounds_toArray, List.set_cons_zero, List.set_cons_succ]
      refine WE.pure (d := some 1) rfl rfl (by rfl) (v := (.int .u64 (r : Int))) (fun w' hk => ?_) ?_
      · go_simp
      simp only [Act.put, List.setIfInBounds_toArray, List.set_cons_zero, List.set_cons_succ]
      refine WE.done ?_
      go_wp2
      go_roundw
      case rel => exact ⟨y, r, rfl, rfl, HY, HM, HGR, E.out⟩
      case measure => simp [intOf]; have := HLT.out; omega

theorem left_n {w : World} {u v : Value} {a b j k : Nat} (hu : IsN w u a j) (hv : IsN w v b k) (hj : j ≤ 1000000) :
    Calls Try.prog 62 #[u, v] w (GivesN w (a % b) j) := by
  have R := hid hu
  have R' := hid hv
  clear hu hv
  go_enter Try.func62, Try.ntmps62
  go_wp2_with fail
  refine (div_N R.out R'.out hj).mono ?_
  rintro e wn ⟨x, y, rfl, hx, hy, hb⟩
  obtain ⟨A1, n1, c1, rfl⟩ := hx.1.slice
  obtain ⟨A2, n2, c2, rfl⟩ := hy.1.slice
  have E := hid hb
  have RY := hid hy
  clear hx hy hb
  go_wp2
  go_ret
  exact ⟨_, rfl, RY.out, E.out⟩
end Go.Proofs.Ytljjijcmoafndaa
