/-
  Contract of package gcd's shared: what two rows of limbs have in common.
-/
import Derived.Test.YtljjijcmoafndaaGWord
import Derived.Deep.LoopGhost
namespace Go.Proofs.Ytljjijcmoafndaa
open Go.RowKit
set_option linter.unusedSimpArgs false
set_option linter.unusedVariables false

theorem IsN.short {w : World} {v : Value} {N k j : Nat} (h : IsN w v N k) (hN : N < 1000000000 ^ j) : IsN w v N j := ⟨h.1, M.limbs_length_le hN⟩
theorem IsN.count {w : World} {A : Option Addr} {n c N k : Nat} (h : IsN w (.slice A n c) N k) : n = (M.limbs N).length ∧ n ≤ 9223372036854775807 := by
  obtain ⟨A', n', c', e, hn, hc, hm, _⟩ := h.1
  injection e with _ e2 e3
  unfold maxLen at hm
  exact ⟨by omega, by omega⟩

set_option maxHeartbeats 1000000 in
theorem shared_n {w : World} {u v : Value} {a b j : Nat} (hu : IsN w u a j) (hv : IsN w v b j) (hj : j ≤ 1000000) :
    Calls Try.prog 49 #[u, v] w (GivesN w (Nat.gcd a b) j) := by
  obtain ⟨A, n, c, rfl⟩ := hu.1.slice
  obtain ⟨A', n', c', rfl⟩ := hv.1.slice
  have R := hid hu
  have R' := hid hv
  have HJ := hid hj
  have HG := hid (show Nat.gcd a b < 1000000000 ^ j by
    have h1 := hu.len
    have h2 := hv.len
    have h3 := M.gcd_le_max a b
    omega)
  clear hu hv hj
  go_enter Try.func49, Try.ntmps49
  go_wp2
  go_loopg [0, 1] (b) (fun y u v wr => ∃ (x : Nat) (A : Option Addr) (n c : Nat) (A' : Option Addr) (n' c' : Nat), u = .slice A n c ∧ v = .slice A' n' c' ∧ Hid (IsN wr (.slice A n c) x j) ∧ Hid (IsN wr (.slice A' n' c') y j) ∧ Hid (Nat.gcd x y = Nat.gcd a b) ∧ Ext w wr)
  case atStart => exact ⟨a, A, n, c, A', n', c', rfl, rfl, R, R', rfl, Ext.refl _⟩
  case round =>
    clear R R'
    obtain ⟨x, A, n, c, A', n', c', rfl, rfl, R, R', HX, hext⟩ := hrel
    have E := hid hext
    clear hext
    have HC := hid R'.out.count
    by_cases h2 : n' ≤ 2
    · have h2' : decide (2 < (n' : Int)) = false := by simp; omega
      have HK := hid (show (M.limbs gk).length ≤ 2 by have := HC.out; omega)
      by_cases h0 : n' = 0
      · subst h0
        have HY := hid (show gk = 0 by
          have h1 := HC.out.1
          exact M.limbs_eq_nil.1 (List.eq_nil_of_length_eq_zero h1.symm))
        go_wp2
        go_ret
        refine ⟨_, rfl, ?_, E.out⟩
        have h1 := HX.out
        rw [HY.out, Nat.gcd_zero_right] at h1
        rw [← h1]
        exact R.out
      · have h0' : ¬ (n' : Int) = 0 := by omega
        go_wp2_with fail
        refine (word_n (k := 2) (N := gk) ⟨R'.out.1, HK.out⟩ (by omega)).mono ?_
        rintro e wn ⟨rfl, hb⟩
        have E1 := hid (E.out.trans hb)
        have Q := hid (R.out.up hb)
        have Q' := hid (R'.out.up hb)
        clear hb
        go_wp2_with fail
        refine (left_n Q.out Q'.out HJ.out).mono ?_
        rintro e wn ⟨vx, rfl, hx, hb⟩
        obtain ⟨A2, n2, c2, rfl⟩ := hx.1.slice
        have E2 := hid (E1.out.trans hb)
        have HP := hid (show 0 < gk by
          rcases Nat.eq_zero_or_pos gk with e | e
          · exfalso; apply h0
            rw [HC.out.1, e, M.limbs_zero]; rfl
          · exact e)
        have HB := hid (show gk < 1000000000 ^ 2 from Nat.lt_of_lt_of_le (M.limbs_len_lt gk) (Nat.pow_le_pow_right (by omega) HK.out))
        have RX := hid (hx.short (j := 2) (Nat.lt_trans (Nat.mod_lt x HP.out) HB.out))
        clear hx hb
        go_wp2_with fail
        refine (word_n RX.out (by omega)).mono ?_
        rintro e wn ⟨rfl, hb⟩
        have E3 := hid (E2.out.trans hb)
        clear hb
        go_wp2_with fail
        refine (sharedWord_n (a := gk) (b := x % gk) (by have := HB.out; rw [show (1000000000 : Nat) ^ 2 = 1000000000000000000 from rfl] at this; omega) (by have := HB.out; have := Nat.mod_lt x HP.out; rw [show (1000000000 : Nat) ^ 2 = 1000000000000000000 from rfl] at *; omega)).mono ?_
        rintro e wn ⟨rfl, hb⟩
        have E4 := hid (E3.out.trans hb)
        clear hb
        go_wp2_with fail
        refine (of_n (Nat.gcd gk (x % gk)) (by have h1 := Nat.gcd_le_left (x % gk) HP.out; have := HB.out; rw [show (1000000000 : Nat) ^ 2 = 1000000000000000000 from rfl] at this; omega) _).mono ?_
        rintro e wn ⟨vx, rfl, hx, hb⟩
        obtain ⟨A3, n3, c3, rfl⟩ := hx.1.slice
        have E5 := hid (E4.out.trans hb)
        have RG := hid hx
        clear hx hb
        go_wp2
        go_ret
        refine ⟨_, rfl, ?_, E5.out⟩
        have h1 := RG.out
        rw [M.gcd_step, HX.out] at h1
        exact h1.short HG.out
    · have h2' : decide (2 < (n' : Int)) = true := by simp; omega
      have HP := hid (show 0 < gk by
          rcases Nat.eq_zero_or_pos gk with e | e
          · exfalso; apply h2
            rw [HC.out.1, e, M.limbs_zero]; simp
          · exact e)
      go_wp2_with fail
      refine (left_n R.out R'.out HJ.out).mono ?_
      rintro e wn ⟨vx, rfl, hx, hb⟩
      obtain ⟨A2, n2, c2, rfl⟩ := hx.1.slice
      have E2 := hid (E.out.trans hb)
      have RX := hid hx
      have Q' := hid (R'.out.up hb)
      clear hx hb
      go_wp2
      go_roundg (x % gk)
      case measure => exact Nat.mod_lt _ HP.out
      case rel => exact ⟨gk, A', n', c', A2, n2, c2, rfl, rfl, Q', RX, (M.gcd_step x gk).trans HX.out, E2.out⟩
end Go.Proofs.Ytljjijcmoafndaa
