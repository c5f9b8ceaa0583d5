/-
  Contracts: slices.Equal over words; package lex's Same; the reference's Same.
-/
import Derived.Test.YtceplnfjlncekaaQLexE
namespace Go.Proofs.Ytceplnfjlncekaa
set_option linter.unusedSimpArgs false
set_option linter.unusedVariables false
open Go.RowKit

def SameAt (W wr : World) (ts us : List M.Tok) (k : Nat) : Prop := ts.take k = us.take k ∧ Ext W wr
theorem same_step {ts us : List M.Tok} {k : Nat} {t : M.Tok} (h : ts.take k = us.take k) (h1 : ts[k]? = some t) (h2 : us[k]? = some t) : ts.take (k + 1) = us.take (k + 1) := by
 rw [List.take_add_one, List.take_add_one, h, h1, h2]
theorem same_not {ts us : List M.Tok} {k : Nat} {t u : M.Tok} (h1 : ts[k]? = some t) (h2 : us[k]? = some u) (hne : t ≠ u) : decide (ts = us) = false := by
 rw [decide_eq_false_iff_not]
 rintro rfl
 rw [h1] at h2
 exact hne (Option.some.inj h2)
set_option maxHeartbeats 4000000 in
theorem equal_n {w : World} {A B : Option Addr} {n m c d : Nat} {ts us : List M.Tok} (h1 : TList w (.slice A n c) ts) (h2 : TList w (.slice B m d) us) : Calls Try.prog 54 #[.slice A n c, .slice B m d] w (GivesB w (decide (ts = us))) := by
 have hn : n = ts.length ∧ n ≤ c ∧ c ≤ maxLen := by obtain ⟨A', n', c', e, h, h', h'', _⟩ := h1; injection e with e1 e2 e3; subst e2 e3; exact ⟨h, h', h''⟩
 have hm : m = us.length ∧ m ≤ d ∧ d ≤ maxLen := by obtain ⟨A', n', c', e, h, h', h'', _⟩ := h2; injection e with e1 e2 e3; subst e2 e3; exact ⟨h, h', h''⟩
 have H1 := hid h1
 have H2 := hid h2
 have HN := hid hn.1
 have HM := hid hm.1
 have hc9 : n ≤ c ∧ c ≤ 9223372036854775807 := by unfold maxLen at hn; omega
 have hd9 : m ≤ d ∧ d ≤ 9223372036854775807 := by unfold maxLen at hm; omega
 obtain ⟨hc8, hc9⟩ := hc9
 obtain ⟨hd8, hd9⟩ := hd9
 clear hn hm h1 h2
 by_cases hnm : n = m
 ·subst hnm
  go_enter Try.func54, Try.ntmps54
  go_wp2
  go_loopw [13] (fun i wr => ∃ (k : Nat), i = .int .i64 (k : Int) ∧ k ≤ n ∧ Hid (SameAt w wr ts us k)) (fun i _ => n - (intOf i).toNat)
  case atStart => exact ⟨0, rfl, Nat.zero_le _, rfl, Ext.refl _⟩
  case round =>
   obtain ⟨k, rfl, hk, hR⟩ := hrel
   rcases Nat.lt_or_ge k n with hlt | hge
   ·obtain ⟨ad, t, rfl, ht, c0, c1⟩ := TList.get (H1.out.up hR.out.2) (k := k) (by rw [← HN.out]; exact hlt)
    obtain ⟨bd, u, rfl, hu, d0, d1⟩ := TList.get (H2.out.up hR.out.2) (k := k) (by rw [← HM.out]; exact hlt)
    have hlt' : (k : Int) < (n : Int) := by omega
    have HK := hid ht
    have HU := hid hu
    clear ht hu
    by_cases hne : t = u
    ·subst hne
     go_wp2
     go_region
     go_wp2
     go_roundw
     case rel => exact ⟨k + 1, by simp, by omega, same_step hR.out.1 HK.out HU.out, hR.out.2.drewN' 1⟩
     case measure => simp [intOf]; omega
    ·have HS := hid (same_not HK.out HU.out hne)
     obtain ⟨a, x⟩ := t
     obtain ⟨b, y⟩ := u
     by_cases hab : a = b
     ·subst hab
      have hxy : ¬ x = y := fun e => hne (by rw [e])
      clear hne
      go_wp2
      go_region
      go_wp2
      go_ret
      rw [HS.out]
      exact ⟨rfl, hR.out.2.drewN' 1⟩
     ·clear hne
      go_wp2
      go_region
      go_wp2
      go_ret
      rw [HS.out]
      exact ⟨rfl, hR.out.2.drewN' 1⟩
   ·obtain rfl : k = n := by omega
    have HS := hid (show decide (ts = us) = true by
     have := hR.out.1
     rw [HN.out, List.take_length, ← HN.out, HM.out, List.take_length] at this
     rw [this]; simp)
    go_wp2
    go_ret
    rw [HS.out]
    exact ⟨rfl, hR.out.2⟩
 ·have hq : ((n : Int) == (m : Int)) = false := by simp; omega
  have HS := hid (show decide (ts = us) = false by
   rw [decide_eq_false_iff_not]; rintro rfl; rw [← HN.out] at HM; exact hnm HM.out.symm)
  go_enter Try.func54, Try.ntmps54
  go_wp2
  go_ret
  rw [HS.out]
  exact ⟨rfl, Ext.refl _⟩
theorem same_n {w : World} {A B : Option Addr} {n m c d : Nat} {ts us : List M.Tok} (h1 : TList w (.slice A n c) ts) (h2 : TList w (.slice B m d) us) : Calls Try.prog 47 #[.slice A n c, .slice B m d] w (GivesB w (decide (ts = us))) := by
 have H := hid (equal_n h1 h2)
 clear h1 h2
 go_enter Try.func47, Try.ntmps47
 go_wp2_with fail
 refine H.out.mono ?_
 rintro e w' ⟨rfl, hb⟩
 have E := hid hb
 clear hb
 go_wp2
 go_ret
 exact ⟨rfl, E.out⟩
set_option maxHeartbeats 4000000 in
theorem rSame_n {w : World} {A B : Option Addr} {n m c d : Nat} {ts us : List M.Tok} (h1 : TList w (.slice A n c) ts) (h2 : TList w (.slice B m d) us) : Calls Try.prog 21 #[.slice A n c, .slice B m d] w (GivesB w (decide (ts = us))) := by
 have hn : n = ts.length ∧ n ≤ c ∧ c ≤ maxLen := by obtain ⟨A', n', c', e, h, h', h'', _⟩ := h1; injection e with e1 e2 e3; subst e2 e3; exact ⟨h, h', h''⟩
 have hm : m = us.length ∧ m ≤ d ∧ d ≤ maxLen := by obtain ⟨A', n', c', e, h, h', h'', _⟩ := h2; injection e with e1 e2 e3; subst e2 e3; exact ⟨h, h', h''⟩
 have H1 := hid h1
 have H2 := hid h2
 have HN := hid hn.1
 have HM := hid hm.1
 have hc9 : n ≤ c ∧ c ≤ 9223372036854775807 := by unfold maxLen at hn; omega
 have hd9 : m ≤ d ∧ d ≤ 9223372036854775807 := by unfold maxLen at hm; omega
 obtain ⟨hc8, hc9⟩ := hc9
 obtain ⟨hd8, hd9⟩ := hd9
 clear hn hm h1 h2
 by_cases hnm : n = m
 ·subst hnm
  go_enter Try.func21, Try.ntmps21
  go_wp2
  go_loopw [5] (fun i wr => ∃ (k : Nat), i = .int .i64 (k : Int) ∧ k ≤ n ∧ Hid (SameAt w wr ts us k)) (fun i _ => n - (intOf i).toNat)
  case atStart => exact ⟨0, rfl, Nat.zero_le _, rfl, Ext.refl _⟩
  case round =>
   obtain ⟨k, rfl, hk, hR⟩ := hrel
   rcases Nat.lt_or_ge k n with hlt | hge
   ·obtain ⟨ad, t, rfl, ht, c0, c1⟩ := TList.get (H1.out.up hR.out.2) (k := k) (by rw [← HN.out]; exact hlt)
    obtain ⟨bd, u, rfl, hu, d0, d1⟩ := TList.get (H2.out.up hR.out.2) (k := k) (by rw [← HM.out]; exact hlt)
    have hlt' : (k : Int) < (n : Int) := by omega
    have HK := hid ht
    have HU := hid hu
    clear ht hu
    by_cases hne : t = u
    ·subst hne
     go_wp2
     go_region
     go_wp2
     go_roundw
     case rel => exact ⟨k + 1, by simp, by omega, same_step hR.out.1 HK.out HU.out, hR.out.2.drewN' 1⟩
     case measure => simp [intOf]; omega
    ·have HS := hid (same_not HK.out HU.out hne)
     obtain ⟨a, x⟩ := t
     obtain ⟨b, y⟩ := u
     by_cases hab : a = b
     ·subst hab
      have hxy : ¬ x = y := fun e => hne (by rw [e])
      clear hne
      go_wp2
      go_region
      go_wp2
      go_ret
      rw [HS.out]
      exact ⟨rfl, hR.out.2.drewN' 1⟩
     ·clear hne
      go_wp2
      go_region
      go_wp2
      go_ret
      rw [HS.out]
      exact ⟨rfl, hR.out.2.drewN' 1⟩
   ·obtain rfl : k = n := by omega
    have HS := hid (show decide (ts = us) = true by
     have := hR.out.1
     rw [HN.out, List.take_length, ← HN.out, HM.out, List.take_length] at this
     rw [this]; simp)
    go_wp2
    go_ret
    rw [HS.out]
    exact ⟨rfl, hR.out.2⟩
 ·have hq : ((n : Int) == (m : Int)) = false := by simp; omega
  have HS := hid (show decide (ts = us) = false by
   rw [decide_eq_false_iff_not]; rintro rfl; rw [← HN.out] at HM; exact hnm HM.out.symm)
  go_enter Try.func21, Try.ntmps21
  go_wp2
  go_ret
  rw [HS.out]
  exact ⟨rfl, Ext.refl _⟩
end Go.Proofs.Ytceplnfjlncekaa
