/-
  Contracts: 'few' and 'known' of layer 8's laws.
-/
import Derived.Test.YtmnchlikhbendaaQRefE
namespace Go.Proofs.Ytmnchlikhbendaa
set_option linter.unusedSimpArgs false
set_option linter.unusedVariables false
open Go.RowKit

namespace M
def few (ts : List Tok) : Bool := ts.all (fun t => decide (t.2.length ≤ 40)) && decide (ts.length ≤ 60)
theorem few_parts {ts : List Tok} (h : few ts = true) : (∀ t ∈ ts, t.2.length ≤ 40) ∧ ts.length ≤ 60 := by
  unfold few at h
  simpa using h
theorem word_le (t : Tok) : (word t).length ≤ t.2.length + 1 := by
  unfold word
  split
  · simp
  · split
    · simp
    · split
      · simp
      · omega
theorem print_le : ∀ {ts : List Tok} {n : Nat}, (∀ t ∈ ts, t.2.length ≤ n) → (print ts).length ≤ ts.length * (n + 2)
  | [], _, _ => Nat.zero_le _
  | t :: r, n, h => by
    have key : ∀ r : List Tok, (∀ t ∈ r, t.2.length ≤ n) → ((r.map fun x => 32 :: word x).flatten).length ≤ r.length * (n + 2) := by
      intro r
      induction r with
      | nil => intro _; simp
      | cons x s ih =>
        intro hx
        have h1 := word_le x
        have h2 := hx x (by simp)
        have h3 := ih (fun t ht => hx t (by simp [ht]))
        rw [List.map_cons, List.flatten_cons, List.length_append, List.length_cons, List.length_cons, Nat.add_mul]
        omega
    have h1 := word_le t
    have h2 := h t (by simp)
    have h3 := key r (fun x hx => h x (by simp [hx]))
    rw [print, List.length_append, List.length_cons, Nat.add_mul]
    omega
theorem few_print {ts : List Tok} (h : few ts = true) : (print ts).length ≤ 2520 := by
  obtain ⟨h1, h2⟩ := few_parts h
  have := print_le h1
  omega
end M
set_option maxHeartbeats 2000000 in
theorem few_n {w : World} {A : Option Addr} {n c : Nat} {ts : List M.Tok} (h : TList w (.slice A n c) ts) : Calls Try.prog 9 #[.slice A n c] w fun e w' => e = .returned (.bool (M.few ts)) ∧ w = w' := by
  have hn : n = ts.length ∧ n ≤ c ∧ c ≤ maxLen := by obtain ⟨A', n', c', e, h, h', h'', _⟩ := h; injection e with e1 e2 e3; subst e2 e3; exact ⟨h, h', h''⟩
  have HT := hid h
  have HN := hid hn.1
  have hc9 : n ≤ c ∧ c ≤ 9223372036854775807 := by unfold maxLen at hn; omega
  obtain ⟨hc8, hc9⟩ := hc9
  clear hn h
  go_enter Try.func9, Try.ntmps9
  go_wp2
  go_loop [3] (fun i => ∃ k : Nat, k ≤ n ∧ i = .int .i64 (k : Int) ∧ Hid ((ts.take k).all (fun t => decide (t.2.length ≤ 40)) = true)) (fun i => n - (intOf i).toNat)
  case atStart => exact ⟨0, Nat.zero_le _, rfl, rfl⟩
  case round =>
    obtain ⟨k, hk, rfl, ht⟩ := hrel
    rcases Nat.lt_or_ge k n with hlt | hge
    · obtain ⟨ad, t, rfl, hkt, c0, c1⟩ := TList.get HT.out (k := k) (by rw [← HN.out]; exact hlt)
      have hlt' : (k : Int) < (n : Int) := by omega
      have HK := hid hkt
      clear hkt
      obtain ⟨m, hm⟩ : ∃ m, m = t.2.length := ⟨_, rfl⟩
      have hsz : (⟨t.2.toArray⟩ : ByteArray).size = m := by rw [Lib.size_eq, hm]
      have hsz2 : (t.2.length : Int) = (m : Int) := by rw [hm]
      have HM := hid hm
      clear hm
      rcases Nat.lt_or_ge 40 m with h40 | h40
      · have HR := hid (show M.few ts = false by
          unfold M.few
          rw [List.all_eq_false.2 ⟨t, List.mem_of_getElem? HK.out, by rw [← HM.out]; simp; omega⟩]; rfl)
        have hq : 40 < (m : Int) := by omega
        go_wp2
        go_ret
        rw [HR.out]
        exact ⟨rfl, rfl⟩
      · have hq : decide (40 < (m : Int)) = false := by simp; omega
        have HS := hid (show (ts.take (k + 1)).all (fun t => decide (t.2.length ≤ 40)) = true by
          rw [List.take_add_one, HK.out, List.all_append, ht.out]; simp; omega)
        go_wp2
        go_round
        case rel => exact ⟨k + 1, by omega, by simp, HS.out⟩
        case measure => simp [intOf]; omega
    · obtain rfl : k = n := by omega
      have HR := hid (show M.few ts = decide ((k : Int) ≤ 60) by
        have h1 := ht.out
        rw [HN.out, List.take_length] at h1
        unfold M.few
        rw [h1, ← HN.out, Bool.true_and, decide_eq_decide]; omega)
      go_wp2
      go_ret
      rw [HR.out]
      exact ⟨rfl, rfl⟩
def K1 : List UInt8 := [40, 97, 32, 58, 98, 32, 49, 48, 41, 59, 32, 99, 10, 41]
def K2 : List UInt8 := [97, 32, 48, 49]
def T1 : List M.Tok := [(1, []), (4, [97]), (5, [98]), (3, [49, 48]), (2, []), (2, [])]
theorem k1_toks : M.wToks K1 = T1 := by decide +kernel
theorem k1_at : M.wAt K1 = 14 := by decide +kernel
theorem k1_err : M.wErr K1 = 0 := by decide +kernel
theorem k2_toks : M.wToks K2 = [] := by decide +kernel
theorem k2_at : M.wAt K2 = 2 := by decide +kernel
theorem k2_err : M.wErr K2 = 14 := by decide +kernel
theorem t1_print : M.print T1 = [40, 32, 97, 32, 58, 98, 32, 49, 48, 32, 41, 32, 41] := by decide +kernel
set_option maxHeartbeats 4000000 in
set_option maxRecDepth 100000 in
theorem known_n (w : World) : Calls Try.prog 8 #[] w (GivesB w true) := by
  have H1 := hid (fun w => words_n K1 (by decide) w)
  have H2 := hid (fun w => words_n K2 (by decide) w)
  rw [k1_toks, k1_at, k1_err] at H1
  rw [k2_toks, k2_at, k2_err] at H2
  have HS1 := hid (fun w => symbol_n [120, 33, 49] (by decide) w)
  have HS2 := hid (fun w => symbol_n [49, 120] (by decide) w)
  rw [show M.isSym [120, 33, 49] = true by decide +kernel] at HS1
  rw [show M.isSym [49, 120] = false by decide +kernel] at HS2
  go_enter Try.func8, Try.ntmps8
  go_wp2_with fail
  refine (H1.out _).mono ?_
  rintro e w1 ⟨v, rfl, hv, hb⟩
  obtain ⟨A, n, c, rfl, hn, hnc, hcm, hA⟩ := hv
  obtain rfl : n = 6 := hn
  have hc9 : c ≤ 9223372036854775807 := by unfold maxLen at hcm; omega
  have HT := hid (show TList w1 (.slice A 6 c) T1 from ⟨A, 6, c, rfl, rfl, hnc, hcm, hA⟩)
  have E := hid hb
  clear hb hA
  go_wp2_with fail
  refine (H2.out _).mono ?_
  rintro e w2 ⟨v2, rfl, -, hb⟩
  replace HT := hid (HT.out.up hb)
  replace E := hid (E.out.trans hb)
  clear hb
  obtain ⟨ad, t, rfl, ht, a0, a1⟩ := TList.get HT.out (k := 1) (by decide)
  obtain rfl : t = (4, [97]) := by simpa [T1] using ht.symm
  obtain ⟨ad', t, e', ht, b0, b1⟩ := TList.get HT.out (k := 2) (by decide)
  obtain rfl : t = (5, [98]) := by simpa [T1] using ht.symm
  injection e' with e'; subst e'
  obtain ⟨ad', t, e', ht, d0, d1⟩ := TList.get HT.out (k := 3) (by decide)
  obtain rfl : t = (3, [49, 48]) := by simpa [T1] using ht.symm
  injection e' with e'; subst e'
  obtain ⟨ad', t, e', ht, f0, f1⟩ := TList.get HT.out (k := 5) (by decide)
  obtain rfl : t = (2, []) := by simpa [T1] using ht.symm
  injection e' with e'; subst e'
  replace a0 : w2.cell? ⟨ad.block, ad.off + 2, none⟩ = some (.int .i64 4) := a0
  replace a1 : w2.cell? ⟨ad.block, ad.off + 2 + 1, none⟩ = some (.string ⟨#[97]⟩) := a1
  replace b0 : w2.cell? ⟨ad.block, ad.off + 4, none⟩ = some (.int .i64 5) := b0
  replace b1 : w2.cell? ⟨ad.block, ad.off + 4 + 1, none⟩ = some (.string ⟨#[98]⟩) := b1
  replace d0 : w2.cell? ⟨ad.block, ad.off + 6, none⟩ = some (.int .i64 3) := d0
  replace d1 : w2.cell? ⟨ad.block, ad.off + 6 + 1, none⟩ = some (.string ⟨#[49, 48]⟩) := d1
  replace f0 : w2.cell? ⟨ad.block, ad.off + 10, none⟩ = some (.int .i64 2) := f0
  clear f1
  go_wp2_with fail
  refine (HS1.out _).mono ?_
  rintro e w3 ⟨rfl, hb⟩
  replace HT := hid (HT.out.up hb)
  replace E := hid (E.out.trans hb)
  clear hb a0 a1 b0 b1 d0 d1 f0
  go_wp2_with fail
  refine (HS2.out _).mono ?_
  rintro e w4 ⟨rfl, hb⟩
  replace HT := hid (HT.out.up hb)
  replace E := hid (E.out.trans hb)
  clear hb
  go_wp2_with fail
  refine (print_n HT.out (by decide +kernel) (by decide +kernel)).mono ?_
  rintro e w5 ⟨rfl, hb⟩
  replace HT := hid (HT.out.up hb)
  replace E := hid (E.out.trans hb)
  clear hb
  rw [t1_print]
  go_wp2_with fail
  refine (same_n HT.out HT.out).mono ?_
  rintro e w6 ⟨rfl, hb⟩
  replace E := hid (E.out.trans hb)
  clear hb
  rw [decide_eq_true rfl]
  go_wp2
  go_ret
  exact ⟨rfl, E.out⟩
end Go.Proofs.Ytmnchlikhbendaa
