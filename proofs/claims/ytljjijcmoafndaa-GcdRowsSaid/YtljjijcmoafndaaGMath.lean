/-
  Mathematics of package gcd: how what divides both is put together of them, going down by division.
-/
import Derived.Test.YtljjijcmoafndaaZMath
namespace Go.Proofs.Ytljjijcmoafndaa
set_option linter.unusedSimpArgs false
set_option linter.unusedVariables false
namespace M
/-- Where the walk stands: d and r are put together of a and b. -/
def Ex (a b d r : Nat) (t n : Int) : Prop := ∃ (T N S K : Nat) (s : Int), (s = 1 ∨ s = -1) ∧ t = s * (T : Int) ∧ n = -s * (N : Int) ∧ (d : Int) = s * ((a : Int) * T - (b : Int) * S) ∧ (r : Int) = s * ((b : Int) * K - (a : Int) * N) ∧
  T * r + N * d = b ∧ S * r + K * d = a ∧ Nat.gcd d r = Nat.gcd a b ∧ (b = 0 → t = 1) ∧ ((T = 1 ∧ N = 0 ∧ S = 0 ∧ K = 1) ∨ (r < d ∧ T ≤ N ∧ S ≤ max K 1)) ∧ d ≤ max a b ∧ r ≤ max a b
theorem Ex.start (a b : Nat) : Ex a b a b 1 0 :=
  ⟨1, 0, 0, 1, 1, .inl rfl, by simp, by simp, by simp, by simp, by simp, by simp, rfl, fun _ => rfl, .inl ⟨rfl, rfl, rfl, rfl⟩, Nat.le_max_left _ _, Nat.le_max_right _ _⟩
theorem cross {T N r d q m : Nat} (hd : d = q * r + m) : N * m + (T + q * N) * r = T * r + N * d := by
  subst hd
  rw [Nat.add_mul, Nat.mul_add, Nat.mul_comm q N, Nat.mul_assoc]
  omega
theorem Ex.step {a b d r : Nat} {t n : Int} (h : Ex a b d r t n) (hr : 0 < r) : Ex a b r (d % r) n (t - ((d / r : Nat) : Int) * n) := by
  obtain ⟨T, N, S, K, s, hs, ht, hn, hd, hrr, h1, h2, hg, hb, hc, hm1, hm2⟩ := h
  have hdiv : d = d / r * r + d % r := by rw [Nat.mul_comm]; exact (Nat.div_add_mod d r).symm
  have hlt : d % r < r := Nat.mod_lt _ hr
  have hq : (T = 1 ∧ N = 0 ∧ S = 0 ∧ K = 1) ∨ 1 ≤ d / r := hc.imp id fun h => Nat.div_pos (Nat.le_of_lt h.1) hr
  have hmul : ∀ x : Nat, 1 ≤ d / r → x ≤ d / r * x := fun x h => Nat.le_mul_of_pos_left x h
  have hmod : ((d % r : Nat) : Int) = (d : Int) - ((d / r : Nat) : Int) * (r : Int) := by
    have : (d : Int) = ((d / r * r + d % r : Nat) : Int) := by rw [← hdiv]
    rw [Int.natCast_add, Int.natCast_mul] at this
    omega
  generalize hqq : d / r = q at *
  generalize hmm : d % r = m at *
  refine ⟨N, T + q * N, K, S + q * K, -s, by omega, by rw [hn], ?_, ?_, ?_, ?_, ?_, ?_, ?_, .inr ⟨hlt, ?_, ?_⟩, hm2, ?_⟩
  · rw [ht, hn, Int.neg_neg, Int.natCast_add, Int.natCast_mul]
    rcases hs with rfl | rfl
    · simp only [Int.one_mul, Int.neg_mul, Int.mul_neg]; omega
    · simp only [Int.one_mul, Int.neg_mul, Int.mul_neg]; omega
  · rw [hrr]
    rcases hs with rfl | rfl <;> omega
  · rw [hmod, hd, hrr, Int.natCast_add, Int.natCast_add, Int.natCast_mul, Int.natCast_mul, Int.mul_add, Int.mul_add]
    have e1 : (q : Int) * (s * ((b : Int) * K - (a : Int) * N)) = s * ((b : Int) * ((q : Int) * K)) - s * ((a : Int) * ((q : Int) * N)) := by
      rw [← Int.mul_sub, Int.mul_left_comm, Int.mul_sub, Int.mul_left_comm, Int.mul_left_comm (q : Int) (a : Int)]
    rw [e1]
    rcases hs with rfl | rfl <;> omega
  · rw [cross hdiv]; exact h1
  · rw [cross hdiv]; exact h2
  · rw [← hg, Nat.gcd_comm d r, Nat.gcd_rec r d, hmm, Nat.gcd_comm]
  · intro h0
    exfalso
    have ht1 := hb h0
    have hT : T * r = 0 := by omega
    rcases Nat.mul_eq_zero.1 hT with e | e
    · rw [e] at ht; simp at ht; omega
    · omega
  · rcases hq with ⟨e1, e2, e3, e4⟩ | h
    · omega
    · have := hmul N h; omega
  · rcases hq with ⟨e1, e2, e3, e4⟩ | h
    · omega
    · have := hmul K h; omega
  · omega
theorem Ex.small {a b d r : Nat} {t n : Int} (h : Ex a b d r t n) : t.natAbs ≤ max b 1 ∧ n.natAbs ≤ b := by
  obtain ⟨T, N, S, K, s, hs, ht, hn, hd, hrr, h1, h2, hg, hb, hc, hm1, hm2⟩ := h
  have e1 : t.natAbs = T := by rw [ht, Int.natAbs_mul]; rcases hs with rfl | rfl <;> simp
  have e2 : n.natAbs = N := by rw [hn, Int.natAbs_mul]; rcases hs with rfl | rfl <;> simp
  rw [e1, e2]
  rcases hc with ⟨c1, c2, c3, c4⟩ | ⟨c1, c2, c3⟩
  · omega
  · have h3 : N ≤ N * d := Nat.le_mul_of_pos_right N (by omega)
    have h4 : N * d ≤ b := by omega
    omega
theorem Ex.size {a b d r : Nat} {t n : Int} (h : Ex a b d r t n) : d ≤ max a b ∧ r ≤ max a b := by
  obtain ⟨T, N, S, K, s, hs, ht, hn, hd, hrr, h1, h2, hg, hb, hc, hm1, hm2⟩ := h
  exact ⟨hm1, hm2⟩
/-- What is left at the end. -/
def ExEnd (a b : Nat) (t : Int) : Prop := (b = 0 → t = 1) ∧ (b ≠ 0 → ∃ s : Int, ((Nat.gcd a b : Nat) : Int) = (a : Int) * t + (b : Int) * s ∧ t.natAbs ≤ max a b ∧ s.natAbs ≤ max a b)
theorem Ex.done {a b d : Nat} {t n : Int} (h : Ex a b d 0 t n) : d = Nat.gcd a b ∧ ExEnd a b t := by
  have hsm := h.small
  obtain ⟨T, N, S, K, s, hs, ht, hn, hd, hrr, h1, h2, hg, hb, hc, hm1, hm2⟩ := h
  rw [Nat.gcd_zero_right] at hg
  refine ⟨hg, hb, fun hb0 => ⟨-s * (S : Int), ?_, ?_, ?_⟩⟩
  · rw [← hg, hd, ht]
    rw [Int.mul_sub, Int.mul_left_comm, Int.neg_mul, Int.mul_neg, Int.mul_left_comm (b : Int)]; omega
  · omega
  · have e1 : (-s * (S : Int)).natAbs = S := by rw [Int.natAbs_mul]; rcases hs with rfl | rfl <;> simp
    rw [e1]
    rcases hc with ⟨c1, c2, c3, c4⟩ | ⟨c1, c2, c3⟩
    · omega
    · have h3 : K ≤ K * d := Nat.le_mul_of_pos_right K (by omega)
      have h4 : K * d ≤ a := by omega
      omega
end M
end Go.Proofs.Ytljjijcmoafndaa
