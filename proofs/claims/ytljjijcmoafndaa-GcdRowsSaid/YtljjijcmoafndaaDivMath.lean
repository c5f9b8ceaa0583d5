/-
  Plain mathematics of dividing two words by one (Knuth's guess of a digit), no program text.
-/
import Derived.Test.YtljjijcmoafndaaMath
namespace Go.Proofs.Ytljjijcmoafndaa.M
set_option linter.unusedSimpArgs false
set_option linter.unusedVariables false

theorem qhat_init {Y a b u v T q r : Nat} (hY : Y = a * 4294967296 + b) (hb : b < 4294967296) (ha : 2147483648 ≤ a) (hu : u < Y) (hv : v < 4294967296) (hT : T = (u * 4294967296 + v) / Y) (hq : q = u / a) (hr : r = u % a) :
    T ≤ q ∧ q * a + r = u ∧ q ≤ 4294967297 ∧ r < a := by
  have h1 : q * a + r = u := by rw [hq, hr, Nat.mul_comm]; exact Nat.div_add_mod u a
  have hra : r < a := by rw [hr]; exact Nat.mod_lt _ (by omega)
  refine ⟨?_, h1, ?_, hra⟩
  · have h2 : u + 1 ≤ (q + 1) * a := by rw [Nat.add_mul]; omega
    have h3 : (u + 1) * 4294967296 ≤ (q + 1) * a * 4294967296 := Nat.mul_le_mul_right _ h2
    have h4 : (q + 1) * Y = (q + 1) * a * 4294967296 + (q + 1) * b := by rw [hY, Nat.mul_add, Nat.mul_assoc]
    have h5 : u * 4294967296 + v < (q + 1) * Y := by omega
    have h6 : T < q + 1 := by rw [hT]; exact (Nat.div_lt_iff_lt_mul (by omega)).2 h5
    omega
  · have h2 : u < a * 4294967298 := by omega
    have h3 : u / a < 4294967298 := (Nat.div_lt_iff_lt_mul (by omega)).2 (by rw [Nat.mul_comm]; exact h2)
    omega
theorem qhat_small {Y u v T : Nat} (hu : u < Y) (hv : v < 4294967296) (hT : T = (u * 4294967296 + v) / Y) : T < 4294967296 := by
  rw [hT]
  refine (Nat.div_lt_iff_lt_mul (by omega)).2 ?_
  have : (u + 1) * 4294967296 ≤ Y * 4294967296 := Nat.mul_le_mul_right _ hu
  rw [Nat.mul_comm 4294967296]
  omega
theorem qhat_split {Y a b q : Nat} (hY : Y = a * 4294967296 + b) : q * Y = q * a * 4294967296 + q * b := by rw [hY, Nat.mul_add, Nat.mul_assoc]
theorem qhat_dec {Y a b u v T q r : Nat} (hY : Y = a * 4294967296 + b) (hu : u < Y) (hv : v < 4294967296) (hT : T = (u * 4294967296 + v) / Y) (hle : T ≤ q) (hqr : q * a + r = u) (hc : 4294967296 ≤ q ∨ 4294967296 * r + v < q * b) :
    ∃ p, q = p + 1 ∧ T ≤ p ∧ p * a + (r + a) = u := by
  have h1 := qhat_small hu hv hT
  have h2 : T < q := by
    rcases hc with h | h
    · omega
    · rw [hT]
      refine (Nat.div_lt_iff_lt_mul (by omega)).2 ?_
      have := qhat_split (q := q) hY
      have h3 : (q * a + r) * 4294967296 = u * 4294967296 := by rw [hqr]
      rw [Nat.add_mul] at h3
      omega
  refine ⟨q - 1, by omega, by omega, ?_⟩
  obtain ⟨p, rfl⟩ : ∃ p, q = p + 1 := ⟨q - 1, by omega⟩
  rw [Nat.add_mul] at hqr
  rw [Nat.add_sub_cancel]
  omega
theorem qhat_done {Y a b u v T q r : Nat} (hY : Y = a * 4294967296 + b) (hY0 : 0 < Y) (hT : T = (u * 4294967296 + v) / Y) (hle : T ≤ q) (hqr : q * a + r = u) (hc : q * b ≤ 4294967296 * r + v) : q = T := by
  have h2 : q ≤ T := by
    rw [hT]
    refine (Nat.le_div_iff_mul_le hY0).2 ?_
    have := qhat_split (q := q) hY
    have h3 : (q * a + r) * 4294967296 = u * 4294967296 := by rw [hqr]
    rw [Nat.add_mul] at h3
    omega
  omega
theorem qhat_over {b q r v : Nat} (hb : b < 4294967296) (hq : q ≤ 4294967296) (hr : 4294967296 ≤ r) : q * b ≤ 4294967296 * r + v := by
  have h1 : q * b ≤ 4294967296 * b := Nat.mul_le_mul_right _ hq
  omega
/-- The words of a shifted dividend. -/
theorem shift_words {hi lo y P R Y u w : Nat} (hPR : P * R = 18446744073709551616) (hY : Y = y * P) (hhi : hi < y) (hu : u = hi * P + lo / R) (hw : w = lo * P % 18446744073709551616) (hlo : lo < 18446744073709551616) (hP : 0 < P) :
    (hi * 18446744073709551616 + lo) * P = u * 18446744073709551616 + w ∧ u < Y ∧ lo / R < P := by
  have hR : 0 < R := by rcases Nat.eq_zero_or_pos R with h | h; · rw [h] at hPR; simp at hPR
                        · exact h
  have h1 : lo / R < P := by rw [Nat.div_lt_iff_lt_mul hR, hPR]; exact hlo
  have h2 : lo = R * (lo / R) + lo % R := (Nat.div_add_mod lo R).symm
  have h3 : lo % R < R := Nat.mod_lt _ hR
  have h4 : lo * P = 18446744073709551616 * (lo / R) + (lo % R) * P := by
    have : lo * P = (R * (lo / R) + lo % R) * P := by rw [← h2]
    rw [this, Nat.add_mul, ← hPR]
    congr 1
    rw [Nat.mul_comm R, Nat.mul_assoc, Nat.mul_comm]
    rw [Nat.mul_comm R P]
  have h5 : (lo % R) * P < 18446744073709551616 := by rw [← hPR, Nat.mul_comm P]; exact Nat.mul_lt_mul_of_pos_right h3 hP
  have h6 : w = (lo % R) * P := by rw [hw, h4, Nat.mul_add_mod, Nat.mod_eq_of_lt h5]
  refine ⟨?_, ?_, h1⟩
  · rw [Nat.add_mul, h4, hu, h6, Nat.add_mul]
    have : hi * 18446744073709551616 * P = hi * P * 18446744073709551616 := by rw [Nat.mul_assoc, Nat.mul_comm _ P, Nat.mul_assoc]
    omega
  · have : (hi + 1) * P ≤ y * P := Nat.mul_le_mul_right _ hhi
    rw [Nat.add_mul] at this
    omega
/-- Both digits are told: the quotient is. -/
theorem two_digits {U y P Y u w w1 w0 q1 q0 r1 : Nat} (hU : U * P = u * 18446744073709551616 + w) (hY : Y = y * P) (hw : w = w1 * 4294967296 + w0) (hP : 0 < P) (hy : 0 < y)
    (hq1 : q1 = (u * 4294967296 + w1) / Y) (hr1 : r1 = (u * 4294967296 + w1) % Y) (hq0 : q0 = (r1 * 4294967296 + w0) / Y) : q1 * 4294967296 + q0 = U / y := by
  have hY0 : 0 < Y := by rw [hY]; exact Nat.mul_pos hy hP
  have e1 : Y * q1 + r1 = u * 4294967296 + w1 := by rw [hq1, hr1]; exact Nat.div_add_mod _ _
  have e0 : Y * q0 + (r1 * 4294967296 + w0) % Y = r1 * 4294967296 + w0 := by rw [hq0]; exact Nat.div_add_mod _ _
  have h0 : (r1 * 4294967296 + w0) % Y < Y := Nat.mod_lt _ hY0
  have e2 : U * P = Y * (q1 * 4294967296 + q0) + (r1 * 4294967296 + w0) % Y := by
    rw [hU, hw, Nat.mul_add]
    have : Y * (q1 * 4294967296) = Y * q1 * 4294967296 := (Nat.mul_assoc _ _ _).symm
    omega
  have e3 : U * P / Y = q1 * 4294967296 + q0 := by rw [e2, Nat.mul_add_div hY0, Nat.div_eq_of_lt h0, Nat.add_zero]
  rw [← e3, hY]
  exact Nat.mul_div_mul_right _ _ hP

/- a limb less a number: what is left, what is borrowed -/
def lessD (x t : Nat) : Nat := if x < t % 1000000000 then x + 1000000000 - t % 1000000000 else x - t % 1000000000
def lessC (x t : Nat) : Nat := if x < t % 1000000000 then t / 1000000000 + 1 else t / 1000000000
theorem less_eq {x t : Nat} : lessD x t + t = x + 1000000000 * lessC x t := by unfold lessD lessC; split <;> omega
theorem lessD_lt {x t : Nat} (h : x < 1000000000) : lessD x t < 1000000000 := by unfold lessD; split <;> omega
theorem lessC_le {x t : Nat} (h : t ≤ 1000000000000000000) : lessC x t ≤ 1000000000 := by unfold lessC; split <;> omega
theorem mid_get {pre s post : List Nat} {o i : Nat} (ho : pre.length = o) (hi : i < s.length) : (pre ++ s ++ post)[o + i]? = s[i]? := by
  rw [List.append_assoc, List.getElem?_append_right (by omega), List.getElem?_append_left (by omega)]
  congr 1; omega
theorem mid_set {pre s post : List Nat} {o i : Nat} (ho : pre.length = o) (hi : i < s.length) (x : Nat) : (pre ++ s ++ post).set (o + i) x = pre ++ s.set i x ++ post := by
  rw [List.append_assoc, List.set_append_right _ _ (by omega), List.set_append_left _ _ (by omega), List.append_assoc]
  congr 3; omega
theorem take_step {V V' S P Tm T y c x d c2 p t : Nat} (h : V + Tm = S + P * c) (hset : V' + P * x = V + P * d) (hl : d + t = x + 1000000000 * c2) (ht : t = c + p) (hp : p = T * y) :
    V' + (Tm + P * p) = S + (P * 1000000000) * c2 := by
  have h1 := congrArg (P * ·) hl
  simp only [Nat.mul_add] at h1
  rw [ht, Nat.mul_add, ← Nat.mul_assoc] at h1
  omega
theorem take_mul {T y P Lk p : Nat} (hp : p = T * y) : T * (Lk + P * y) = T * Lk + P * p := by
  rw [Nat.mul_add, hp]; congr 1; exact Nat.mul_left_comm _ _ _
theorem back_step {V V' S P Lk c x z y c2 : Nat} (h : V + P * c = S + Lk) (hset : V' + P * x = V + P * z) (hl : z + 1000000000 * c2 = x + c + y) :
    V' + (P * 1000000000) * c2 = S + (Lk + P * y) := by
  have h1 := congrArg (P * ·) hl
  simp only [Nat.mul_add] at h1
  rw [← Nat.mul_assoc] at h1
  omega

theorem gA {x y : Nat} (hy : 1000000000 ≤ y) (hx : x < (y + 1) * 1000000000) : x < y * 1000000001 := by
  rw [Nat.add_mul, Nat.one_mul] at hx
  rw [show 1000000001 = 1000000000 + 1 from rfl, Nat.mul_add, Nat.mul_one]
  generalize y * 1000000000 = z at *
  omega
theorem gC {X Y : Nat} (h : X < (Y + 1) * 1000000000) (hY : 1000000000 ≤ Y) : X < Y * 18446744073709551616 :=
  Nat.lt_of_lt_of_le (gA hY h) (Nat.mul_le_mul_left _ (by omega))
theorem gB {V bv K lowV x y : Nat} (hV : V = lowV + K * x) (hlt : V < bv * 1000000000) (e2 : bv * 1000000000 ≤ K * (y + 1) * 1000000000) : x < (y + 1) * 1000000000 := by
  have e4 : K * (y + 1) * 1000000000 = K * ((y + 1) * 1000000000) := Nat.mul_assoc _ _ _
  have e5 : K * x ≤ V := by rw [hV]; exact Nat.le_add_left _ _
  exact Nat.lt_of_mul_lt_mul_left (a := K) (Nat.lt_of_le_of_lt e5 (Nat.lt_of_lt_of_le hlt (e4 ▸ e2)))
/-- The guess of a digit out of the highest three limbs of what is left and the highest two of b. -/
theorem guess_ok {V bv K lowV lowB x y q t : Nat} (hV : V = lowV + K * x) (hb : bv = lowB + K * y) (h1 : lowV < K) (h2 : lowB < K) (hy : 1000000000 ≤ y) (hlt : V < bv * 1000000000) (hq : q = V / bv) (ht : t = x / y) :
    q ≤ t ∧ t ≤ q + 1 ∧ t ≤ 1000000000 ∧ x < (y + 1) * 1000000000 := by
  have hK : 0 < K := by omega
  have hbv : 0 < bv := by
    have : K * 1 ≤ K * y := Nat.mul_le_mul_left _ (by omega)
    omega
  have hx : x < (y + 1) * 1000000000 := by
    have e1 : bv < K * (y + 1) := by rw [Nat.mul_add]; omega
    have e2 : bv * 1000000000 ≤ K * (y + 1) * 1000000000 := Nat.mul_le_mul_right _ (Nat.le_of_lt e1)
    exact gB hV hlt e2
  have htB : t ≤ 1000000000 := by
    have : x < y * 1000000001 := gA hy hx
    have : t < 1000000001 := by rw [ht]; exact (Nat.div_lt_iff_lt_mul (by omega)).2 (by rw [Nat.mul_comm]; exact this)
    omega
  have hqt : q ≤ t := by
    have e1 : q * bv ≤ V := by rw [hq]; exact Nat.div_mul_le_self _ _
    have e2 : q * (K * y) ≤ q * bv := Nat.mul_le_mul_left _ (by omega)
    have e3 : q * (K * y) = K * (q * y) := Nat.mul_left_comm _ _ _
    have e4 : K * (q * y) < K * (x + 1) := by rw [Nat.mul_add]; omega
    have e5 : q * y < x + 1 := Nat.lt_of_mul_lt_mul_left e4
    rw [ht]
    exact (Nat.le_div_iff_mul_le (by omega)).2 (by omega)
  refine ⟨hqt, ?_, htB, hx⟩
  rcases Nat.eq_zero_or_pos t with h0 | h0
  · omega
  · obtain ⟨r, rfl⟩ : ∃ r, t = r + 1 := ⟨t - 1, by omega⟩
    have e1 : (r + 1) * y ≤ x := by rw [ht]; exact Nat.div_mul_le_self _ _
    have e2 : r * bv ≤ r * (K * (y + 1)) := Nat.mul_le_mul_left _ (by rw [Nat.mul_add]; omega)
    have e3 : r * (K * (y + 1)) = K * (r * y + r) := by rw [Nat.mul_left_comm, Nat.mul_add, Nat.mul_one]
    have e4 : r * y + r ≤ x := by rw [Nat.add_mul] at e1; omega
    have e5 : K * (r * y + r) ≤ K * x := Nat.mul_le_mul_left _ e4
    have e6 : r * bv ≤ V := by omega
    have : r ≤ q := by rw [hq]; exact (Nat.le_div_iff_mul_le hbv).2 e6
    omega
theorem top_split (l : List Nat) (k : Nat) (h : k ≤ l.length) : val l = val (l.take k) + 1000000000 ^ k * val (l.drop k) := by
  have := val_append (l.take k) (l.drop k)
  rwa [List.take_append_drop, List.length_take, Nat.min_eq_left h] at this
theorem val_three {l : List Nat} {k a b c : Nat} (h0 : l[k]? = some a) (h1 : l[k + 1]? = some b) (h2 : l[k + 2]? = some c) (hl : l.length = k + 3) : val (l.drop k) = c * 1000000000000000000 + b * 1000000000 + a := by
  rw [drop_at h0, drop_at h1, drop_at h2, List.drop_eq_nil_of_le (by omega)]
  simp [val]; omega
theorem val_two {l : List Nat} {k a b : Nat} (h0 : l[k]? = some a) (h1 : l[k + 1]? = some b) (hl : l.length = k + 2) : val (l.drop k) = b * 1000000000 + a := by
  rw [drop_at h0, drop_at h1, List.drop_eq_nil_of_le (by omega)]
  simp [val]; omega

theorem digit_zero {V b T q v1 : Nat} (h : v1 + T * b = V) (hq : q = V / b) (hqT : q ≤ T) (hb : 0 < b) : T = q ∧ v1 = V % b := by
  have h1 : T ≤ q := by rw [hq]; exact (Nat.le_div_iff_mul_le hb).2 (by omega)
  have e : T = q := by omega
  subst e
  have h2 : b * (V / b) + V % b = V := Nat.div_add_mod V b
  rw [← hq, Nat.mul_comm] at h2
  exact ⟨rfl, by omega⟩
theorem digit_one {V b T q v1 P c v2 c2 : Nat} (h : v1 + T * b = V + P * c) (hc : 0 < c) (hv1 : v1 < P) (hT : T ≤ q + 1) (hqT : q ≤ T) (hq : q = V / b) (hb : 0 < b) (hbP : b ≤ P) (h2 : v2 + P * c2 = v1 + b) (hv2 : v2 < P) (hc2 : c2 ≤ 1) :
    T = q + 1 ∧ v2 = V % b := by
  have hdm : b * (V / b) + V % b = V := Nat.div_add_mod V b
  have hml : V % b < b := Nat.mod_lt _ hb
  rw [← hq, Nat.mul_comm] at hdm
  have hPc : P ≤ P * c := Nat.le_mul_of_pos_right _ hc
  have hTq : T = q + 1 := by
    rcases (by omega : T = q ∨ T = q + 1) with e | e
    · rw [e] at h; omega
    · exact e
  refine ⟨hTq, ?_⟩
  rw [hTq, Nat.add_mul, Nat.one_mul] at h
  have hc1 : c = 1 := by
    rcases (by omega : c = 1 ∨ 2 ≤ c) with e | e
    · exact e
    · have : P * 2 ≤ P * c := Nat.mul_le_mul_left _ e
      omega
  rw [hc1, Nat.mul_one] at h
  rcases (by omega : c2 = 0 ∨ c2 = 1) with e | e
  · rw [e, Nat.mul_zero] at h2; omega
  · rw [e, Nat.mul_one] at h2; omega

theorem row_step {A D b P L L' pre V q : Nat} (h : D * (b * (P * 1000000000)) + L = A) (hL : L = pre + P * V) (hL' : L' = pre + P * (V % b)) (hq : q = V / b) : (q + 1000000000 * D) * (b * P) + L' = A := by
  have hdm : b * (V / b) + V % b = V := Nat.div_add_mod V b
  rw [← hq] at hdm
  have h1 : P * V = P * (b * q) + P * (V % b) := by rw [← Nat.mul_add, hdm]
  have h2 : q * (b * P) = P * (b * q) := by rw [Nat.mul_comm q, Nat.mul_comm b P, Nat.mul_assoc]
  have h3 : 1000000000 * D * (b * P) = D * (b * (P * 1000000000)) := by
    rw [Nat.mul_comm 1000000000 D, Nat.mul_assoc, Nat.mul_comm 1000000000 (b * P), Nat.mul_assoc]
  rw [Nat.add_mul, h2, h3]
  omega
theorem tail_zero {l : List Nat} {m b : Nat} (hm : m ≤ l.length) (h : val l < b) (hb : b ≤ 1000000000 ^ m) : val (l.drop m) = 0 ∧ val (l.take m) = val l := by
  have h1 := top_split l m hm
  rcases Nat.eq_zero_or_pos (val (l.drop m)) with e | e
  · rw [e, Nat.mul_zero] at h1; exact ⟨e, by omega⟩
  · have : 1000000000 ^ m ≤ 1000000000 ^ m * val (l.drop m) := Nat.le_mul_of_pos_right _ e
    omega
theorem row_cut {L : List Nat} {i m n b : Nat} (hl : L.length = n + 1) (hi : i + m ≤ n) (hs : small L = true) (h : val (L.drop (i + 1)) < b) (hb : b ≤ 1000000000 ^ m) :
    ∃ pre s post : List Nat, L = pre ++ s ++ post ∧ pre.length = i ∧ s.length = m + 1 ∧ small s = true ∧ val s < b * 1000000000 ∧ val post = 0 ∧ small pre = true ∧ small post = true ∧ val L = val pre + 1000000000 ^ i * val s := by
  have hz := tail_zero (l := L.drop (i + 1)) (m := m) (by rw [List.length_drop]; omega) h hb
  rw [List.drop_drop] at hz
  refine ⟨L.take i, (L.drop i).take (m + 1), (L.drop i).drop (m + 1), by rw [List.append_assoc, List.take_append_drop, List.take_append_drop], by rw [List.length_take]; omega, by rw [List.length_take, List.length_drop]; omega, small_take (small_drop hs i) _, ?_, ?_, small_take hs i, small_drop (small_drop hs i) _, ?_⟩
  · have h1 := val_drop L i
    have h2 := top_split (L.drop i) (m + 1) (by rw [List.length_drop]; omega)
    have h3 : L.getD i 0 < 1000000000 := by
      rw [List.getD_eq_getElem?_getD, List.getElem?_eq_getElem (by omega)]
      exact small_iff.1 hs _ (List.getElem_mem _)
    rw [List.drop_drop, show i + (m + 1) = i + 1 + m by omega, hz.1, Nat.mul_zero] at h2
    omega
  · rw [List.drop_drop, show i + (m + 1) = i + 1 + m by omega]; exact hz.1
  · have h1 := top_split L i (by omega)
    have h2 := top_split (L.drop i) (m + 1) (by rw [List.length_drop]; omega)
    rw [List.drop_drop, show i + (m + 1) = i + 1 + m by omega, hz.1, Nat.mul_zero, Nat.add_zero] at h2
    rw [← h2]; exact h1
theorem val_joined {pre s post : List Nat} {i : Nat} (hp : pre.length = i) (hz : val post = 0) : val (pre ++ s ++ post) = val pre + 1000000000 ^ i * val s ∧ val ((pre ++ s ++ post).drop i) = val s := by
  constructor
  · rw [List.append_assoc, val_append, val_append, hz, hp]; simp
  · rw [List.append_assoc, List.drop_left' hp, val_append, hz]; simp
end Go.Proofs.Ytljjijcmoafndaa.M
