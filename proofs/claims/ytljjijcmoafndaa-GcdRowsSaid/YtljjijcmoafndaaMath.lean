/-
  Plain mathematics of rows of limbs (base ten to the nine), no program text: 'limbs n' is the one row of limbs without a nought behind that is worth n; 'val' what a row is worth; 'nv' what a row counts as (0 if it is no natural).
-/
namespace Go.Proofs.Ytljjijcmoafndaa.M
set_option linter.unusedSimpArgs false
set_option linter.unusedVariables false

def val : List Nat → Nat
  | [] => 0
  | x :: r => x + 1000000000 * val r

def limbs (n : Nat) : List Nat := if n = 0 then [] else n % 1000000000 :: limbs (n / 1000000000)
termination_by n
decreasing_by omega

def small (l : List Nat) : Bool := l.all fun x => decide (x < 1000000000)
def isNat (l : List Nat) : Bool := small l && (l.getLast? != some 0)
def nv (l : List Nat) : Nat := if isNat l = true then val l else 0
def nat (l : List Nat) : List Nat := if isNat l = true then l else []

theorem limbs_zero : limbs 0 = [] := by rw [limbs]; rfl
theorem limbs_pos {n : Nat} (h : n ≠ 0) : limbs n = n % 1000000000 :: limbs (n / 1000000000) := by rw [limbs, if_neg h]

theorem small_iff {l : List Nat} : small l = true ↔ ∀ x ∈ l, x < 1000000000 := by simp [small]
theorem small_nil : small [] = true := rfl
theorem small_cons {x : Nat} {l : List Nat} : small (x :: l) = true ↔ x < 1000000000 ∧ small l = true := by simp [small]
theorem small_take {l : List Nat} (h : small l = true) (k : Nat) : small (l.take k) = true := by
  rw [small_iff] at *; exact fun x hx => h x (List.mem_of_mem_take hx)
theorem small_drop {l : List Nat} (h : small l = true) (k : Nat) : small (l.drop k) = true := by
  rw [small_iff] at *; exact fun x hx => h x (List.mem_of_mem_drop hx)
theorem small_append {l m : List Nat} : small (l ++ m) = true ↔ small l = true ∧ small m = true := by simp [small]

theorem limbs_small (n : Nat) : small (limbs n) = true := by
  induction n using Nat.strongRecOn with
  | _ n ih =>
    by_cases h : n = 0
    · subst h; rw [limbs_zero]; rfl
    · rw [limbs_pos h, small_cons]; exact ⟨by omega, ih _ (by omega)⟩
theorem val_limbs (n : Nat) : val (limbs n) = n := by
  induction n using Nat.strongRecOn with
  | _ n ih =>
    by_cases h : n = 0
    · subst h; rw [limbs_zero]; rfl
    · rw [limbs_pos h, val, ih _ (by omega)]; omega
theorem limbs_ne {n : Nat} (h : n ≠ 0) : limbs n ≠ [] := by rw [limbs_pos h]; simp
theorem limbs_last (n : Nat) : (limbs n).getLast? ≠ some 0 := by
  induction n using Nat.strongRecOn with
  | _ n ih =>
    by_cases h : n = 0
    · subst h; rw [limbs_zero]; simp
    · rw [limbs_pos h]
      by_cases h1 : n / 1000000000 = 0
      · rw [h1, limbs_zero]; simp; omega
      · rw [List.getLast?_cons_of_ne_nil (limbs_ne h1)]; exact ih _ (by omega)
theorem isNat_limbs (n : Nat) : isNat (limbs n) = true := by
  have h1 := limbs_small n
  have h2 := limbs_last n
  simp [isNat, h1, h2]
theorem nv_limbs (n : Nat) : nv (limbs n) = n := by rw [nv, if_pos (isNat_limbs n), val_limbs]
theorem nat_limbs (n : Nat) : nat (limbs n) = limbs n := by rw [nat, if_pos (isNat_limbs n)]

theorem val_append (l m : List Nat) : val (l ++ m) = val l + 1000000000 ^ l.length * val m := by
  induction l with
  | nil => simp [val]
  | cons x r ih => simp only [List.cons_append, val, ih, List.length_cons, Nat.pow_succ]; rw [Nat.mul_add, ← Nat.mul_assoc, Nat.mul_comm (1000000000 ^ r.length) 1000000000]; omega
theorem val_lt {l : List Nat} (h : small l = true) : val l < 1000000000 ^ l.length := by
  induction l with
  | nil => simp [val]
  | cons x r ih =>
    rw [small_cons] at h
    have := ih h.2
    simp only [val, List.length_cons, Nat.pow_succ]
    omega
theorem last_cons {x : Nat} {r : List Nat} (h : r ≠ []) : (x :: r).getLast? = r.getLast? := List.getLast?_cons_of_ne_nil h
theorem val_pos {l : List Nat} (hn : l ≠ []) (hl : l.getLast? ≠ some 0) : 0 < val l := by
  induction l with
  | nil => exact absurd rfl hn
  | cons x r ih =>
    by_cases h : r = []
    · subst h; simp at hl; simp [val]; omega
    · rw [last_cons h] at hl
      have := ih h hl
      simp only [val]; omega
theorem limbs_val {l : List Nat} (hs : small l = true) (hl : l.getLast? ≠ some 0) : limbs (val l) = l := by
  induction l with
  | nil => exact limbs_zero
  | cons x r ih =>
    rw [small_cons] at hs
    have hx := hs.1
    by_cases h : r = []
    · subst h
      simp at hl
      simp only [val]
      rw [limbs_pos (by omega)]
      rw [show (x + 1000000000 * 0) % 1000000000 = x by omega, show (x + 1000000000 * 0) / 1000000000 = 0 by omega, limbs_zero]
    · rw [last_cons h] at hl
      have hp := val_pos h hl
      simp only [val]
      rw [limbs_pos (by omega), show (x + 1000000000 * val r) % 1000000000 = x by omega, show (x + 1000000000 * val r) / 1000000000 = val r by omega, ih hs.2 hl]
theorem isNat_iff {l : List Nat} : isNat l = true ↔ small l = true ∧ l.getLast? ≠ some 0 := by simp [isNat]
theorem limbs_nv (l : List Nat) : limbs (nv l) = nat l := by
  unfold nv nat
  split
  · next h => rw [isNat_iff] at h; exact limbs_val h.1 h.2
  · exact limbs_zero
theorem isNat_nat (l : List Nat) : isNat (nat l) = true := by rw [← limbs_nv]; exact isNat_limbs _
theorem nv_nat (l : List Nat) : nv (nat l) = nv l := by rw [← limbs_nv, nv_limbs]
theorem val_nat (l : List Nat) : val (nat l) = nv l := by rw [← limbs_nv, val_limbs]
theorem small_nat (l : List Nat) : small (nat l) = true := by rw [← limbs_nv]; exact limbs_small _
theorem last_nat (l : List Nat) : (nat l).getLast? ≠ some 0 := by rw [← limbs_nv]; exact limbs_last _
theorem nat_length (l : List Nat) : (nat l).length ≤ l.length := by unfold nat; split <;> simp
theorem limbs_eq_nil {n : Nat} : limbs n = [] ↔ n = 0 := by
  constructor
  · intro h; have := val_limbs n; rw [h] at this; exact this.symm
  · rintro rfl; exact limbs_zero
theorem limbs_inj {m n : Nat} (h : limbs m = limbs n) : m = n := by rw [← val_limbs m, h, val_limbs]

theorem limbs_length_le {n k : Nat} (h : n < 1000000000 ^ k) : (limbs n).length ≤ k := by
  induction k generalizing n with
  | zero => have : n = 0 := by simpa using h
            subst this; rw [limbs_zero]; simp
  | succ k ih =>
    by_cases h0 : n = 0
    · subst h0; rw [limbs_zero]; simp
    · rw [limbs_pos h0, List.length_cons]
      have : n / 1000000000 < 1000000000 ^ k := by rw [Nat.div_lt_iff_lt_mul (by omega)]; rwa [Nat.pow_succ] at h
      have := ih this
      omega
theorem nv_lt (l : List Nat) : nv l < 1000000000 ^ l.length := by
  have h := val_lt (small_nat l)
  rw [val_nat] at h
  exact Nat.lt_of_lt_of_le h (Nat.pow_le_pow_right (by omega) (nat_length l))
theorem limbs_add_length (a b : Nat) {k m : Nat} (ha : a < 1000000000 ^ k) (hb : b < 1000000000 ^ m) : (limbs (a + b)).length ≤ max k m + 1 := by
  apply limbs_length_le
  have h1 : 1000000000 ^ k ≤ 1000000000 ^ max k m := Nat.pow_le_pow_right (by omega) (by omega)
  have h2 : 1000000000 ^ m ≤ 1000000000 ^ max k m := Nat.pow_le_pow_right (by omega) (by omega)
  rw [Nat.pow_succ]; omega
theorem limbs_mul_length (a b : Nat) {k m : Nat} (ha : a < 1000000000 ^ k) (hb : b < 1000000000 ^ m) : (limbs (a * b)).length ≤ k + m := by
  apply limbs_length_le
  rw [Nat.pow_add]
  exact Nat.mul_lt_mul'' ha hb
theorem limbs_len_lt (n : Nat) : n < 1000000000 ^ (limbs n).length := by
  have h := val_lt (limbs_small n); rwa [val_limbs] at h

/- noughts behind are taken away, one by one -/
theorem take_nought {l : List Nat} {k : Nat} (hk : k < l.length) (h0 : l[k] = 0) : val (l.take k) = val (l.take (k + 1)) := by
  rw [List.take_succ_eq_append_getElem hk, val_append, h0]; simp [val]
theorem take_done {l : List Nat} {k : Nat} (hs : small l = true) (hk : k ≤ l.length) (hv : val (l.take k) = val l) (hl : ∀ h : k - 1 < l.length, 0 < k → l[k - 1] ≠ 0) : l.take k = limbs (val l) := by
  rw [← hv]
  refine (limbs_val (small_take hs k) ?_).symm
  rcases Nat.eq_zero_or_pos k with h | h
  · subst h; simp
  · rw [List.getLast?_eq_getElem?, List.getElem?_take, List.length_take]
    have h1 : min k l.length - 1 = k - 1 := by omega
    rw [h1, if_pos (by omega), List.getElem?_eq_getElem (by omega)]
    intro e
    exact hl (by omega) h (by injection e)

theorem small_snoc {l : List Nat} {k x : Nat} (h : l[k]? = some x) (hs : small (l.take k) = true) (hx : x < 1000000000) : small (l.take (k + 1)) = true := by
  rw [List.take_add_one, h, small_append]
  exact ⟨hs, by simp [small, hx]⟩
theorem isNat_big {l : List Nat} {k x : Nat} (h : l[k]? = some x) (hx : 1000000000 ≤ x) : isNat l = false := by
  rw [Bool.eq_false_iff]
  intro hc
  have := small_iff.1 (isNat_iff.1 hc).1 x (List.mem_of_getElem? h)
  omega
theorem isNat_end {l : List Nat} {x : Nat} (hs : small l = true) (h : l[l.length - 1]? = some x) : isNat l = decide (x ≠ 0) := by
  rw [isNat, hs, List.getLast?_eq_getElem?, h]
  by_cases hx : x = 0 <;> simp [hx]

/- comparing -/
theorem val_lt_of_length {l m : List Nat} (hl : small l = true) (hm : m.getLast? ≠ some 0) (h : l.length < m.length) : val l < val m := by
  have h1 := val_lt hl
  have h2 : 1000000000 ^ l.length ≤ val m := by
    clear h1 hl
    generalize l.length = k at *
    induction m generalizing k with
    | nil => simp at h
    | cons x r ih =>
      by_cases hr : r = []
      · subst hr; simp at h hm; subst h; simp [val]; omega
      · rw [last_cons hr] at hm
        rcases k with _ | k
        · have := val_pos hr hm; simp only [val]; omega
        · have := ih hm k (by simpa using h)
          simp only [val, Nat.pow_succ]; omega
  omega
theorem drop_cons {l : List Nat} {i : Nat} (h : i < l.length) : l.drop i = l[i] :: l.drop (i + 1) := List.drop_eq_getElem_cons h
theorem val_split (l : List Nat) (i : Nat) (h : i < l.length) : val l = val (l.take i) + 1000000000 ^ i * (l[i] + 1000000000 * val (l.drop (i + 1))) := by
  have := val_append (l.take i) (l.drop i)
  rw [List.take_append_drop, drop_cons h, List.length_take, Nat.min_eq_left (by omega)] at this
  simpa [val] using this
theorem val_lt_at {l m : List Nat} (hl : small l = true) {i : Nat} (h1 : i < l.length) (h2 : i < m.length) (hd : l.drop (i + 1) = m.drop (i + 1)) (h : l[i] < m[i]) : val l < val m := by
  rw [val_split l i h1, val_split m i h2, hd]
  have ht := val_lt (small_take hl i)
  rw [List.length_take, Nat.min_eq_left (by omega)] at ht
  have : 1000000000 ^ i * (l[i] + 1 + 1000000000 * val (m.drop (i + 1))) ≤ 1000000000 ^ i * (m[i] + 1000000000 * val (m.drop (i + 1))) := Nat.mul_le_mul_left _ (by omega)
  rw [show l[i] + 1 + 1000000000 * val (m.drop (i + 1)) = l[i] + 1000000000 * val (m.drop (i + 1)) + 1 by omega, Nat.mul_add, Nat.mul_one] at this
  omega
theorem drop_at {l : List Nat} {k x : Nat} (h : l[k]? = some x) : l.drop k = x :: l.drop (k + 1) := by
  obtain ⟨hlt, he⟩ := List.getElem?_eq_some_iff.1 h
  rw [List.drop_eq_getElem_cons hlt, he]
theorem drop_same {l m : List Nat} {k x : Nat} (hl : l[k]? = some x) (hm : m[k]? = some x) (h : l.drop (k + 1) = m.drop (k + 1)) : l.drop k = m.drop k := by
  rw [drop_at hl, drop_at hm, h]
theorem val_lt_at' {l m : List Nat} (hs : small l = true) {i x y : Nat} (h1 : l[i]? = some x) (h2 : m[i]? = some y) (hd : l.drop (i + 1) = m.drop (i + 1)) (h : x < y) : val l < val m := by
  obtain ⟨a1, b1⟩ := List.getElem?_eq_some_iff.1 h1
  obtain ⟨a2, b2⟩ := List.getElem?_eq_some_iff.1 h2
  exact val_lt_at hs a1 a2 hd (by rw [b1, b2]; exact h)
def cmp (a b : Nat) : Int := if a < b then -1 else if b < a then 1 else 0
theorem cmp_neg {a b : Nat} : cmp a b < 0 ↔ a < b := by unfold cmp; split <;> (try split) <;> omega
theorem cmp_zero {a b : Nat} : cmp a b = 0 ↔ a = b := by unfold cmp; split <;> (try split) <;> omega
theorem cmp_self (a : Nat) : cmp a a = 0 := cmp_zero.2 rfl
theorem cmp_lt {a b : Nat} (h : a < b) : cmp a b = -1 := if_pos h
theorem cmp_gt {a b : Nat} (h : b < a) : cmp a b = 1 := by unfold cmp; rw [if_neg (by omega), if_pos h]
theorem cmp_swap (a b : Nat) : cmp a b = - cmp b a := by unfold cmp; split <;> (try split) <;> (try split) <;> omega
theorem cmp_nonneg {a b : Nat} (h : b ≤ a) : 0 ≤ cmp a b := by unfold cmp; rw [if_neg (by omega)]; split <;> omega
theorem cmp_nonpos {a b : Nat} (h : a ≤ b) : cmp a b ≤ 0 := by unfold cmp; split <;> (try split) <;> omega
theorem cmp_range (a b : Nat) : -1 ≤ cmp a b ∧ cmp a b ≤ 1 := by unfold cmp; split <;> (try split) <;> omega
theorem cmp_at {l m : List Nat} (hl : small l = true) (hm : small m = true) {i x y : Nat} (h1 : l[i]? = some x) (h2 : m[i]? = some y) (hd : l.drop (i + 1) = m.drop (i + 1)) (hne : x ≠ y) : cmp x y = cmp (val l) (val m) := by
  rcases Nat.lt_or_ge x y with h | h
  · rw [cmp_lt h, cmp_lt (val_lt_at' hl h1 h2 hd h)]
  · have h : y < x := by omega
    rw [cmp_gt h, cmp_gt (val_lt_at' hm h2 h1 hd.symm h)]
theorem cmp_len {l m : List Nat} (hl : isNat l = true) (hm : isNat m = true) (hne : l.length ≠ m.length) : cmp l.length m.length = cmp (val l) (val m) := by
  rw [isNat_iff] at hl hm
  rcases Nat.lt_or_ge l.length m.length with h | h
  · rw [cmp_lt h, cmp_lt (val_lt_of_length hl.1 hm.2 h)]
  · have h : m.length < l.length := by omega
    rw [cmp_gt h, cmp_gt (val_lt_of_length hm.1 hl.2 h)]
theorem even_val (l : List Nat) : val l % 2 = (l.headD 0) % 2 := by cases l <;> simp [val]; omega


/- sums of many rows, place by place -/
def tot (ls : List (List Nat)) (i : Nat) : Nat := (ls.map fun l => val (l.drop i)).sum
def col (ls : List (List Nat)) (i : Nat) : Nat := (ls.map fun l => l.getD i 0).sum
def longest (ls : List (List Nat)) : Nat := (ls.map List.length).foldr max 0
theorem val_drop (l : List Nat) (i : Nat) : val (l.drop i) = l.getD i 0 + 1000000000 * val (l.drop (i + 1)) := by
  by_cases h : i < l.length
  · rw [List.drop_eq_getElem_cons h]; simp [val, h]
  · rw [List.drop_eq_nil_of_le (by omega), List.drop_eq_nil_of_le (by omega)]; simp [val, h]
theorem tot_step (ls : List (List Nat)) (i : Nat) : tot ls i = col ls i + 1000000000 * tot ls (i + 1) := by
  induction ls with
  | nil => rfl
  | cons l r ih =>
    have := val_drop l i
    unfold tot col at *
    simp only [List.map_cons, List.sum_cons]
    omega
theorem longest_cons (l : List Nat) (r : List (List Nat)) : longest (l :: r) = max l.length (longest r) := rfl
theorem le_longest {ls : List (List Nat)} {l : List Nat} (h : l ∈ ls) : l.length ≤ longest ls := by
  induction ls with
  | nil => cases h
  | cons m r ih =>
    rw [longest_cons]
    rcases List.mem_cons.1 h with rfl | h
    · omega
    · have := ih h; omega
theorem tot_done {ls : List (List Nat)} {i : Nat} (h : longest ls ≤ i) : tot ls i = 0 := by
  induction ls with
  | nil => rfl
  | cons l r ih =>
    rw [longest_cons] at h
    unfold tot at *
    simp only [List.map_cons, List.sum_cons]
    rw [ih (by omega), List.drop_eq_nil_of_le (by omega)]
    rfl
theorem getLast?_drop_ne {l : List Nat} {i : Nat} (h : i < l.length) : (l.drop i).getLast? = l.getLast? := by
  rw [List.getLast?_drop, if_neg (by omega)]
theorem tot_pos {ls : List (List Nat)} (hn : ∀ l ∈ ls, l.getLast? ≠ some 0) {i : Nat} (h : i < longest ls) : 0 < tot ls i := by
  induction ls with
  | nil => simp [longest] at h
  | cons l r ih =>
    rw [longest_cons] at h
    have hc : tot (l :: r) i = val (l.drop i) + tot r i := rfl
    rw [hc]
    by_cases h1 : i < longest r
    · have := ih (fun l hl => hn l (List.mem_cons_of_mem _ hl)) h1; omega
    · have h2 : i < l.length := by omega
      have := val_pos (l := l.drop i) (by intro e; have := congrArg List.length e; simp at this; omega) (by rw [getLast?_drop_ne h2]; exact hn l (by simp))
      omega
theorem col_snoc (ls : List (List Nat)) (l : List Nat) (i : Nat) : col (ls ++ [l]) i = col ls i + l.getD i 0 := by unfold col; simp
theorem col_take {ls : List (List Nat)} {l : List Nat} {k : Nat} (h : ls[k]? = some l) (i : Nat) : col (ls.take (k + 1)) i = col (ls.take k) i + l.getD i 0 := by
  rw [List.take_add_one, h]; exact col_snoc _ _ _
theorem longest_snoc (ls : List (List Nat)) (l : List Nat) : longest (ls ++ [l]) = max (longest ls) l.length := by
  induction ls with
  | nil => simp [longest]
  | cons m r ih => rw [List.cons_append, longest_cons, longest_cons, ih]; omega
theorem longest_take {ls : List (List Nat)} {l : List Nat} {k : Nat} (h : ls[k]? = some l) : longest (ls.take (k + 1)) = max (longest (ls.take k)) l.length := by
  rw [List.take_add_one, h]; exact longest_snoc _ _
theorem longest_take_le (ls : List (List Nat)) (k : Nat) : longest (ls.take k) ≤ longest ls := by
  induction ls generalizing k with
  | nil => simp
  | cons m r ih => rcases k with _ | k
                   · simp [longest]
                   · rw [List.take_succ_cons, longest_cons, longest_cons]; have := ih k; omega
theorem col_le {ls : List (List Nat)} (h : ∀ l ∈ ls, ∀ x ∈ l, x < 4294967296) (i : Nat) : col ls i ≤ ls.length * 4294967295 := by
  induction ls with
  | nil => simp [col]
  | cons l r ih =>
    have := ih (fun l hl => h l (List.mem_cons_of_mem _ hl))
    have hx : l.getD i 0 ≤ 4294967295 := by
      by_cases hi : i < l.length
      · have := h l (by simp) l[i] (List.getElem_mem _)
        simp [List.getD, hi]; omega
      · simp [List.getD, hi]
    have hc : col (l :: r) i = l.getD i 0 + col r i := rfl
    rw [hc, List.length_cons]; omega
theorem col_take_le {ls : List (List Nat)} (h : ∀ l ∈ ls, ∀ x ∈ l, x < 4294967296) (k i : Nat) : col (ls.take k) i ≤ ls.length * 4294967295 := by
  have := col_le (ls := ls.take k) (fun l hl => h l (List.mem_of_mem_take hl)) i
  have h2 : (ls.take k).length ≤ ls.length := by rw [List.length_take]; omega
  exact Nat.le_trans this (Nat.mul_le_mul_right _ h2)
theorem step_aux {c t u v k : Nat} (h1 : t = u + 1000000000 * v) (hk : k = c + u) : (c + t) % 1000000000 = k % 1000000000 ∧ (c + t) / 1000000000 = k / 1000000000 + v := by omega
/-- One place more: what is carried and the place's column give the next limb and the next carry. -/
theorem sum_step {S c k : Nat} {xs : List Nat} {ls : List (List Nat)} {i : Nat} (h : limbs S = xs ++ limbs (c + tot ls i)) (hp : 0 < c + tot ls i) (hk : k = c + col ls i) :
    limbs S = (xs ++ [k % 1000000000]) ++ limbs (k / 1000000000 + tot ls (i + 1)) := by
  obtain ⟨e1, e2⟩ := step_aux (tot_step ls i) hk
  have e3 : limbs (c + tot ls i) = (c + tot ls i) % 1000000000 :: limbs ((c + tot ls i) / 1000000000) := limbs_pos (by omega)
  rw [e1, e2] at e3
  rw [h, e3, List.append_assoc, List.cons_append, List.nil_append]
theorem tot_two (l m : List Nat) : tot [l, m] 0 = val l + val m := by simp [tot]
theorem tot_three (l m n : List Nat) : tot [l, m, n] 0 = val l + val m + val n := by simp [tot]; omega

/- one row less another, place by place -/
theorem val_take {l : List Nat} {k x : Nat} (h : l[k]? = some x) : val (l.take (k + 1)) = val (l.take k) + 1000000000 ^ k * x := by
  obtain ⟨hlt, _⟩ := List.getElem?_eq_some_iff.1 h
  rw [List.take_add_one, h, val_append, List.length_take, Nat.min_eq_left (by omega)]
  simp [val]
theorem val_take_over {l : List Nat} {k : Nat} (h : l.length ≤ k) : val (l.take (k + 1)) = val (l.take k) + 1000000000 ^ k * 0 := by
  rw [List.take_of_length_le h, List.take_of_length_le (by omega)]; rfl
theorem val_set {l : List Nat} {k x : Nat} (h : k < l.length) : val ((l.set k x).take (k + 1)) = val (l.take k) + 1000000000 ^ k * x := by
  rw [val_take (x := x) (by rw [List.getElem?_set_self h]), List.take_set_of_le (Nat.le_refl _)]
theorem small_set {l : List Nat} {k x : Nat} (hs : small (l.take k) = true) (hx : x < 1000000000) (h : k < l.length) : small ((l.set k x).take (k + 1)) = true := by
  rw [List.take_add_one, List.getElem?_set_self h, List.take_set_of_le (Nat.le_refl _), small_append]
  exact ⟨hs, by simp [small, hx]⟩
theorem diff_step {Vl Vm Vo P bo bo' x y z : Nat} (h : Vl + P * bo = Vm + Vo) (hs : x + 1000000000 * bo' = y + bo + z) :
    (Vl + P * x) + (P * 1000000000) * bo' = (Vm + P * y) + (Vo + P * z) := by
  have := congrArg (P * ·) hs
  simp only [Nat.mul_add] at this
  rw [Nat.mul_assoc]
  omega
theorem diff_end {a b o P bo : Nat} (h : a + P * bo = b + o) (ho : o < P) (hb : bo ≤ 1) (hle : b ≤ a) : o = a - b := by
  rcases (by omega : bo = 0 ∨ bo = 1) with rfl | rfl <;> omega
theorem length_le_of_val {l m : List Nat} (hl : small l = true) (hm : m.getLast? ≠ some 0) (h : val m ≤ val l) : m.length ≤ l.length := by
  rcases Nat.lt_or_ge l.length m.length with h1 | h1
  · have := val_lt_of_length hl hm h1; omega
  · exact h1
theorem val_replicate (n : Nat) : val (List.replicate n 0) = 0 := by
  induction n with
  | zero => rfl
  | succ n ih => rw [List.replicate_succ, val, ih]
theorem small_replicate (n : Nat) : small (List.replicate n 0) = true := by rw [small_iff]; intro x hx; have := List.eq_of_mem_replicate hx; omega

/- products, limb by limb -/
theorem val_set_at {l : List Nat} {k z : Nat} (h : l[k]? = some z) (x : Nat) : val (l.set k x) + 1000000000 ^ k * z = val l + 1000000000 ^ k * x := by
  induction l generalizing k with
  | nil => simp at h
  | cons y r ih =>
    rcases k with _ | k
    · simp at h; subst h; simp [val]; omega
    · have := ih (k := k) (by simpa using h)
      simp only [List.set_cons_succ, val, Nat.pow_succ]
      have e1 : 1000000000 ^ k * 1000000000 * z = 1000000000 * (1000000000 ^ k * z) := by rw [Nat.mul_comm (1000000000 ^ k), Nat.mul_assoc]
      have e2 : 1000000000 ^ k * 1000000000 * x = 1000000000 * (1000000000 ^ k * x) := by rw [Nat.mul_comm (1000000000 ^ k), Nat.mul_assoc]
      rw [e1, e2]
      omega
theorem small_set' {l : List Nat} {k x : Nat} (hs : small l = true) (hx : x < 1000000000) : small (l.set k x) = true := by
  rw [small_iff] at *
  intro y hy
  rcases List.mem_or_eq_of_mem_set hy with h | h
  · exact hs y h
  · omega
theorem getD_set {l : List Nat} {k x t : Nat} (h : k ≠ t) : (l.set k x).getD t 0 = l.getD t 0 := by
  rw [List.getD_eq_getElem?_getD, List.getD_eq_getElem?_getD, List.getElem?_set_ne h]
theorem mul_step {V V' P W Bi Bj Lj x y z c p t : Nat} (h : V + P * c = W + Bi * y * Lj) (hset : V' + P * z = V + P * (t % 1000000000)) (ht : t = p + z + c) (hp : p = y * x) (hP : P = Bi * Bj) :
    V' + (P * 1000000000) * (t / 1000000000) = W + Bi * y * (Lj + Bj * x) := by
  have h1 : P * t = P * p + P * z + P * c := by rw [ht, Nat.mul_add, Nat.mul_add]
  have h2 : P * t = P * (t % 1000000000) + (P * 1000000000) * (t / 1000000000) := by rw [Nat.mul_assoc, ← Nat.mul_add, Nat.mod_add_div]
  have h3 : Bi * y * (Lj + Bj * x) = Bi * y * Lj + P * p := by
    rw [Nat.mul_add, hP, hp]; congr 1
    simp only [Nat.mul_assoc, Nat.mul_left_comm, Nat.mul_comm]
  rw [h3]
  omega
theorem carry_lt {p z c t x y : Nat} (hp : p = y * x) (hx : x < 1000000000) (hy : y < 1000000000) (hz : z < 1000000000) (hc : c < 1000000000) (ht : t = p + z + c) : p ≤ 999999998000000001 ∧ t / 1000000000 < 1000000000 := by
  have : y * x ≤ 999999999 * 999999999 := Nat.mul_le_mul (by omega) (by omega)
  omega
theorem mul_end {V V' P W L T Bi y c : Nat} (h : V + P * c = W + Bi * y * L) (hset : V' + P * 0 = V + P * c) (hW : W = L * T) : V' = L * (T + Bi * y) := by
  have : L * (T + Bi * y) = W + Bi * y * L := by rw [Nat.mul_add, hW]; congr 1; exact Nat.mul_comm _ _
  omega

/- by one limb -/
theorem div_mod_of {q b r a : Nat} (h : q * b + r = a) (hr : r < b) : q = a / b ∧ r = a % b := by
  subst h
  constructor
  · rw [Nat.mul_comm, Nat.mul_add_div (by omega), Nat.div_eq_of_lt hr, Nat.add_zero]
  · rw [Nat.mul_comm, Nat.mul_add_mod, Nat.mod_eq_of_lt hr]
theorem drop_set {l : List Nat} {k x : Nat} (h : k < l.length) : (l.set k x).drop k = x :: l.drop (k + 1) := by
  rw [drop_at (l := l.set k x) (k := k) (x := x) (List.getElem?_set_self h), List.drop_set_of_lt (by omega)]
theorem div_step {D b rest L s q r x : Nat} (h : D * b + rest = L) (hs : s = rest * 1000000000 + x) (hq : q = s / b) (hr : r = s % b) : (q + 1000000000 * D) * b + r = x + 1000000000 * L := by
  have h1 : q * b + r = s := by rw [hq, hr, Nat.mul_comm]; exact Nat.div_add_mod s b
  rw [Nat.add_mul, Nat.mul_assoc]
  omega
theorem pow_le_val {l : List Nat} {k : Nat} (hs : small l = true) (hl : l.getLast? ≠ some 0) (h : l.length = k + 1) : 1000000000 ^ k ≤ val l := by
  rcases Nat.lt_or_ge (val l) (1000000000 ^ k) with h1 | h1
  · have h2 := limbs_length_le h1
    rw [limbs_val hs hl] at h2
    omega
  · exact h1
theorem val_pad (l : List Nat) (n : Nat) : val (l ++ List.replicate n 0) = val l := by rw [val_append, val_replicate]; simp
end Go.Proofs.Ytljjijcmoafndaa.M
