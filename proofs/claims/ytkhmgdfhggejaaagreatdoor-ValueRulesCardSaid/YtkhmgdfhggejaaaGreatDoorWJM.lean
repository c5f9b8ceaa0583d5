/-
  Plain mathematics of rows of limbs (base ten to the nine), no program text: 'limbs n' is the one row of limbs without a nought behind that is worth n; 'val' what a row is worth; 'nv' what a row counts as (0 if it is no natural).
-/
namespace Go.Proofs.YtkhmgdfhggejaaaGreatDoor.M
set_option linter.unusedSimpArgs false
set_option linter.unusedVariables false
def val : List Nat → Nat
 | [] => 0
 | x :: r => x + 1000000000 * val r
def limbs (n : Nat) : List Nat := if n = 0 then [] else n % 1000000000 :: limbs (n / 1000000000)
termination_by n
decreasing_by omega
def small (l : List Nat) : Bool := l.all fun x => decide (x < 1000000000)
def isNat (l : List Nat) : Bool := small l && (l.getLast? != some 0)
def nv (l : List Nat) : Nat := if isNat l = true then val l else 0
def nat (l : List Nat) : List Nat := if isNat l = true then l else []
theorem limbs_zero : limbs 0 = [] := by rw [limbs]; rfl
theorem limbs_pos {n : Nat} (h : n ≠ 0) : limbs n = n % 1000000000 :: limbs (n / 1000000000) := by rw [limbs, if_neg h]
theorem small_iff {l : List Nat} : small l = true ↔ ∀ x ∈ l, x < 1000000000 := by simp [small]
theorem small_cons {x : Nat} {l : List Nat} : small (x :: l) = true ↔ x < 1000000000 ∧ small l = true := by simp [small]
theorem small_take {l : List Nat} (h : small l = true) (k : Nat) : small (l.take k) = true := by
 rw [small_iff] at *; exact fun x hx => h x (List.mem_of_mem_take hx)
theorem small_drop {l : List Nat} (h : small l = true) (k : Nat) : small (l.drop k) = true := by
 rw [small_iff] at *; exact fun x hx => h x (List.mem_of_mem_drop hx)
theorem small_append {l m : List Nat} : small (l ++ m) = true ↔ small l = true ∧ small m = true := by simp [small]
theorem limbs_small (n : Nat) : small (limbs n) = true := by
 induction n using Nat.strongRecOn with
 | _ n ih =>
  by_cases h : n = 0
  ·subst h; rw [limbs_zero]; rfl
  ·rw [limbs_pos h, small_cons]; exact ⟨by omega, ih _ (by omega)⟩
theorem val_limbs (n : Nat) : val (limbs n) = n := by
 induction n using Nat.strongRecOn with
 | _ n ih =>
  by_cases h : n = 0
  ·subst h; rw [limbs_zero]; rfl
  ·rw [limbs_pos h, val, ih _ (by omega)]; omega
theorem limbs_ne {n : Nat} (h : n ≠ 0) : limbs n ≠ [] := by rw [limbs_pos h]; simp
theorem limbs_last (n : Nat) : (limbs n).getLast? ≠ some 0 := by
 induction n using Nat.strongRecOn with
 | _ n ih =>
  by_cases h : n = 0
  ·subst h; rw [limbs_zero]; simp
  ·rw [limbs_pos h]
   by_cases h1 : n / 1000000000 = 0
   ·rw [h1, limbs_zero]; simp; omega
   ·rw [List.getLast?_cons_of_ne_nil (limbs_ne h1)]; exact ih _ (by omega)
theorem isNat_limbs (n : Nat) : isNat (limbs n) = true := by
 have h1 := limbs_small n
 have h2 := limbs_last n
 simp [isNat, h1, h2]
theorem nv_limbs (n : Nat) : nv (limbs n) = n := by rw [nv, if_pos (isNat_limbs n), val_limbs]
theorem val_append (l m : List Nat) : val (l ++ m) = val l + 1000000000 ^ l.length * val m := by
 induction l with
 | nil => simp [val]
 | cons x r ih => simp only [List.cons_append, val, ih, List.length_cons, Nat.pow_succ]; rw [Nat.mul_add, ← Nat.mul_assoc, Nat.mul_comm (1000000000 ^ r.length) 1000000000]; omega
theorem val_lt {l : List Nat} (h : small l = true) : val l < 1000000000 ^ l.length := by
 induction l with
 | nil => simp [val]
 | cons x r ih =>
  rw [small_cons] at h
  have := ih h.2
  simp only [val, List.length_cons, Nat.pow_succ]
  omega
theorem last_cons {x : Nat} {r : List Nat} (h : r ≠ []) : (x :: r).getLast? = r.getLast? := List.getLast?_cons_of_ne_nil h
theorem val_pos {l : List Nat} (hn : l ≠ []) (hl : l.getLast? ≠ some 0) : 0 < val l := by
 induction l with
 | nil => exact absurd rfl hn
 | cons x r ih =>
  by_cases h : r = []
  ·subst h; simp at hl; simp [val]; omega
  ·rw [last_cons h] at hl
   have := ih h hl
   simp only [val]; omega
theorem limbs_val {l : List Nat} (hs : small l = true) (hl : l.getLast? ≠ some 0) : limbs (val l) = l := by
 induction l with
 | nil => exact limbs_zero
 | cons x r ih =>
  rw [small_cons] at hs
  have hx := hs.1
  by_cases h : r = []
  ·subst h
   simp at hl
   simp only [val]
   rw [limbs_pos (by omega)]
   rw [show (x + 1000000000 * 0) % 1000000000 = x by omega, show (x + 1000000000 * 0) / 1000000000 = 0 by omega, limbs_zero]
  ·rw [last_cons h] at hl
   have hp := val_pos h hl
   simp only [val]
   rw [limbs_pos (by omega), show (x + 1000000000 * val r) % 1000000000 = x by omega, show (x + 1000000000 * val r) / 1000000000 = val r by omega, ih hs.2 hl]
theorem isNat_iff {l : List Nat} : isNat l = true ↔ small l = true ∧ l.getLast? ≠ some 0 := by simp [isNat]
theorem limbs_nv (l : List Nat) : limbs (nv l) = nat l := by
 unfold nv nat
 split
 ·next h => rw [isNat_iff] at h; exact limbs_val h.1 h.2
 ·exact limbs_zero
theorem isNat_nat (l : List Nat) : isNat (nat l) = true := by rw [← limbs_nv]; exact isNat_limbs _
theorem nv_nat (l : List Nat) : nv (nat l) = nv l := by rw [← limbs_nv, nv_limbs]
theorem val_nat (l : List Nat) : val (nat l) = nv l := by rw [← limbs_nv, val_limbs]
theorem small_nat (l : List Nat) : small (nat l) = true := by rw [← limbs_nv]; exact limbs_small _
theorem last_nat (l : List Nat) : (nat l).getLast? ≠ some 0 := by rw [← limbs_nv]; exact limbs_last _
theorem nat_length (l : List Nat) : (nat l).length ≤ l.length := by unfold nat; split <;> simp
theorem limbs_eq_nil {n : Nat} : limbs n = [] ↔ n = 0 := by
 constructor
 ·intro h; have := val_limbs n; rw [h] at this; exact this.symm
 ·rintro rfl; exact limbs_zero
theorem limbs_length_le {n k : Nat} (h : n < 1000000000 ^ k) : (limbs n).length ≤ k := by
 induction k generalizing n with
 | zero => have : n = 0 := by simpa using h
           subst this; rw [limbs_zero]; simp
 | succ k ih =>
  by_cases h0 : n = 0
  ·subst h0; rw [limbs_zero]; simp
  ·rw [limbs_pos h0, List.length_cons]
   have : n / 1000000000 < 1000000000 ^ k := by rw [Nat.div_lt_iff_lt_mul (by omega)]; rwa [Nat.pow_succ] at h
   have := ih this
   omega
theorem nv_lt (l : List Nat) : nv l < 1000000000 ^ l.length := by
 have h := val_lt (small_nat l)
 rw [val_nat] at h
 exact Nat.lt_of_lt_of_le h (Nat.pow_le_pow_right (by omega) (nat_length l))
theorem limbs_add_length (a b : Nat) {k m : Nat} (ha : a < 1000000000 ^ k) (hb : b < 1000000000 ^ m) : (limbs (a + b)).length ≤ max k m + 1 := by
 apply limbs_length_le
 have h1 : 1000000000 ^ k ≤ 1000000000 ^ max k m := Nat.pow_le_pow_right (by omega) (by omega)
 have h2 : 1000000000 ^ m ≤ 1000000000 ^ max k m := Nat.pow_le_pow_right (by omega) (by omega)
 rw [Nat.pow_succ]; omega
theorem limbs_mul_length (a b : Nat) {k m : Nat} (ha : a < 1000000000 ^ k) (hb : b < 1000000000 ^ m) : (limbs (a * b)).length ≤ k + m := by
 apply limbs_length_le
 rw [Nat.pow_add]
 exact Nat.mul_lt_mul'' ha hb
theorem limbs_len_lt (n : Nat) : n < 1000000000 ^ (limbs n).length := by
 have h := val_lt (limbs_small n); rwa [val_limbs] at h
/- noughts behind are taken away, one by one -/
theorem take_nought {l : List Nat} {k : Nat} (hk : k < l.length) (h0 : l[k] = 0) : val (l.take k) = val (l.take (k + 1)) := by
 rw [List.take_succ_eq_append_getElem hk, val_append, h0]; simp [val]
theorem take_done {l : List Nat} {k : Nat} (hs : small l = true) (hk : k ≤ l.length) (hv : val (l.take k) = val l) (hl : ∀ h : k - 1 < l.length, 0 < k → l[k - 1] ≠ 0) : l.take k = limbs (val l) := by
 rw [← hv]
 refine (limbs_val (small_take hs k) ?_).symm
 rcases Nat.eq_zero_or_pos k with h | h
 ·subst h; simp
 ·rw [List.getLast?_eq_getElem?, List.getElem?_take, List.length_take]
  have h1 : min k l.length - 1 = k - 1 := by omega
  rw [h1, if_pos (by omega), List.getElem?_eq_getElem (by omega)]
  intro e
  exact hl (by omega) h (by injection e)
theorem small_snoc {l : List Nat} {k x : Nat} (h : l[k]? = some x) (hs : small (l.take k) = true) (hx : x < 1000000000) : small (l.take (k + 1)) = true := by
 rw [List.take_add_one, h, small_append]
 exact ⟨hs, by simp [small, hx]⟩
theorem isNat_big {l : List Nat} {k x : Nat} (h : l[k]? = some x) (hx : 1000000000 ≤ x) : isNat l = false := by
 rw [Bool.eq_false_iff]
 intro hc
 have := small_iff.1 (isNat_iff.1 hc).1 x (List.mem_of_getElem? h)
 omega
theorem isNat_end {l : List Nat} {x : Nat} (hs : small l = true) (h : l[l.length - 1]? = some x) : isNat l = decide (x ≠ 0) := by
 rw [isNat, hs, List.getLast?_eq_getElem?, h]
 by_cases hx : x = 0 <;> simp [hx]
/- comparing -/
theorem val_lt_of_length {l m : List Nat} (hl : small l = true) (hm : m.getLast? ≠ some 0) (h : l.length < m.length) : val l < val m := by
 have h1 := val_lt hl
 have h2 : 1000000000 ^ l.length ≤ val m := by
  clear h1 hl
  generalize l.length = k at *
  induction m generalizing k with
  | nil => simp at h
  | cons x r ih =>
   by_cases hr : r = []
   ·subst hr; simp at h hm; subst h; simp [val]; omega
   ·rw [last_cons hr] at hm
    rcases k with _ | k
    ·have := val_pos hr hm; simp only [val]; omega
    ·have := ih hm k (by simpa using h)
     simp only [val, Nat.pow_succ]; omega
 omega
theorem drop_cons {l : List Nat} {i : Nat} (h : i < l.length) : l.drop i = l[i] :: l.drop (i + 1) := List.drop_eq_getElem_cons h
theorem val_split (l : List Nat) (i : Nat) (h : i < l.length) : val l = val (l.take i) + 1000000000 ^ i * (l[i] + 1000000000 * val (l.drop (i + 1))) := by
 have := val_append (l.take i) (l.drop i)
 rw [List.take_append_drop, drop_cons h, List.length_take, Nat.min_eq_left (by omega)] at this
 simpa [val] using this
theorem val_lt_at {l m : List Nat} (hl : small l = true) {i : Nat} (h1 : i < l.length) (h2 : i < m.length) (hd : l.drop (i + 1) = m.drop (i + 1)) (h : l[i] < m[i]) : val l < val m := by
 rw [val_split l i h1, val_split m i h2, hd]
 have ht := val_lt (small_take hl i)
 rw [List.length_take, Nat.min_eq_left (by omega)] at ht
 have : 1000000000 ^ i * (l[i] + 1 + 1000000000 * val (m.drop (i + 1))) ≤ 1000000000 ^ i * (m[i] + 1000000000 * val (m.drop (i + 1))) := Nat.mul_le_mul_left _ (by omega)
 rw [show l[i] + 1 + 1000000000 * val (m.drop (i + 1)) = l[i] + 1000000000 * val (m.drop (i + 1)) + 1 by omega, Nat.mul_add, Nat.mul_one] at this
 omega
theorem drop_at {l : List Nat} {k x : Nat} (h : l[k]? = some x) : l.drop k = x :: l.drop (k + 1) := by
 obtain ⟨hlt, he⟩ := List.getElem?_eq_some_iff.1 h
 rw [List.drop_eq_getElem_cons hlt, he]
theorem drop_same {l m : List Nat} {k x : Nat} (hl : l[k]? = some x) (hm : m[k]? = some x) (h : l.drop (k + 1) = m.drop (k + 1)) : l.drop k = m.drop k := by
 rw [drop_at hl, drop_at hm, h]
theorem val_lt_at' {l m : List Nat} (hs : small l = true) {i x y : Nat} (h1 : l[i]? = some x) (h2 : m[i]? = some y) (hd : l.drop (i + 1) = m.drop (i + 1)) (h : x < y) : val l < val m := by
 obtain ⟨a1, b1⟩ := List.getElem?_eq_some_iff.1 h1
 obtain ⟨a2, b2⟩ := List.getElem?_eq_some_iff.1 h2
 exact val_lt_at hs a1 a2 hd (by rw [b1, b2]; exact h)
def cmp (a b : Nat) : Int := if a < b then -1 else if b < a then 1 else 0
theorem cmp_neg {a b : Nat} : cmp a b < 0 ↔ a < b := by unfold cmp; split <;> (try split) <;> omega
theorem cmp_zero {a b : Nat} : cmp a b = 0 ↔ a = b := by unfold cmp; split <;> (try split) <;> omega
theorem cmp_self (a : Nat) : cmp a a = 0 := cmp_zero.2 rfl
theorem cmp_lt {a b : Nat} (h : a < b) : cmp a b = -1 := if_pos h
theorem cmp_gt {a b : Nat} (h : b < a) : cmp a b = 1 := by unfold cmp; rw [if_neg (by omega), if_pos h]
theorem cmp_swap (a b : Nat) : cmp a b = - cmp b a := by unfold cmp; split <;> (try split) <;> (try split) <;> omega
theorem cmp_nonneg {a b : Nat} (h : b ≤ a) : 0 ≤ cmp a b := by unfold cmp; rw [if_neg (by omega)]; split <;> omega
theorem cmp_nonpos {a b : Nat} (h : a ≤ b) : cmp a b ≤ 0 := by unfold cmp; split <;> (try split) <;> omega
theorem cmp_range (a b : Nat) : -1 ≤ cmp a b ∧ cmp a b ≤ 1 := by unfold cmp; split <;> (try split) <;> omega
theorem cmp_at {l m : List Nat} (hl : small l = true) (hm : small m = true) {i x y : Nat} (h1 : l[i]? = some x) (h2 : m[i]? = some y) (hd : l.drop (i + 1) = m.drop (i + 1)) (hne : x ≠ y) : cmp x y = cmp (val l) (val m) := by
 rcases Nat.lt_or_ge x y with h | h
 ·rw [cmp_lt h, cmp_lt (val_lt_at' hl h1 h2 hd h)]
 ·have h : y < x := by omega
  rw [cmp_gt h, cmp_gt (val_lt_at' hm h2 h1 hd.symm h)]
theorem cmp_len {l m : List Nat} (hl : isNat l = true) (hm : isNat m = true) (hne : l.length ≠ m.length) : cmp l.length m.length = cmp (val l) (val m) := by
 rw [isNat_iff] at hl hm
 rcases Nat.lt_or_ge l.length m.length with h | h
 ·rw [cmp_lt h, cmp_lt (val_lt_of_length hl.1 hm.2 h)]
 ·have h : m.length < l.length := by omega
  rw [cmp_gt h, cmp_gt (val_lt_of_length hm.1 hl.2 h)]
/- sums of many rows, place by place -/
def tot (ls : List (List Nat)) (i : Nat) : Nat := (ls.map fun l => val (l.drop i)).sum
def col (ls : List (List Nat)) (i : Nat) : Nat := (ls.map fun l => l.getD i 0).sum
def longest (ls : List (List Nat)) : Nat := (ls.map List.length).foldr max 0
theorem val_drop (l : List Nat) (i : Nat) : val (l.drop i) = l.getD i 0 + 1000000000 * val (l.drop (i + 1)) := by
 by_cases h : i < l.length
 ·rw [List.drop_eq_getElem_cons h]; simp [val, h]
 ·rw [List.drop_eq_nil_of_le (by omega), List.drop_eq_nil_of_le (by omega)]; simp [val, h]
theorem tot_step (ls : List (List Nat)) (i : Nat) : tot ls i = col ls i + 1000000000 * tot ls (i + 1) := by
 induction ls with
 | nil => rfl
 | cons l r ih =>
  have := val_drop l i
  unfold tot col at *
  simp only [List.map_cons, List.sum_cons]
  omega
theorem longest_cons (l : List Nat) (r : List (List Nat)) : longest (l :: r) = max l.length (longest r) := rfl
theorem tot_done {ls : List (List Nat)} {i : Nat} (h : longest ls ≤ i) : tot ls i = 0 := by
 induction ls with
 | nil => rfl
 | cons l r ih =>
  rw [longest_cons] at h
  unfold tot at *
  simp only [List.map_cons, List.sum_cons]
  rw [ih (by omega), List.drop_eq_nil_of_le (by omega)]
  rfl
theorem getLast?_drop_ne {l : List Nat} {i : Nat} (h : i < l.length) : (l.drop i).getLast? = l.getLast? := by
 rw [List.getLast?_drop, if_neg (by omega)]
theorem tot_pos {ls : List (List Nat)} (hn : ∀ l ∈ ls, l.getLast? ≠ some 0) {i : Nat} (h : i < longest ls) : 0 < tot ls i := by
 induction ls with
 | nil => simp [longest] at h
 | cons l r ih =>
  rw [longest_cons] at h
  have hc : tot (l :: r) i = val (l.drop i) + tot r i := rfl
  rw [hc]
  by_cases h1 : i < longest r
  ·have := ih (fun l hl => hn l (List.mem_cons_of_mem _ hl)) h1; omega
  ·have h2 : i < l.length := by omega
   have := val_pos (l := l.drop i) (by intro e; have := congrArg List.length e; simp at this; omega) (by rw [getLast?_drop_ne h2]; exact hn l (by simp))
   omega
theorem col_snoc (ls : List (List Nat)) (l : List Nat) (i : Nat) : col (ls ++ [l]) i = col ls i + l.getD i 0 := by unfold col; simp
theorem col_take {ls : List (List Nat)} {l : List Nat} {k : Nat} (h : ls[k]? = some l) (i : Nat) : col (ls.take (k + 1)) i = col (ls.take k) i + l.getD i 0 := by
 rw [List.take_add_one, h]; exact col_snoc _ _ _
theorem longest_snoc (ls : List (List Nat)) (l : List Nat) : longest (ls ++ [l]) = max (longest ls) l.length := by
 induction ls with
 | nil => simp [longest]
 | cons m r ih => rw [List.cons_append, longest_cons, longest_cons, ih]; omega
theorem longest_take {ls : List (List Nat)} {l : List Nat} {k : Nat} (h : ls[k]? = some l) : longest (ls.take (k + 1)) = max (longest (ls.take k)) l.length := by
 rw [List.take_add_one, h]; exact longest_snoc _ _
theorem longest_take_le (ls : List (List Nat)) (k : Nat) : longest (ls.take k) ≤ longest ls := by
 induction ls generalizing k with
 | nil => simp
 | cons m r ih => rcases k with _ | k
                  ·simp [longest]
                  ·rw [List.take_succ_cons, longest_cons, longest_cons]; have := ih k; omega
theorem col_le {ls : List (List Nat)} (h : ∀ l ∈ ls, ∀ x ∈ l, x < 4294967296) (i : Nat) : col ls i ≤ ls.length * 4294967295 := by
 induction ls with
 | nil => simp [col]
 | cons l r ih =>
  have := ih (fun l hl => h l (List.mem_cons_of_mem _ hl))
  have hx : l.getD i 0 ≤ 4294967295 := by
   by_cases hi : i < l.length
   ·have := h l (by simp) l[i] (List.getElem_mem _)
    simp [List.getD, hi]; omega
   ·simp [List.getD, hi]
  have hc : col (l :: r) i = l.getD i 0 + col r i := rfl
  rw [hc, List.length_cons]; omega
theorem col_take_le {ls : List (List Nat)} (h : ∀ l ∈ ls, ∀ x ∈ l, x < 4294967296) (k i : Nat) : col (ls.take k) i ≤ ls.length * 4294967295 := by
 have := col_le (ls := ls.take k) (fun l hl => h l (List.mem_of_mem_take hl)) i
 have h2 : (ls.take k).length ≤ ls.length := by rw [List.length_take]; omega
 exact Nat.le_trans this (Nat.mul_le_mul_right _ h2)
theorem step_aux {c t u v k : Nat} (h1 : t = u + 1000000000 * v) (hk : k = c + u) : (c + t) % 1000000000 = k % 1000000000 ∧ (c + t) / 1000000000 = k / 1000000000 + v := by omega
theorem sum_step {S c k : Nat} {xs : List Nat} {ls : List (List Nat)} {i : Nat} (h : limbs S = xs ++ limbs (c + tot ls i)) (hp : 0 < c + tot ls i) (hk : k = c + col ls i) :
 limbs S = (xs ++ [k % 1000000000]) ++ limbs (k / 1000000000 + tot ls (i + 1)) := by
 obtain ⟨e1, e2⟩ := step_aux (tot_step ls i) hk
 have e3 : limbs (c + tot ls i) = (c + tot ls i) % 1000000000 :: limbs ((c + tot ls i) / 1000000000) := limbs_pos (by omega)
 rw [e1, e2] at e3
 rw [h, e3, List.append_assoc, List.cons_append, List.nil_append]
theorem tot_two (l m : List Nat) : tot [l, m] 0 = val l + val m := by simp [tot]
/- one row less another, place by place -/
theorem val_take {l : List Nat} {k x : Nat} (h : l[k]? = some x) : val (l.take (k + 1)) = val (l.take k) + 1000000000 ^ k * x := by
 obtain ⟨hlt, _⟩ := List.getElem?_eq_some_iff.1 h
 rw [List.take_add_one, h, val_append, List.length_take, Nat.min_eq_left (by omega)]
 simp [val]
theorem val_take_over {l : List Nat} {k : Nat} (h : l.length ≤ k) : val (l.take (k + 1)) = val (l.take k) + 1000000000 ^ k * 0 := by
 rw [List.take_of_length_le h, List.take_of_length_le (by omega)]; rfl
theorem val_set {l : List Nat} {k x : Nat} (h : k < l.length) : val ((l.set k x).take (k + 1)) = val (l.take k) + 1000000000 ^ k * x := by
 rw [val_take (x := x) (by rw [List.getElem?_set_self h]), List.take_set_of_le (Nat.le_refl _)]
theorem small_set {l : List Nat} {k x : Nat} (hs : small (l.take k) = true) (hx : x < 1000000000) (h : k < l.length) : small ((l.set k x).take (k + 1)) = true := by
 rw [List.take_add_one, List.getElem?_set_self h, List.take_set_of_le (Nat.le_refl _), small_append]
 exact ⟨hs, by simp [small, hx]⟩
theorem diff_step {Vl Vm Vo P bo bo' x y z : Nat} (h : Vl + P * bo = Vm + Vo) (hs : x + 1000000000 * bo' = y + bo + z) :
 (Vl + P * x) + (P * 1000000000) * bo' = (Vm + P * y) + (Vo + P * z) := by
 have := congrArg (P * ·) hs
 simp only [Nat.mul_add] at this
 rw [Nat.mul_assoc]
 omega
theorem diff_end {a b o P bo : Nat} (h : a + P * bo = b + o) (ho : o < P) (hb : bo ≤ 1) (hle : b ≤ a) : o = a - b := by
 rcases (by omega : bo = 0 ∨ bo = 1) with rfl | rfl <;> omega
theorem length_le_of_val {l m : List Nat} (hl : small l = true) (hm : m.getLast? ≠ some 0) (h : val m ≤ val l) : m.length ≤ l.length := by
 rcases Nat.lt_or_ge l.length m.length with h1 | h1
 ·have := val_lt_of_length hl hm h1; omega
 ·exact h1
theorem val_replicate (n : Nat) : val (List.replicate n 0) = 0 := by
 induction n with
 | zero => rfl
 | succ n ih => rw [List.replicate_succ, val, ih]
theorem small_replicate (n : Nat) : small (List.replicate n 0) = true := by rw [small_iff]; intro x hx; have := List.eq_of_mem_replicate hx; omega
/- products, limb by limb -/
theorem val_set_at {l : List Nat} {k z : Nat} (h : l[k]? = some z) (x : Nat) : val (l.set k x) + 1000000000 ^ k * z = val l + 1000000000 ^ k * x := by
 induction l generalizing k with
 | nil => simp at h
 | cons y r ih =>
  rcases k with _ | k
  ·simp at h; subst h; simp [val]; omega
  ·have := ih (k := k) (by simpa using h)
   simp only [List.set_cons_succ, val, Nat.pow_succ]
   have e1 : 1000000000 ^ k * 1000000000 * z = 1000000000 * (1000000000 ^ k * z) := by rw [Nat.mul_comm (1000000000 ^ k), Nat.mul_assoc]
   have e2 : 1000000000 ^ k * 1000000000 * x = 1000000000 * (1000000000 ^ k * x) := by rw [Nat.mul_comm (1000000000 ^ k), Nat.mul_assoc]
   rw [e1, e2]
   omega
theorem small_set' {l : List Nat} {k x : Nat} (hs : small l = true) (hx : x < 1000000000) : small (l.set k x) = true := by
 rw [small_iff] at *
 intro y hy
 rcases List.mem_or_eq_of_mem_set hy with h | h
 ·exact hs y h
 ·omega
theorem getD_set {l : List Nat} {k x t : Nat} (h : k ≠ t) : (l.set k x).getD t 0 = l.getD t 0 := by
 rw [List.getD_eq_getElem?_getD, List.getD_eq_getElem?_getD, List.getElem?_set_ne h]
theorem mul_step {V V' P W Bi Bj Lj x y z c p t : Nat} (h : V + P * c = W + Bi * y * Lj) (hset : V' + P * z = V + P * (t % 1000000000)) (ht : t = p + z + c) (hp : p = y * x) (hP : P = Bi * Bj) :
 V' + (P * 1000000000) * (t / 1000000000) = W + Bi * y * (Lj + Bj * x) := by
 have h1 : P * t = P * p + P * z + P * c := by rw [ht, Nat.mul_add, Nat.mul_add]
 have h2 : P * t = P * (t % 1000000000) + (P * 1000000000) * (t / 1000000000) := by rw [Nat.mul_assoc, ← Nat.mul_add, Nat.mod_add_div]
 have h3 : Bi * y * (Lj + Bj * x) = Bi * y * Lj + P * p := by
  rw [Nat.mul_add, hP, hp]; congr 1
  simp only [Nat.mul_assoc, Nat.mul_left_comm, Nat.mul_comm]
 rw [h3]
 omega
theorem carry_lt {p z c t x y : Nat} (hp : p = y * x) (hx : x < 1000000000) (hy : y < 1000000000) (hz : z < 1000000000) (hc : c < 1000000000) (ht : t = p + z + c) : p ≤ 999999998000000001 ∧ t / 1000000000 < 1000000000 := by
 have : y * x ≤ 999999999 * 999999999 := Nat.mul_le_mul (by omega) (by omega)
 omega
theorem mul_end {V V' P W L T Bi y c : Nat} (h : V + P * c = W + Bi * y * L) (hset : V' + P * 0 = V + P * c) (hW : W = L * T) : V' = L * (T + Bi * y) := by
 have : L * (T + Bi * y) = W + Bi * y * L := by rw [Nat.mul_add, hW]; congr 1; exact Nat.mul_comm _ _
 omega
/- by one limb -/
theorem div_mod_of {q b r a : Nat} (h : q * b + r = a) (hr : r < b) : q = a / b ∧ r = a % b := by
 subst h
 constructor
 ·rw [Nat.mul_comm, Nat.mul_add_div (by omega), Nat.div_eq_of_lt hr, Nat.add_zero]
 ·rw [Nat.mul_comm, Nat.mul_add_mod, Nat.mod_eq_of_lt hr]
theorem drop_set {l : List Nat} {k x : Nat} (h : k < l.length) : (l.set k x).drop k = x :: l.drop (k + 1) := by
 rw [drop_at (l := l.set k x) (k := k) (x := x) (List.getElem?_set_self h), List.drop_set_of_lt (by omega)]
theorem div_step {D b rest L s q r x : Nat} (h : D * b + rest = L) (hs : s = rest * 1000000000 + x) (hq : q = s / b) (hr : r = s % b) : (q + 1000000000 * D) * b + r = x + 1000000000 * L := by
 have h1 : q * b + r = s := by rw [hq, hr, Nat.mul_comm]; exact Nat.div_add_mod s b
 rw [Nat.add_mul, Nat.mul_assoc]
 omega
theorem pow_le_val {l : List Nat} {k : Nat} (hs : small l = true) (hl : l.getLast? ≠ some 0) (h : l.length = k + 1) : 1000000000 ^ k ≤ val l := by
 rcases Nat.lt_or_ge (val l) (1000000000 ^ k) with h1 | h1
 ·have h2 := limbs_length_le h1
  rw [limbs_val hs hl] at h2
  omega
 ·exact h1
theorem val_pad (l : List Nat) (n : Nat) : val (l ++ List.replicate n 0) = val l := by rw [val_append, val_replicate]; simp
theorem qhat_init {Y a b u v T q r : Nat} (hY : Y = a * 4294967296 + b) (hb : b < 4294967296) (ha : 2147483648 ≤ a) (hu : u < Y) (hv : v < 4294967296) (hT : T = (u * 4294967296 + v) / Y) (hq : q = u / a) (hr : r = u % a) :
 T ≤ q ∧ q * a + r = u ∧ q ≤ 4294967297 ∧ r < a := by
 have h1 : q * a + r = u := by rw [hq, hr, Nat.mul_comm]; exact Nat.div_add_mod u a
 have hra : r < a := by rw [hr]; exact Nat.mod_lt _ (by omega)
 refine ⟨?_, h1, ?_, hra⟩
 ·have h2 : u + 1 ≤ (q + 1) * a := by rw [Nat.add_mul]; omega
  have h3 : (u + 1) * 4294967296 ≤ (q + 1) * a * 4294967296 := Nat.mul_le_mul_right _ h2
  have h4 : (q + 1) * Y = (q + 1) * a * 4294967296 + (q + 1) * b := by rw [hY, Nat.mul_add, Nat.mul_assoc]
  have h5 : u * 4294967296 + v < (q + 1) * Y := by omega
  have h6 : T < q + 1 := by rw [hT]; exact (Nat.div_lt_iff_lt_mul (by omega)).2 h5
  omega
 ·have h2 : u < a * 4294967298 := by omega
  have h3 : u / a < 4294967298 := (Nat.div_lt_iff_lt_mul (by omega)).2 (by rw [Nat.mul_comm]; exact h2)
  omega
theorem qhat_small {Y u v T : Nat} (hu : u < Y) (hv : v < 4294967296) (hT : T = (u * 4294967296 + v) / Y) : T < 4294967296 := by
 rw [hT]
 refine (Nat.div_lt_iff_lt_mul (by omega)).2 ?_
 have : (u + 1) * 4294967296 ≤ Y * 4294967296 := Nat.mul_le_mul_right _ hu
 rw [Nat.mul_comm 4294967296]
 omega
theorem qhat_split {Y a b q : Nat} (hY : Y = a * 4294967296 + b) : q * Y = q * a * 4294967296 + q * b := by rw [hY, Nat.mul_add, Nat.mul_assoc]
theorem qhat_dec {Y a b u v T q r : Nat} (hY : Y = a * 4294967296 + b) (hu : u < Y) (hv : v < 4294967296) (hT : T = (u * 4294967296 + v) / Y) (hle : T ≤ q) (hqr : q * a + r = u) (hc : 4294967296 ≤ q ∨ 4294967296 * r + v < q * b) :
 ∃ p, q = p + 1 ∧ T ≤ p ∧ p * a + (r + a) = u := by
 have h1 := qhat_small hu hv hT
 have h2 : T < q := by
  rcases hc with h | h
  ·omega
  ·rw [hT]
   refine (Nat.div_lt_iff_lt_mul (by omega)).2 ?_
   have := qhat_split (q := q) hY
   have h3 : (q * a + r) * 4294967296 = u * 4294967296 := by rw [hqr]
   rw [Nat.add_mul] at h3
   omega
 refine ⟨q - 1, by omega, by omega, ?_⟩
 obtain ⟨p, rfl⟩ : ∃ p, q = p + 1 := ⟨q - 1, by omega⟩
 rw [Nat.add_mul] at hqr
 rw [Nat.add_sub_cancel]
 omega
theorem qhat_done {Y a b u v T q r : Nat} (hY : Y = a * 4294967296 + b) (hY0 : 0 < Y) (hT : T = (u * 4294967296 + v) / Y) (hle : T ≤ q) (hqr : q * a + r = u) (hc : q * b ≤ 4294967296 * r + v) : q = T := by
 have h2 : q ≤ T := by
  rw [hT]
  refine (Nat.le_div_iff_mul_le hY0).2 ?_
  have := qhat_split (q := q) hY
  have h3 : (q * a + r) * 4294967296 = u * 4294967296 := by rw [hqr]
  rw [Nat.add_mul] at h3
  omega
 omega
theorem qhat_over {b q r v : Nat} (hb : b < 4294967296) (hq : q ≤ 4294967296) (hr : 4294967296 ≤ r) : q * b ≤ 4294967296 * r + v := by
 have h1 : q * b ≤ 4294967296 * b := Nat.mul_le_mul_right _ hq
 omega
theorem shift_words {hi lo y P R Y u w : Nat} (hPR : P * R = 18446744073709551616) (hY : Y = y * P) (hhi : hi < y) (hu : u = hi * P + lo / R) (hw : w = lo * P % 18446744073709551616) (hlo : lo < 18446744073709551616) (hP : 0 < P) :
 (hi * 18446744073709551616 + lo) * P = u * 18446744073709551616 + w ∧ u < Y ∧ lo / R < P := by
 have hR : 0 < R := by rcases Nat.eq_zero_or_pos R with h | h; · rw [h] at hPR; simp at hPR
                       ·exact h
 have h1 : lo / R < P := by rw [Nat.div_lt_iff_lt_mul hR, hPR]; exact hlo
 have h2 : lo = R * (lo / R) + lo % R := (Nat.div_add_mod lo R).symm
 have h3 : lo % R < R := Nat.mod_lt _ hR
 have h4 : lo * P = 18446744073709551616 * (lo / R) + (lo % R) * P := by
  have : lo * P = (R * (lo / R) + lo % R) * P := by rw [← h2]
  rw [this, Nat.add_mul, ← hPR]
  congr 1
  rw [Nat.mul_comm R, Nat.mul_assoc, Nat.mul_comm]
  rw [Nat.mul_comm R P]
 have h5 : (lo % R) * P < 18446744073709551616 := by rw [← hPR, Nat.mul_comm P]; exact Nat.mul_lt_mul_of_pos_right h3 hP
 have h6 : w = (lo % R) * P := by rw [hw, h4, Nat.mul_add_mod, Nat.mod_eq_of_lt h5]
 refine ⟨?_, ?_, h1⟩
 ·rw [Nat.add_mul, h4, hu, h6, Nat.add_mul]
  have : hi * 18446744073709551616 * P = hi * P * 18446744073709551616 := by rw [Nat.mul_assoc, Nat.mul_comm _ P, Nat.mul_assoc]
  omega
 ·have : (hi + 1) * P ≤ y * P := Nat.mul_le_mul_right _ hhi
  rw [Nat.add_mul] at this
  omega
theorem two_digits {U y P Y u w w1 w0 q1 q0 r1 : Nat} (hU : U * P = u * 18446744073709551616 + w) (hY : Y = y * P) (hw : w = w1 * 4294967296 + w0) (hP : 0 < P) (hy : 0 < y)
 (hq1 : q1 = (u * 4294967296 + w1) / Y) (hr1 : r1 = (u * 4294967296 + w1) % Y) (hq0 : q0 = (r1 * 4294967296 + w0) / Y) : q1 * 4294967296 + q0 = U / y := by
 have hY0 : 0 < Y := by rw [hY]; exact Nat.mul_pos hy hP
 have e1 : Y * q1 + r1 = u * 4294967296 + w1 := by rw [hq1, hr1]; exact Nat.div_add_mod _ _
 have e0 : Y * q0 + (r1 * 4294967296 + w0) % Y = r1 * 4294967296 + w0 := by rw [hq0]; exact Nat.div_add_mod _ _
 have h0 : (r1 * 4294967296 + w0) % Y < Y := Nat.mod_lt _ hY0
 have e2 : U * P = Y * (q1 * 4294967296 + q0) + (r1 * 4294967296 + w0) % Y := by
  rw [hU, hw, Nat.mul_add]
  have : Y * (q1 * 4294967296) = Y * q1 * 4294967296 := (Nat.mul_assoc _ _ _).symm
  omega
 have e3 : U * P / Y = q1 * 4294967296 + q0 := by rw [e2, Nat.mul_add_div hY0, Nat.div_eq_of_lt h0, Nat.add_zero]
 rw [← e3, hY]
 exact Nat.mul_div_mul_right _ _ hP
/- a limb less a number: what is left, what is borrowed -/
def lessD (x t : Nat) : Nat := if x < t % 1000000000 then x + 1000000000 - t % 1000000000 else x - t % 1000000000
def lessC (x t : Nat) : Nat := if x < t % 1000000000 then t / 1000000000 + 1 else t / 1000000000
theorem less_eq {x t : Nat} : lessD x t + t = x + 1000000000 * lessC x t := by unfold lessD lessC; split <;> omega
theorem lessD_lt {x t : Nat} (h : x < 1000000000) : lessD x t < 1000000000 := by unfold lessD; split <;> omega
theorem lessC_le {x t : Nat} (h : t ≤ 1000000000000000000) : lessC x t ≤ 1000000000 := by unfold lessC; split <;> omega
theorem mid_get {pre s post : List Nat} {o i : Nat} (ho : pre.length = o) (hi : i < s.length) : (pre ++ s ++ post)[o + i]? = s[i]? := by
 rw [List.append_assoc, List.getElem?_append_right (by omega), List.getElem?_append_left (by omega)]
 congr 1; omega
theorem mid_set {pre s post : List Nat} {o i : Nat} (ho : pre.length = o) (hi : i < s.length) (x : Nat) : (pre ++ s ++ post).set (o + i) x = pre ++ s.set i x ++ post := by
 rw [List.append_assoc, List.set_append_right _ _ (by omega), List.set_append_left _ _ (by omega), List.append_assoc]
 congr 3; omega
theorem take_step {V V' S P Tm T y c x d c2 p t : Nat} (h : V + Tm = S + P * c) (hset : V' + P * x = V + P * d) (hl : d + t = x + 1000000000 * c2) (ht : t = c + p) (hp : p = T * y) :
 V' + (Tm + P * p) = S + (P * 1000000000) * c2 := by
 have h1 := congrArg (P * ·) hl
 simp only [Nat.mul_add] at h1
 rw [ht, Nat.mul_add, ← Nat.mul_assoc] at h1
 omega
theorem take_mul {T y P Lk p : Nat} (hp : p = T * y) : T * (Lk + P * y) = T * Lk + P * p := by
 rw [Nat.mul_add, hp]; congr 1; exact Nat.mul_left_comm _ _ _
theorem back_step {V V' S P Lk c x z y c2 : Nat} (h : V + P * c = S + Lk) (hset : V' + P * x = V + P * z) (hl : z + 1000000000 * c2 = x + c + y) :
 V' + (P * 1000000000) * c2 = S + (Lk + P * y) := by
 have h1 := congrArg (P * ·) hl
 simp only [Nat.mul_add] at h1
 rw [← Nat.mul_assoc] at h1
 omega
theorem gA {x y : Nat} (hy : 1000000000 ≤ y) (hx : x < (y + 1) * 1000000000) : x < y * 1000000001 := by
 rw [Nat.add_mul, Nat.one_mul] at hx
 rw [show 1000000001 = 1000000000 + 1 from rfl, Nat.mul_add, Nat.mul_one]
 generalize y * 1000000000 = z at *
 omega
theorem gC {X Y : Nat} (h : X < (Y + 1) * 1000000000) (hY : 1000000000 ≤ Y) : X < Y * 18446744073709551616 :=
 Nat.lt_of_lt_of_le (gA hY h) (Nat.mul_le_mul_left _ (by omega))
theorem gB {V bv K lowV x y : Nat} (hV : V = lowV + K * x) (hlt : V < bv * 1000000000) (e2 : bv * 1000000000 ≤ K * (y + 1) * 1000000000) : x < (y + 1) * 1000000000 := by
 have e4 : K * (y + 1) * 1000000000 = K * ((y + 1) * 1000000000) := Nat.mul_assoc _ _ _
 have e5 : K * x ≤ V := by rw [hV]; exact Nat.le_add_left _ _
 exact Nat.lt_of_mul_lt_mul_left (a := K) (Nat.lt_of_le_of_lt e5 (Nat.lt_of_lt_of_le hlt (e4 ▸ e2)))
theorem guess_ok {V bv K lowV lowB x y q t : Nat} (hV : V = lowV + K * x) (hb : bv = lowB + K * y) (h1 : lowV < K) (h2 : lowB < K) (hy : 1000000000 ≤ y) (hlt : V < bv * 1000000000) (hq : q = V / bv) (ht : t = x / y) :
 q ≤ t ∧ t ≤ q + 1 ∧ t ≤ 1000000000 ∧ x < (y + 1) * 1000000000 := by
 have hK : 0 < K := by omega
 have hbv : 0 < bv := by
  have : K * 1 ≤ K * y := Nat.mul_le_mul_left _ (by omega)
  omega
 have hx : x < (y + 1) * 1000000000 := by
  have e1 : bv < K * (y + 1) := by rw [Nat.mul_add]; omega
  have e2 : bv * 1000000000 ≤ K * (y + 1) * 1000000000 := Nat.mul_le_mul_right _ (Nat.le_of_lt e1)
  exact gB hV hlt e2
 have htB : t ≤ 1000000000 := by
  have : x < y * 1000000001 := gA hy hx
  have : t < 1000000001 := by rw [ht]; exact (Nat.div_lt_iff_lt_mul (by omega)).2 (by rw [Nat.mul_comm]; exact this)
  omega
 have hqt : q ≤ t := by
  have e1 : q * bv ≤ V := by rw [hq]; exact Nat.div_mul_le_self _ _
  have e2 : q * (K * y) ≤ q * bv := Nat.mul_le_mul_left _ (by omega)
  have e3 : q * (K * y) = K * (q * y) := Nat.mul_left_comm _ _ _
  have e4 : K * (q * y) < K * (x + 1) := by rw [Nat.mul_add]; omega
  have e5 : q * y < x + 1 := Nat.lt_of_mul_lt_mul_left e4
  rw [ht]
  exact (Nat.le_div_iff_mul_le (by omega)).2 (by omega)
 refine ⟨hqt, ?_, htB, hx⟩
 rcases Nat.eq_zero_or_pos t with h0 | h0
 ·omega
 ·obtain ⟨r, rfl⟩ : ∃ r, t = r + 1 := ⟨t - 1, by omega⟩
  have e1 : (r + 1) * y ≤ x := by rw [ht]; exact Nat.div_mul_le_self _ _
  have e2 : r * bv ≤ r * (K * (y + 1)) := Nat.mul_le_mul_left _ (by rw [Nat.mul_add]; omega)
  have e3 : r * (K * (y + 1)) = K * (r * y + r) := by rw [Nat.mul_left_comm, Nat.mul_add, Nat.mul_one]
  have e4 : r * y + r ≤ x := by rw [Nat.add_mul] at e1; omega
  have e5 : K * (r * y + r) ≤ K * x := Nat.mul_le_mul_left _ e4
  have e6 : r * bv ≤ V := by omega
  have : r ≤ q := by rw [hq]; exact (Nat.le_div_iff_mul_le hbv).2 e6
  omega
theorem top_split (l : List Nat) (k : Nat) (h : k ≤ l.length) : val l = val (l.take k) + 1000000000 ^ k * val (l.drop k) := by
 have := val_append (l.take k) (l.drop k)
 rwa [List.take_append_drop, List.length_take, Nat.min_eq_left h] at this
theorem val_three {l : List Nat} {k a b c : Nat} (h0 : l[k]? = some a) (h1 : l[k + 1]? = some b) (h2 : l[k + 2]? = some c) (hl : l.length = k + 3) : val (l.drop k) = c * 1000000000000000000 + b * 1000000000 + a := by
 rw [drop_at h0, drop_at h1, drop_at h2, List.drop_eq_nil_of_le (by omega)]
 simp [val]; omega
theorem val_two {l : List Nat} {k a b : Nat} (h0 : l[k]? = some a) (h1 : l[k + 1]? = some b) (hl : l.length = k + 2) : val (l.drop k) = b * 1000000000 + a := by
 rw [drop_at h0, drop_at h1, List.drop_eq_nil_of_le (by omega)]
 simp [val]; omega
theorem digit_zero {V b T q v1 : Nat} (h : v1 + T * b = V) (hq : q = V / b) (hqT : q ≤ T) (hb : 0 < b) : T = q ∧ v1 = V % b := by
 have h1 : T ≤ q := by rw [hq]; exact (Nat.le_div_iff_mul_le hb).2 (by omega)
 have e : T = q := by omega
 subst e
 have h2 : b * (V / b) + V % b = V := Nat.div_add_mod V b
 rw [← hq, Nat.mul_comm] at h2
 exact ⟨rfl, by omega⟩
theorem digit_one {V b T q v1 P c v2 c2 : Nat} (h : v1 + T * b = V + P * c) (hc : 0 < c) (hv1 : v1 < P) (hT : T ≤ q + 1) (hqT : q ≤ T) (hq : q = V / b) (hb : 0 < b) (hbP : b ≤ P) (h2 : v2 + P * c2 = v1 + b) (hv2 : v2 < P) (hc2 : c2 ≤ 1) :
 T = q + 1 ∧ v2 = V % b := by
 have hdm : b * (V / b) + V % b = V := Nat.div_add_mod V b
 have hml : V % b < b := Nat.mod_lt _ hb
 rw [← hq, Nat.mul_comm] at hdm
 have hPc : P ≤ P * c := Nat.le_mul_of_pos_right _ hc
 have hTq : T = q + 1 := by
  rcases (by omega : T = q ∨ T = q + 1) with e | e
  ·rw [e] at h; omega
  ·exact e
 refine ⟨hTq, ?_⟩
 rw [hTq, Nat.add_mul, Nat.one_mul] at h
 have hc1 : c = 1 := by
  rcases (by omega : c = 1 ∨ 2 ≤ c) with e | e
  ·exact e
  ·have : P * 2 ≤ P * c := Nat.mul_le_mul_left _ e
   omega
 rw [hc1, Nat.mul_one] at h
 rcases (by omega : c2 = 0 ∨ c2 = 1) with e | e
 ·rw [e, Nat.mul_zero] at h2; omega
 ·rw [e, Nat.mul_one] at h2; omega
theorem row_step {A D b P L L' pre V q : Nat} (h : D * (b * (P * 1000000000)) + L = A) (hL : L = pre + P * V) (hL' : L' = pre + P * (V % b)) (hq : q = V / b) : (q + 1000000000 * D) * (b * P) + L' = A := by
 have hdm : b * (V / b) + V % b = V := Nat.div_add_mod V b
 rw [← hq] at hdm
 have h1 : P * V = P * (b * q) + P * (V % b) := by rw [← Nat.mul_add, hdm]
 have h2 : q * (b * P) = P * (b * q) := by rw [Nat.mul_comm q, Nat.mul_comm b P, Nat.mul_assoc]
 have h3 : 1000000000 * D * (b * P) = D * (b * (P * 1000000000)) := by
  rw [Nat.mul_comm 1000000000 D, Nat.mul_assoc, Nat.mul_comm 1000000000 (b * P), Nat.mul_assoc]
 rw [Nat.add_mul, h2, h3]
 omega
theorem tail_zero {l : List Nat} {m b : Nat} (hm : m ≤ l.length) (h : val l < b) (hb : b ≤ 1000000000 ^ m) : val (l.drop m) = 0 ∧ val (l.take m) = val l := by
 have h1 := top_split l m hm
 rcases Nat.eq_zero_or_pos (val (l.drop m)) with e | e
 ·rw [e, Nat.mul_zero] at h1; exact ⟨e, by omega⟩
 ·have : 1000000000 ^ m ≤ 1000000000 ^ m * val (l.drop m) := Nat.le_mul_of_pos_right _ e
  omega
theorem row_cut {L : List Nat} {i m n b : Nat} (hl : L.length = n + 1) (hi : i + m ≤ n) (hs : small L = true) (h : val (L.drop (i + 1)) < b) (hb : b ≤ 1000000000 ^ m) :
 ∃ pre s post : List Nat, L = pre ++ s ++ post ∧ pre.length = i ∧ s.length = m + 1 ∧ small s = true ∧ val s < b * 1000000000 ∧ val post = 0 ∧ small pre = true ∧ small post = true ∧ val L = val pre + 1000000000 ^ i * val s := by
 have hz := tail_zero (l := L.drop (i + 1)) (m := m) (by rw [List.length_drop]; omega) h hb
 rw [List.drop_drop] at hz
 refine ⟨L.take i, (L.drop i).take (m + 1), (L.drop i).drop (m + 1), by rw [List.append_assoc, List.take_append_drop, List.take_append_drop], by rw [List.length_take]; omega, by rw [List.length_take, List.length_drop]; omega, small_take (small_drop hs i) _, ?_, ?_, small_take hs i, small_drop (small_drop hs i) _, ?_⟩
 ·have h1 := val_drop L i
  have h2 := top_split (L.drop i) (m + 1) (by rw [List.length_drop]; omega)
  have h3 : L.getD i 0 < 1000000000 := by
   rw [List.getD_eq_getElem?_getD, List.getElem?_eq_getElem (by omega)]
   exact small_iff.1 hs _ (List.getElem_mem _)
  rw [List.drop_drop, show i + (m + 1) = i + 1 + m by omega, hz.1, Nat.mul_zero] at h2
  omega
 ·rw [List.drop_drop, show i + (m + 1) = i + 1 + m by omega]; exact hz.1
 ·have h1 := top_split L i (by omega)
  have h2 := top_split (L.drop i) (m + 1) (by rw [List.length_drop]; omega)
  rw [List.drop_drop, show i + (m + 1) = i + 1 + m by omega, hz.1, Nat.mul_zero, Nat.add_zero] at h2
  rw [← h2]; exact h1
theorem val_joined {pre s post : List Nat} {i : Nat} (hp : pre.length = i) (hz : val post = 0) : val (pre ++ s ++ post) = val pre + 1000000000 ^ i * val s ∧ val ((pre ++ s ++ post).drop i) = val s := by
 constructor
 ·rw [List.append_assoc, val_append, val_append, hz, hp]; simp
 ·rw [List.append_assoc, List.drop_left' hp, val_append, hz]; simp
end Go.Proofs.YtkhmgdfhggejaaaGreatDoor.M
