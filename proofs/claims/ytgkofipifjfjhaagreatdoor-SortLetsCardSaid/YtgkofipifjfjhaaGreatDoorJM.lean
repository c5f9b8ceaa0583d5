/-
  Plain mathematics of rows of limbs (base ten to the nine), no program text: 'limbs n' is the one row of limbs without a nought behind that is worth n; 'val' what a row is worth; 'nv' what a row counts as (0 if it is no natural).
-/
namespace Go.Proofs.YtgkofipifjfjhaaGreatDoor.M
set_option linter.unusedSimpArgs false
set_option linter.unusedVariables false

def val : List Nat → Nat
 | [] => 0
 | x :: r => x + 1000000000 * val r

def limbs (n : Nat) : List Nat := if n = 0 then [] else n % 1000000000 :: limbs (n / 1000000000)
termination_by n
decreasing_by omega

def small (l : List Nat) : Bool := l.all fun x => decide (x < 1000000000)
def isNat (l : List Nat) : Bool := small l && (l.getLast? != some 0)
def nv (l : List Nat) : Nat := if isNat l = true then val l else 0
def nat (l : List Nat) : List Nat := if isNat l = true then l else []

theorem limbs_zero : limbs 0 = [] := by rw [limbs]; rfl
theorem limbs_pos {n : Nat} (h : n ≠ 0) : limbs n = n % 1000000000 :: limbs (n / 1000000000) := by rw [limbs, if_neg h]

theorem small_iff {l : List Nat} : small l = true ↔ ∀ x ∈ l, x < 1000000000 := by simp [small]
theorem small_cons {x : Nat} {l : List Nat} : small (x :: l) = true ↔ x < 1000000000 ∧ small l = true := by simp [small]
theorem small_append {l m : List Nat} : small (l ++ m) = true ↔ small l = true ∧ small m = true := by simp [small]

theorem limbs_small (n : Nat) : small (limbs n) = true := by
 induction n using Nat.strongRecOn with
 | _ n ih =>
  by_cases h : n = 0
  ·subst h; rw [limbs_zero]; rfl
  ·rw [limbs_pos h, small_cons]; exact ⟨by omega, ih _ (by omega)⟩
theorem val_limbs (n : Nat) : val (limbs n) = n := by
 induction n using Nat.strongRecOn with
 | _ n ih =>
  by_cases h : n = 0
  ·subst h; rw [limbs_zero]; rfl
  ·rw [limbs_pos h, val, ih _ (by omega)]; omega
theorem limbs_ne {n : Nat} (h : n ≠ 0) : limbs n ≠ [] := by rw [limbs_pos h]; simp
theorem limbs_last (n : Nat) : (limbs n).getLast? ≠ some 0 := by
 induction n using Nat.strongRecOn with
 | _ n ih =>
  by_cases h : n = 0
  ·subst h; rw [limbs_zero]; simp
  ·rw [limbs_pos h]
   by_cases h1 : n / 1000000000 = 0
   ·rw [h1, limbs_zero]; simp; omega
   ·rw [List.getLast?_cons_of_ne_nil (limbs_ne h1)]; exact ih _ (by omega)
theorem isNat_limbs (n : Nat) : isNat (limbs n) = true := by
 have h1 := limbs_small n
 have h2 := limbs_last n
 simp [isNat, h1, h2]
theorem nv_limbs (n : Nat) : nv (limbs n) = n := by rw [nv, if_pos (isNat_limbs n), val_limbs]
theorem val_append (l m : List Nat) : val (l ++ m) = val l + 1000000000 ^ l.length * val m := by
 induction l with
 | nil => simp [val]
 | cons x r ih => simp only [List.cons_append, val, ih, List.length_cons, Nat.pow_succ]; rw [Nat.mul_add, ← Nat.mul_assoc, Nat.mul_comm (1000000000 ^ r.length) 1000000000]; omega
theorem val_lt {l : List Nat} (h : small l = true) : val l < 1000000000 ^ l.length := by
 induction l with
 | nil => simp [val]
 | cons x r ih =>
  rw [small_cons] at h
  have := ih h.2
  simp only [val, List.length_cons, Nat.pow_succ]
  omega
theorem last_cons {x : Nat} {r : List Nat} (h : r ≠ []) : (x :: r).getLast? = r.getLast? := List.getLast?_cons_of_ne_nil h
theorem val_pos {l : List Nat} (hn : l ≠ []) (hl : l.getLast? ≠ some 0) : 0 < val l := by
 induction l with
 | nil => exact absurd rfl hn
 | cons x r ih =>
  by_cases h : r = []
  ·subst h; simp at hl; simp [val]; omega
  ·rw [last_cons h] at hl
   have := ih h hl
   simp only [val]; omega
theorem limbs_val {l : List Nat} (hs : small l = true) (hl : l.getLast? ≠ some 0) : limbs (val l) = l := by
 induction l with
 | nil => exact limbs_zero
 | cons x r ih =>
  rw [small_cons] at hs
  have hx := hs.1
  by_cases h : r = []
  ·subst h
   simp at hl
   simp only [val]
   rw [limbs_pos (by omega)]
   rw [show (x + 1000000000 * 0) % 1000000000 = x by omega, show (x + 1000000000 * 0) / 1000000000 = 0 by omega, limbs_zero]
  ·rw [last_cons h] at hl
   have hp := val_pos h hl
   simp only [val]
   rw [limbs_pos (by omega), show (x + 1000000000 * val r) % 1000000000 = x by omega, show (x + 1000000000 * val r) / 1000000000 = val r by omega, ih hs.2 hl]
theorem isNat_iff {l : List Nat} : isNat l = true ↔ small l = true ∧ l.getLast? ≠ some 0 := by simp [isNat]
theorem limbs_nv (l : List Nat) : limbs (nv l) = nat l := by
 unfold nv nat
 split
 ·next h => rw [isNat_iff] at h; exact limbs_val h.1 h.2
 ·exact limbs_zero
theorem val_nat (l : List Nat) : val (nat l) = nv l := by rw [← limbs_nv, val_limbs]
theorem small_nat (l : List Nat) : small (nat l) = true := by rw [← limbs_nv]; exact limbs_small _
theorem nat_length (l : List Nat) : (nat l).length ≤ l.length := by unfold nat; split <;> simp
theorem limbs_eq_nil {n : Nat} : limbs n = [] ↔ n = 0 := by
 constructor
 ·intro h; have := val_limbs n; rw [h] at this; exact this.symm
 ·rintro rfl; exact limbs_zero
theorem limbs_length_le {n k : Nat} (h : n < 1000000000 ^ k) : (limbs n).length ≤ k := by
 induction k generalizing n with
 | zero => have : n = 0 := by simpa using h
           subst this; rw [limbs_zero]; simp
 | succ k ih =>
  by_cases h0 : n = 0
  ·subst h0; rw [limbs_zero]; simp
  ·rw [limbs_pos h0, List.length_cons]
   have : n / 1000000000 < 1000000000 ^ k := by rw [Nat.div_lt_iff_lt_mul (by omega)]; rwa [Nat.pow_succ] at h
   have := ih this
   omega
theorem nv_lt (l : List Nat) : nv l < 1000000000 ^ l.length := by
 have h := val_lt (small_nat l)
 rw [val_nat] at h
 exact Nat.lt_of_lt_of_le h (Nat.pow_le_pow_right (by omega) (nat_length l))
theorem limbs_add_length (a b : Nat) {k m : Nat} (ha : a < 1000000000 ^ k) (hb : b < 1000000000 ^ m) : (limbs (a + b)).length ≤ max k m + 1 := by
 apply limbs_length_le
 have h1 : 1000000000 ^ k ≤ 1000000000 ^ max k m := Nat.pow_le_pow_right (by omega) (by omega)
 have h2 : 1000000000 ^ m ≤ 1000000000 ^ max k m := Nat.pow_le_pow_right (by omega) (by omega)
 rw [Nat.pow_succ]; omega
theorem limbs_len_lt (n : Nat) : n < 1000000000 ^ (limbs n).length := by
 have h := val_lt (limbs_small n); rwa [val_limbs] at h

/- noughts behind are taken away, one by one -/
theorem small_snoc {l : List Nat} {k x : Nat} (h : l[k]? = some x) (hs : small (l.take k) = true) (hx : x < 1000000000) : small (l.take (k + 1)) = true := by
 rw [List.take_add_one, h, small_append]
 exact ⟨hs, by simp [small, hx]⟩
theorem isNat_big {l : List Nat} {k x : Nat} (h : l[k]? = some x) (hx : 1000000000 ≤ x) : isNat l = false := by
 rw [Bool.eq_false_iff]
 intro hc
 have := small_iff.1 (isNat_iff.1 hc).1 x (List.mem_of_getElem? h)
 omega
theorem isNat_end {l : List Nat} {x : Nat} (hs : small l = true) (h : l[l.length - 1]? = some x) : isNat l = decide (x ≠ 0) := by
 rw [isNat, hs, List.getLast?_eq_getElem?, h]
 by_cases hx : x = 0 <;> simp [hx]

/- comparing -/
theorem drop_at {l : List Nat} {k x : Nat} (h : l[k]? = some x) : l.drop k = x :: l.drop (k + 1) := by
 obtain ⟨hlt, he⟩ := List.getElem?_eq_some_iff.1 h
 rw [List.drop_eq_getElem_cons hlt, he]
/- sums of many rows, place by place -/
/- one row less another, place by place -/
/- products, limb by limb -/
/- by one limb -/
end Go.Proofs.YtgkofipifjfjhaaGreatDoor.M

/-
  Plain mathematics of dividing two words by one (Knuth's guess of a digit), no program text.
-/
namespace Go.Proofs.YtgkofipifjfjhaaGreatDoor.M
set_option linter.unusedSimpArgs false
set_option linter.unusedVariables false

/- a limb less a number: what is left, what is borrowed -/
end Go.Proofs.YtgkofipifjfjhaaGreatDoor.M

