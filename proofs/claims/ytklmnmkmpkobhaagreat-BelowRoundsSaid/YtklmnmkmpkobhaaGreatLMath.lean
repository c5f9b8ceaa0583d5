/-
  Mathematics of linear forms: terms that rise, their sums, multiples, values.
-/
import Derived.Test.YtklmnmkmpkobhaaGreatJMZ
namespace Go.Proofs.YtklmnmkmpkobhaaGreat
set_option linter.unusedSimpArgs false
set_option linter.unusedVariables false
namespace M
/-- Terms of a form: variables that rise, each with what it is times. -/
abbrev Tm := List (Int × Int)
/-- Variables above lo, rising; nothing times 0. -/
def okT : Int → Tm → Prop
 | _, [] => True
 | lo, (v, c) :: r => lo < v ∧ c ≠ 0 ∧ okT v r
def coef : Tm → Int → Int
 | [], _ => 0
 | (u, c) :: r, v => if u = v then c else coef r v
theorem okT.low {lo lo' : Int} {t : Tm} (h : okT lo t) (hl : lo' ≤ lo) : okT lo' t := by
 cases t with
 | nil => trivial
 | cons x r => exact ⟨Int.lt_of_le_of_lt hl h.1, h.2⟩
theorem coef_low {lo v : Int} {t : Tm} (h : okT lo t) (hv : v ≤ lo) : coef t v = 0 := by
 induction t generalizing lo with
 | nil => rfl
 | cons x r ih =>
  obtain ⟨u, c⟩ := x
  obtain ⟨h1, h2, h3⟩ := h
  unfold coef
  rw [if_neg (by omega)]
  exact ih h3 (by omega)
theorem okT_ext {lo lo' : Int} {a b : Tm} (ha : okT lo a) (hb : okT lo' b) (h : ∀ v, coef a v = coef b v) : a = b := by
 induction a generalizing lo lo' b with
 | nil =>
  cases b with
  | nil => rfl
  | cons y s =>
   have := h y.1
   unfold coef at this
   rw [if_pos rfl] at this
   exact absurd this.symm hb.2.1
 | cons x r ih =>
  obtain ⟨u, c⟩ := x
  cases b with
  | nil =>
   have := h u
   unfold coef at this
   rw [if_pos rfl] at this
   exact absurd this ha.2.1
  | cons y s =>
   obtain ⟨u', c'⟩ := y
   have hu : u = u' := by
    rcases Int.lt_trichotomy u u' with hl | he | hl
    ·have h1 := h u
     rw [show coef ((u, c) :: r) u = c by unfold coef; rw [if_pos rfl], show coef ((u', c') :: s) u = coef s u by rw [coef, if_neg (by omega)], coef_low hb.2.2 (by omega)] at h1
     exact absurd h1 ha.2.1
    ·exact he
    ·have h1 := h u'
     rw [show coef ((u', c') :: s) u' = c' by unfold coef; rw [if_pos rfl], show coef ((u, c) :: r) u' = coef r u' by rw [coef, if_neg (by omega)], coef_low ha.2.2 (by omega)] at h1
     exact absurd h1.symm hb.2.1
   subst hu
   have hc : c = c' := by
    have h1 := h u
    rwa [show coef ((u, c) :: r) u = c by unfold coef; rw [if_pos rfl], show coef ((u, c') :: s) u = c' by unfold coef; rw [if_pos rfl]] at h1
   subst hc
   rw [ih ha.2.2 hb.2.2 fun v => ?_]
   by_cases hv : u = v
   ·subst hv; rw [coef_low ha.2.2 (Int.le_refl _), coef_low hb.2.2 (Int.le_refl _)]
   ·have h1 := h v
    rwa [show coef ((u, c) :: r) v = coef r v by rw [coef, if_neg hv], show coef ((u, c) :: s) v = coef s v by rw [coef, if_neg hv]] at h1
/-- The sum of two forms' terms. -/
def addT : Tm → Tm → Tm
 | [], b => b
 | a, [] => a
 | (v, c) :: a, (u, d) :: b =>
  if v < u then (v, c) :: addT a ((u, d) :: b)
  else if u < v then (u, d) :: addT ((v, c) :: a) b
  else if c + d = 0 then addT a b else (v, c + d) :: addT a b
termination_by a b => a.length + b.length
theorem addT_nil (a : Tm) : addT a [] = a := by cases a <;> simp [addT]
theorem nil_addT (b : Tm) : addT [] b = b := by simp [addT]
theorem addT_cons (v c u d : Int) (a b : Tm) : addT ((v, c) :: a) ((u, d) :: b) = if v < u then (v, c) :: addT a ((u, d) :: b)
 else if u < v then (u, d) :: addT ((v, c) :: a) b
 else if c + d = 0 then addT a b else (v, c + d) :: addT a b := by rw [addT]
theorem okT_addT {lo : Int} {a b : Tm} (ha : okT lo a) (hb : okT lo b) : okT lo (addT a b) := by
 match a, b, ha, hb with
 | [], b, _, hb => rw [nil_addT]; exact hb
 | x :: a, [], ha, _ => rw [addT_nil]; exact ha
 | (v, c) :: a, (u, d) :: b, ha, hb =>
  rw [addT_cons]
  by_cases h1 : v < u
  ·rw [if_pos h1]; exact ⟨ha.1, ha.2.1, okT_addT ha.2.2 (show okT v ((u, d) :: b) from ⟨h1, hb.2⟩)⟩
  ·rw [if_neg h1]
   by_cases h2 : u < v
   ·rw [if_pos h2]; exact ⟨hb.1, hb.2.1, okT_addT (show okT u ((v, c) :: a) from ⟨h2, ha.2⟩) hb.2.2⟩
   ·rw [if_neg h2]
    obtain rfl : v = u := by omega
    by_cases h3 : c + d = 0
    ·rw [if_pos h3]; exact okT_addT (ha.2.2.low (by have := ha.1; omega)) (hb.2.2.low (by have := ha.1; omega))
    ·rw [if_neg h3]; exact ⟨ha.1, h3, okT_addT ha.2.2 hb.2.2⟩
termination_by a.length + b.length
theorem coef_cons (u c : Int) (r : Tm) (v : Int) : coef ((u, c) :: r) v = if u = v then c else coef r v := rfl
theorem coef_addT {lo : Int} {a b : Tm} (ha : okT lo a) (hb : okT lo b) (x : Int) : coef (addT a b) x = coef a x + coef b x := by
 match a, b, ha, hb with
 | [], b, _, hb => rw [nil_addT, show coef [] x = 0 from rfl, Int.zero_add]
 | y :: a, [], ha, _ => rw [addT_nil, show coef [] x = 0 from rfl, Int.add_zero]
 | (v, c) :: a, (u, d) :: b, ha, hb =>
  rw [addT_cons]
  by_cases h1 : v < u
  ·rw [if_pos h1, coef_cons, coef_cons v, coef_addT ha.2.2 (show okT v ((u, d) :: b) from ⟨h1, hb.2⟩)]
   by_cases hx : v = x
   ·subst hx; rw [if_pos rfl, if_pos rfl, coef_cons, if_neg (by omega), coef_low hb.2.2 (by omega)]; omega
   ·rw [if_neg hx, if_neg hx]
  ·rw [if_neg h1]
   by_cases h2 : u < v
   ·rw [if_pos h2, coef_cons, coef_addT (show okT u ((v, c) :: a) from ⟨h2, ha.2⟩) hb.2.2, coef_cons u]
    by_cases hx : u = x
    ·subst hx; rw [if_pos rfl, if_pos rfl, coef_cons, if_neg (by omega), coef_low ha.2.2 (by omega)]; omega
    ·rw [if_neg hx, if_neg hx]
   ·rw [if_neg h2]
    obtain rfl : v = u := by omega
    by_cases h3 : c + d = 0
    ·rw [if_pos h3, coef_addT ha.2.2 hb.2.2, coef_cons, coef_cons]
     by_cases hx : v = x
     ·subst hx; rw [if_pos rfl, if_pos rfl, coef_low ha.2.2 (Int.le_refl _), coef_low hb.2.2 (Int.le_refl _)]; omega
     ·rw [if_neg hx, if_neg hx]
    ·rw [if_neg h3, coef_cons, coef_addT ha.2.2 hb.2.2, coef_cons, coef_cons]
     by_cases hx : v = x
     ·rw [if_pos hx, if_pos hx, if_pos hx]
     ·rw [if_neg hx, if_neg hx, if_neg hx]
termination_by a.length + b.length
/-- Times c. -/
def scaleT (t : Tm) (c : Int) : Tm := if c = 0 then [] else t.map fun x => (x.1, x.2 * c)
theorem okT_scaleT {lo : Int} {t : Tm} (h : okT lo t) (c : Int) : okT lo (scaleT t c) := by
 unfold scaleT
 split
 ·trivial
 ·next hc =>
  induction t generalizing lo with
  | nil => trivial
  | cons x r ih => exact ⟨h.1, fun e => (Int.mul_eq_zero.1 e).elim h.2.1 hc, ih h.2.2⟩
theorem coef_scaleT (t : Tm) (c v : Int) : coef (scaleT t c) v = coef t v * c := by
 unfold scaleT
 split
 ·next hc => rw [hc, Int.mul_zero]; rfl
 ·induction t with
  | nil => rw [show coef [] v = 0 from rfl, Int.zero_mul]; rfl
  | cons x r ih =>
   obtain ⟨u, d⟩ := x
   rw [List.map_cons, coef_cons, coef_cons, ih]
   split <;> rfl
/-- Without the variable v. -/
def dropT (t : Tm) (v : Int) : Tm := t.filter fun x => !(x.1 == v)
theorem okT_dropT {lo : Int} {t : Tm} (h : okT lo t) (v : Int) : okT lo (dropT t v) := by
 unfold dropT
 induction t generalizing lo with
 | nil => trivial
 | cons x r ih =>
  rw [List.filter_cons]
  split
  ·exact ⟨h.1, h.2.1, ih h.2.2⟩
  ·exact ih (h.2.2.low (by have := h.1; omega))
theorem coef_dropT (t : Tm) (v x : Int) : coef (dropT t v) x = if x = v then 0 else coef t x := by
 unfold dropT
 induction t with
 | nil => show (0 : Int) = if x = v then 0 else 0; split <;> rfl
 | cons y r ih =>
  obtain ⟨u, c⟩ := y
  rw [List.filter_cons]
  by_cases hu : u = v
  ·rw [if_neg (by simp [hu]), ih, coef_cons]
   by_cases hx : x = v
   ·rw [if_pos hx, if_pos hx]
   ·rw [if_neg hx, if_neg hx, if_neg (by omega)]
  ·rw [if_pos (by simp [hu]), coef_cons, ih, coef_cons]
   by_cases hx : x = v
   ·rw [if_pos hx, if_pos hx, if_neg (by omega)]
   ·rw [if_neg hx, if_neg hx]
def putT (t : Tm) (v : Int) (s : Tm) : Tm := addT (dropT t v) (scaleT s (coef t v))
theorem okT_putT {lo : Int} {t s : Tm} (h : okT lo t) (k : okT lo s) (v : Int) : okT lo (putT t v s) := okT_addT (okT_dropT h v) (okT_scaleT k _)
theorem coef_putT {lo : Int} {t s : Tm} (h : okT lo t) (k : okT lo s) (v x : Int) : coef (putT t v s) x = (if x = v then 0 else coef t x) + coef s x * coef t v := by
 unfold putT
 rw [coef_addT (okT_dropT h v) (okT_scaleT k _), coef_dropT, coef_scaleT]
/-- The terms' sum, where variable v has the value f v. -/
def atT (f : Int → Int) (t : Tm) : Int := (t.map fun x => x.2 * f x.1).sum
theorem atT_nil (f : Int → Int) : atT f [] = 0 := rfl
theorem atT_cons (f : Int → Int) (v c : Int) (r : Tm) : atT f ((v, c) :: r) = c * f v + atT f r := by unfold atT; rw [List.map_cons, List.sum_cons]
theorem atT_addT (f : Int → Int) (a b : Tm) : atT f (addT a b) = atT f a + atT f b := by
 match a, b with
 | [], b => rw [nil_addT, atT_nil, Int.zero_add]
 | y :: a, [] => rw [addT_nil, atT_nil, Int.add_zero]
 | (v, c) :: a, (u, d) :: b =>
  rw [addT_cons]
  by_cases h1 : v < u
  ·rw [if_pos h1, atT_cons, atT_cons f v, atT_addT f a ((u, d) :: b)]; omega
  ·rw [if_neg h1]
   by_cases h2 : u < v
   ·rw [if_pos h2, atT_cons, atT_addT f ((v, c) :: a) b, atT_cons f u]; omega
   ·rw [if_neg h2]
    obtain rfl : v = u := by omega
    by_cases h3 : c + d = 0
    ·rw [if_pos h3, atT_addT f a b, atT_cons, atT_cons]
     have : c * f v + d * f v = 0 := by rw [← Int.add_mul, h3, Int.zero_mul]
     omega
    ·rw [if_neg h3, atT_cons, atT_addT f a b, atT_cons, atT_cons, Int.add_mul]; omega
termination_by a.length + b.length
theorem atT_scaleT (f : Int → Int) (t : Tm) (c : Int) : atT f (scaleT t c) = atT f t * c := by
 unfold scaleT
 split
 ·next hc => rw [hc, Int.mul_zero, atT_nil]
 ·induction t with
  | nil => rw [atT_nil, Int.zero_mul]; rfl
  | cons x r ih =>
   obtain ⟨u, d⟩ := x
   rw [List.map_cons, atT_cons, atT_cons, ih, Int.add_mul, Int.mul_right_comm]
theorem atT_dropT {lo : Int} (f : Int → Int) {t : Tm} (h : okT lo t) (v : Int) : atT f (dropT t v) = atT f t - coef t v * f v := by
 unfold dropT
 induction t generalizing lo with
 | nil => rw [show coef [] v = 0 from rfl, Int.zero_mul]; rfl
 | cons x r ih =>
  obtain ⟨u, c⟩ := x
  rw [List.filter_cons]
  by_cases hu : u = v
  ·subst hu
   rw [if_neg (by simp), ih h.2.2, atT_cons, coef_cons, if_pos rfl, coef_low h.2.2 (Int.le_refl _)]; omega
  ·rw [if_pos (by simp [hu]), atT_cons, atT_cons, ih h.2.2, coef_cons, if_neg hu]; omega
theorem atT_putT {lo : Int} (f : Int → Int) {t : Tm} (h : okT lo t) (v : Int) (s : Tm) : atT f (putT t v s) = atT f t - coef t v * f v + atT f s * coef t v := by
 unfold putT
 rw [atT_addT, atT_scaleT, atT_dropT f h]
/-- What divides all. -/
def gcdT (t : Tm) : Nat := t.foldl (fun g x => Nat.gcd g x.2.natAbs) 0
theorem gcdT_snoc (t : Tm) (x : Int × Int) : gcdT (t ++ [x]) = Nat.gcd (gcdT t) x.2.natAbs := by unfold gcdT; rw [List.foldl_append]; rfl
end M
end Go.Proofs.YtklmnmkmpkobhaaGreat
