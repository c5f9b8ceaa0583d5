/-
  Mathematics of sums of lists of terms: what all terms of a variable come to; terms of one variable put together.
-/
import Derived.Test.YtklmnmkmpkobhaaGreatLWords
namespace Go.Proofs.YtklmnmkmpkobhaaGreat
set_option linter.unusedSimpArgs false
set_option linter.unusedVariables false
namespace M
/-- What a list of terms says of the variable v, all together. -/
def csum : Tm → Int → Int
 | [], _ => 0
 | (u, c) :: r, v => (if u = v then c else 0) + csum r v
theorem csum_nil (v : Int) : csum [] v = 0 := rfl
theorem csum_cons (u c : Int) (r : Tm) (v : Int) : csum ((u, c) :: r) v = (if u = v then c else 0) + csum r v := rfl
theorem csum_append (a b : Tm) (v : Int) : csum (a ++ b) v = csum a v + csum b v := by
 induction a with
 | nil => rw [List.nil_append, csum_nil, Int.zero_add]
 | cons x r ih => obtain ⟨u, c⟩ := x; rw [List.cons_append, csum_cons, csum_cons, ih, Int.add_assoc]
theorem csum_perm {a b : Tm} (h : a.Perm b) (v : Int) : csum a v = csum b v := by
 induction h with
 | nil => rfl
 | cons x _ ih => obtain ⟨u, c⟩ := x; rw [csum_cons, csum_cons, ih]
 | swap x y l =>
  obtain ⟨u, c⟩ := x
  obtain ⟨u', c'⟩ := y
  rw [csum_cons, csum_cons, csum_cons, csum_cons]; omega
 | trans _ _ i j => rw [i, j]
theorem csum_okT {lo : Int} {t : Tm} (h : okT lo t) (v : Int) : csum t v = coef t v := by
 induction t generalizing lo with
 | nil => rfl
 | cons x r ih =>
  obtain ⟨u, c⟩ := x
  rw [csum_cons, ih h.2.2, coef_cons]
  by_cases e : u = v
  ·rw [if_pos e, if_pos e, coef_low h.2.2 (by omega), Int.add_zero]
  ·rw [if_neg e, if_neg e, Int.zero_add]
theorem coef_snoc {t : Tm} {v c : Int} (h : ∀ x ∈ t, x.1 ≠ v) (x : Int) : coef (t ++ [(v, c)]) x = coef t x + (if v = x then c else 0) := by
 induction t with
 | nil => rw [List.nil_append, coef_cons, show coef [] x = 0 from rfl, Int.zero_add]
 | cons y r ih =>
  obtain ⟨u, d⟩ := y
  rw [List.cons_append, coef_cons, coef_cons, ih fun z hz => h z (by simp [hz])]
  by_cases e : u = x
  ·rw [if_pos e, if_pos e, if_neg (by have := h (u, d) (by simp); simp at this; omega), Int.add_zero]
  ·rw [if_neg e, if_neg e]
theorem okT_snoc {lo : Int} {t : Tm} {v c : Int} (h : okT lo t) (hv : ∀ x ∈ t, x.1 < v) (hl : lo < v) (hc : c ≠ 0) : okT lo (t ++ [(v, c)]) := by
 induction t generalizing lo with
 | nil => exact ⟨hl, hc, trivial⟩
 | cons y r ih => exact ⟨h.1, h.2.1, ih h.2.2 (fun x hx => hv x (by simp [hx])) (hv y (by simp))⟩
theorem okT_all {lo : Int} {t : Tm} (h : okT lo t) : ∀ x ∈ t, lo < x.1 ∧ x.2 ≠ 0 := by
 induction t generalizing lo with
 | nil => intro x hx; simp at hx
 | cons y r ih =>
  intro x hx
  rcases List.mem_cons.1 hx with rfl | hx
  ·exact ⟨h.1, h.2.1⟩
  ·have := ih h.2.2 x hx; have := h.1; exact ⟨by omega, (ih h.2.2 x hx).2⟩
theorem okT_take {lo : Int} {t : Tm} (h : okT lo t) (k : Nat) : okT lo (t.take k) := by
 induction t generalizing lo k with
 | nil => rw [List.take_nil]; trivial
 | cons y r ih =>
  cases k with
  | zero => trivial
  | succ k => exact ⟨h.1, h.2.1, ih h.2.2 k⟩
theorem okT_drop {lo : Int} {t : Tm} (h : okT lo t) (k : Nat) : okT lo (t.drop k) := by
 induction t generalizing lo k with
 | nil => rw [List.drop_nil]; trivial
 | cons y r ih =>
  cases k with
  | zero => exact h
  | succ k => exact (ih h.2.2 k).low (by have := h.1; omega)
theorem csum_split {t : Tm} {k : Nat} {x : Int × Int} (hk : t[k]? = some x) (v : Int) : csum t v = csum (t.take k) v + (if x.1 = v then x.2 else 0) + csum (t.drop (k + 1)) v := by
 obtain ⟨hk', rfl⟩ := List.getElem?_eq_some_iff.1 hk
 conv => lhs; rw [← List.take_append_drop k t, csum_append, List.drop_eq_getElem_cons hk']
 rw [csum_cons]; omega
theorem coef_around {lo : Int} {t : Tm} (h : okT lo t) {k : Nat} {x : Int × Int} (hk : t[k]? = some x) (hx : coef t x.1 = x.2) (v : Int) : coef (t.take k) v + coef (t.drop (k + 1)) v = if v = x.1 then 0 else coef t v := by
 have h1 := csum_split hk v
 rw [csum_okT h, csum_okT (okT_take h k), csum_okT (okT_drop h _)] at h1
 by_cases e : v = x.1
 ·subst e; rw [if_pos rfl] at h1 ⊢; omega
 ·rw [if_neg e]; rw [if_neg (fun e' => e e'.symm)] at h1; omega
/-- All terms of several forms. -/
def cat (fs : List (Tm × Int)) : Tm := fs.flatMap (·.1)
def ksum (fs : List (Tm × Int)) : Int := (fs.map (·.2)).sum
theorem cat_snoc (fs : List (Tm × Int)) (x : Tm × Int) : cat (fs ++ [x]) = cat fs ++ x.1 := by unfold cat; rw [List.flatMap_append]; simp
theorem ksum_snoc (fs : List (Tm × Int)) (x : Tm × Int) : ksum (fs ++ [x]) = ksum fs + x.2 := by unfold ksum; simp
/-- Rising, those of one variable side by side. -/
def srt (s : Tm) : Prop := s.Pairwise fun x y => x.1 ≤ y.1
/-- Between two rounds: what is put together of the first p terms. -/
structure TogO (s out : Tm) (p : Nat) : Prop where
 ok : okT (-1) out
 low : ∀ x ∈ out, ∀ y ∈ s.drop p, x.1 < y.1
 sum : ∀ v, coef out v + csum (s.drop p) v = csum s v
/-- Within a round: the variable u, what it comes to so far. -/
structure TogI (s out : Tm) (q : Nat) (u c : Int) : Prop where
 ok : okT (-1) out
 pos : -1 < u
 low : ∀ x ∈ out, x.1 < u
 up : ∀ y ∈ s.drop q, u ≤ y.1
 sum : ∀ v, coef out v + (if u = v then c else 0) + csum (s.drop q) v = csum s v
theorem TogO.start (s : Tm) : TogO s [] 0 := ⟨trivial, fun x hx => by simp at hx, fun v => by rw [List.drop_zero, show coef [] v = 0 from rfl, Int.zero_add]⟩
theorem dropm {s : Tm} {q : Nat} {x : Int × Int} (h : s[q]? = some x) : s.drop q = x :: s.drop (q + 1) := by
 obtain ⟨hk, rfl⟩ := List.getElem?_eq_some_iff.1 h
 exact List.drop_eq_getElem_cons hk
theorem srt_drop {s : Tm} (h : srt s) (q : Nat) : srt (s.drop q) := List.Pairwise.sublist (List.drop_sublist q s) h
theorem srt_up {s : Tm} (h : srt s) {q : Nat} {x : Int × Int} (hx : s[q]? = some x) : ∀ y ∈ s.drop q, x.1 ≤ y.1 := by
 have h1 := srt_drop h q
 rw [dropm hx] at h1 ⊢
 intro y hy
 rcases List.mem_cons.1 hy with rfl | hy
 ·exact Int.le_refl _
 ·exact (List.pairwise_cons.1 h1).1 y hy
theorem TogO.inner {s out : Tm} {p : Nat} (h : TogO s out p) (hs : srt s) (h0 : ∀ x ∈ s, -1 < x.1) {x : Int × Int} (hx : s[p]? = some x) : TogI s out p x.1 0 :=
 ⟨h.ok, h0 x (List.mem_of_getElem? hx), fun y hy => h.low y hy x (by rw [dropm hx]; simp), srt_up hs hx, fun v => by have := h.sum v; rw [← this]; split <;> omega⟩
theorem TogI.step {s out : Tm} {q : Nat} {u c : Int} (h : TogI s out q u c) {x : Int × Int} (hx : s[q]? = some x) (hu : x.1 = u) : TogI s out (q + 1) u (c + x.2) :=
 ⟨h.ok, h.pos, h.low, fun y hy => h.up y (by rw [dropm hx]; simp [hy]), fun v => by
  have h1 := h.sum v
  obtain ⟨a, b⟩ := x
  rw [dropm hx, csum_cons] at h1
  simp at hu; subst hu
  rw [← h1]
  show _ + (if a = v then c + b else 0) + _ = _
  by_cases e : a = v
  ·rw [if_pos e, if_pos e, if_pos e]; omega
  ·rw [if_neg e, if_neg e, if_neg e]; omega⟩
theorem TogI.next {s out : Tm} {q : Nat} {u c : Int} (h : TogI s out q u c) (hs : srt s) (he : ∀ x, s[q]? = some x → x.1 ≠ u) : ∀ y ∈ s.drop q, u < y.1 := by
 intro y hy
 rcases hq : s[q]? with _ | x
 ·rw [List.drop_eq_nil_of_le (by simpa using hq)] at hy; simp at hy
 ·have h1 := h.up x (by rw [dropm hq]; simp)
  have h2 := he x hq
  have h3 := srt_up hs hq y hy
  omega
theorem TogI.zero {s out : Tm} {q : Nat} {u c : Int} (h : TogI s out q u c) (hs : srt s) (he : ∀ x, s[q]? = some x → x.1 ≠ u) (hc : c = 0) : TogO s out q :=
 ⟨h.ok, fun x hx y hy => by have := h.low x hx; have := h.next hs he y hy; omega, fun v => by have := h.sum v; rw [← this, hc]; split <;> omega⟩
theorem TogI.some {s out : Tm} {q : Nat} {u c : Int} (h : TogI s out q u c) (hs : srt s) (he : ∀ x, s[q]? = some x → x.1 ≠ u) (hc : c ≠ 0) : TogO s (out ++ [(u, c)]) q :=
 ⟨okT_snoc h.ok h.low h.pos hc, fun x hx y hy => by
  have := h.next hs he y hy
  rcases List.mem_append.1 hx with hx | hx
  ·have := h.low x hx; omega
  ·simp at hx; subst hx; exact this, fun v => by rw [coef_snoc fun x hx => by have := h.low x hx; omega]; exact h.sum v⟩
theorem TogO.fin {s out : Tm} (h : TogO s out s.length) (v : Int) : coef out v = csum s v := by have := h.sum v; rw [List.drop_length, csum_nil] at this; omega
end M
end Go.Proofs.YtklmnmkmpkobhaaGreat
