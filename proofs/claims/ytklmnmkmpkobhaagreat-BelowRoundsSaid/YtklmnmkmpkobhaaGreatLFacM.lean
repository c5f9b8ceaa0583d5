/-
  Widths and lengths of sums of forms; small forms in memory.
-/
import Derived.Test.YtklmnmkmpkobhaaGreatLFaceC
namespace Go.Proofs.YtklmnmkmpkobhaaGreat
open Go.RowKit
set_option linter.unusedSimpArgs false
set_option linter.unusedVariables false
namespace M
theorem limbs_of {z : Int} {k : Nat} (h : z.natAbs < 1000000000 ^ k) : (limbs z.natAbs).length ≤ k := limbs_length_le h
theorem limbs_lt {z : Int} {k : Nat} (h : (limbs z.natAbs).length ≤ k) : z.natAbs < 1000000000 ^ k := Nat.lt_of_lt_of_le (limbs_len_lt z.natAbs) (Nat.pow_le_pow_right (by decide) h)
theorem limbs_plus {a b : Int} {W : Nat} (ha : (limbs a.natAbs).length ≤ W) (hb : (limbs b.natAbs).length ≤ W) : (limbs (a + b).natAbs).length ≤ W + 1 := by
 refine limbs_of ?_
 have h1 := limbs_lt ha
 have h2 := limbs_lt hb
 have h3 : (1000000000 : Nat) ^ (W + 1) = 1000000000 ^ W * 1000000000 := Nat.pow_succ ..
 omega
theorem limbs_times {a b : Int} {W U : Nat} (ha : (limbs a.natAbs).length ≤ W) (hb : (limbs b.natAbs).length ≤ U) : (limbs (a * b).natAbs).length ≤ W + U := by
 rw [Int.natAbs_mul]
 exact limbs_mul_length _ _ (limbs_lt ha) (limbs_lt hb)
theorem limbs_turn {a : Int} {W : Nat} (ha : (limbs a.natAbs).length ≤ W) : (limbs (a * -1).natAbs).length ≤ W := by
 rw [show (a * -1).natAbs = a.natAbs by omega]; exact ha
theorem limbs_none (W : Nat) : (limbs (0 : Int).natAbs).length ≤ W := by
 rw [show (0 : Int).natAbs = 0 from rfl, limbs_zero]; exact Nat.zero_le _
theorem coef_width {t : Tm} {W : Nat} (h : ∀ x ∈ t, (limbs x.2.natAbs).length ≤ W) (v : Int) : (limbs (coef t v).natAbs).length ≤ W := by
 induction t with
 | nil => exact limbs_none W
 | cons x r ih =>
  obtain ⟨u, c⟩ := x
  rw [coef_cons]
  split
  ·exact h (u, c) (by simp)
  ·exact ih fun y hy => h y (by simp [hy])
theorem coef_mem {lo : Int} {t : Tm} (h : okT lo t) {x : Int × Int} (hx : x ∈ t) : coef t x.1 = x.2 := by
 obtain ⟨k, hk, rfl⟩ := List.getElem_of_mem hx
 exact coef_at h (List.getElem?_eq_getElem hk)
theorem addT_width {lo : Int} {t s : Tm} {W : Nat} (ot : okT lo t) (os : okT lo s) (ht : ∀ x ∈ t, (limbs x.2.natAbs).length ≤ W) (hs : ∀ x ∈ s, (limbs x.2.natAbs).length ≤ W) : ∀ x ∈ addT t s, (limbs x.2.natAbs).length ≤ W + 1 := by
 intro x hx
 rw [← coef_mem (okT_addT ot os) hx, coef_addT ot os]
 exact limbs_plus (coef_width ht _) (coef_width hs _)
theorem scaleT_width {t : Tm} {c : Int} {W U : Nat} (ht : ∀ x ∈ t, (limbs x.2.natAbs).length ≤ W) (hc : (limbs c.natAbs).length ≤ U) : ∀ x ∈ scaleT t c, (limbs x.2.natAbs).length ≤ W + U := by
 intro x hx
 unfold scaleT at hx
 split at hx
 ·simp at hx
 ·obtain ⟨y, hy, rfl⟩ := List.mem_map.1 hx
  exact limbs_times (ht y hy) hc
theorem scaleT_turn {t : Tm} {W : Nat} (ht : ∀ x ∈ t, (limbs x.2.natAbs).length ≤ W) : ∀ x ∈ scaleT t (-1), (limbs x.2.natAbs).length ≤ W := by
 intro x hx
 unfold scaleT at hx
 rw [if_neg (by decide)] at hx
 obtain ⟨y, hy, rfl⟩ := List.mem_map.1 hx
 exact limbs_turn (ht y hy)
theorem dropT_mem {t : Tm} {v : Int} {x : Int × Int} (hx : x ∈ dropT t v) : x ∈ t := (List.mem_filter.1 hx).1
theorem putT_width {lo : Int} {t s : Tm} {v : Int} {W : Nat} (ot : okT lo t) (os : okT lo s) (ht : ∀ x ∈ t, (limbs x.2.natAbs).length ≤ W) (hs : ∀ x ∈ s, (limbs x.2.natAbs).length ≤ W) : ∀ x ∈ putT t v s, (limbs x.2.natAbs).length ≤ W + W + 1 :=
 addT_width (okT_dropT ot v) (okT_scaleT os _) (fun x hx => Nat.le_trans (ht x (dropT_mem hx)) (by omega)) (scaleT_width hs (coef_width ht v))
theorem addT_len (a b : Tm) : (addT a b).length ≤ a.length + b.length := by
 match a, b with
 | [], b => rw [nil_addT]; simp
 | y :: a, [] => rw [addT_nil]; simp
 | (v, c) :: a, (u, d) :: b =>
  rw [addT_cons]
  split
  ·have := addT_len a ((u, d) :: b); simp at this ⊢; omega
  ·split
   ·have := addT_len ((v, c) :: a) b; simp at this ⊢; omega
   ·split
    ·have := addT_len a b; simp; omega
    ·have := addT_len a b; simp; omega
termination_by a.length + b.length
theorem scaleT_len (t : Tm) (c : Int) : (scaleT t c).length ≤ t.length := by
 unfold scaleT; split
 ·simp
 ·rw [List.length_map]; exact Nat.le_refl _
theorem dropT_len (t : Tm) (v : Int) : (dropT t v).length ≤ t.length := by unfold dropT; exact List.length_filter_le _ _
theorem putT_len (t s : Tm) (v : Int) : (putT t v s).length ≤ t.length + s.length := by
 unfold putT
 have h1 := addT_len (dropT t v) (scaleT s (coef t v))
 have h2 := dropT_len t v
 have h3 := scaleT_len s (coef t v)
 omega
theorem csum_one {t : Tm} (κ : Int) (ot : okT (-1) t) (x : Int) : csum (cat [(t, κ)]) x = coef t x := by
 rw [show cat [(t, κ)] = t by simp [cat], csum_okT ot]
theorem csum_two {t s : Tm} (κ μ : Int) (ot : okT (-1) t) (os : okT (-1) s) (x : Int) : csum (cat [(t, κ), (s, μ)]) x = coef t x + coef s x := by
 rw [show cat [(t, κ), (s, μ)] = t ++ s by simp [cat], csum_append, csum_okT ot, csum_okT os]
theorem csum_three {t s r : Tm} (κ μ ν : Int) (ot : okT (-1) t) (os : okT (-1) s) (or : okT (-1) r) (x : Int) : csum (cat [(t, κ), (s, μ), (r, ν)]) x = coef t x + coef s x + coef r x := by
 rw [show cat [(t, κ), (s, μ), (r, ν)] = t ++ (s ++ r) by simp [cat], csum_append, csum_append, csum_okT ot, csum_okT os, csum_okT or, Int.add_assoc]
theorem cat_one (t : Tm) (κ : Int) : (cat [(t, κ)]).length = t.length := by simp [cat]
theorem cat_two (t s : Tm) (κ μ : Int) : (cat [(t, κ), (s, μ)]).length = t.length + s.length := by simp [cat]
theorem cat_three (t s r : Tm) (κ μ ν : Int) : (cat [(t, κ), (s, μ), (r, ν)]).length = t.length + (s.length + r.length) := by simp [cat]
end M
theorem WorthL.const {w : World} {g : Bool} {A : Option Addr} {n c j : Nat} {Z : Int} (h : Worth w (.agg #[.bool g, .slice A n c]) Z j) : WorthL w (.agg #[.slice none 0 0, .bool g, .slice A n c]) [] Z j := by
 obtain ⟨g', A', n', c', l, e, h1, h2, h3⟩ := h
 simp at e
 obtain ⟨rfl, rfl, rfl, rfl⟩ := e
 refine ⟨none, 0, 0, [], g, A, n, c, l, rfl, LList.nil _ _ (Nat.zero_le _) _, h1, fun x hx => by simp at hx, h2, ?_, ?_⟩
 ·unfold M.ft; split <;> rfl
 ·subst h3
  unfold M.fk M.isL M.zv
  rw [show M.isT (-1) [] = true from rfl, Bool.true_and]
  split <;> rfl
theorem LTm.lit {w : World} {g : Nat} {T : TypeId} {v Z : Int} {b : Bool} {A : Option Addr} {n c W : Nat} (hb : Box w g #[.int .i64 v, .bool b, .slice A n c] T) (h : IsZ w (.agg #[.bool b, .slice A n c]) Z W) : LTm w (.slice (some ⟨g, 0, none⟩) 1 1) [(v, Z)] W := by
 obtain ⟨h1, h2, h3⟩ := h.fields
 refine ⟨⟨_, _, _, rfl, rfl, Nat.le_refl _, by unfold maxLen; omega, fun k x hx => ⟨_, rfl, hb.lt, ?_⟩⟩, fun x hx => by simp at hx; subst hx; exact h3⟩
 rcases k with _ | k
 ·simp at hx; subst hx
  refine ⟨A, n, c, by rw [Addr.add_lit]; exact hb.cell rfl, ?_, by rw [Addr.add_lit, Addr.add_lit]; exact hb.cell rfl, h2⟩
  rw [Addr.add_lit, Addr.add_lit]
  show w.cell? _ = some (.bool (decide (Z < 0)))
  rw [← h1]; exact hb.cell rfl
 ·simp at hx
end Go.Proofs.YtklmnmkmpkobhaaGreat
