/-
  Mathematics of a form that is built of its parts, in order and turned round; rows of numbers of 8 bits.
-/
import Derived.Test.YtfjehdcdbejlnaaGreatLOpen
import Derived.Deep.Slices
namespace Go.Proofs.YtfjehdcdbejlnaaGreat
open Go.ChangeShapes Go.WideShapes Go.ChangeAt Go.RowKit
set_option linter.unusedSimpArgs false
set_option linter.unusedVariables false
namespace M
/-- The first i numbers as a form's terms. -/
def bt (xs : List Int) : Nat → Tm
  | 0 => []
  | i + 1 => bt xs i ++ (if xs.getD i 0 = 0 then [] else [((i : Int), xs.getD i 0)])
theorem bt_low (xs : List Int) (i : Nat) : ∀ x ∈ bt xs i, x.1 < (i : Int) := by
  induction i with
  | zero => intro x hx; simp [bt] at hx
  | succ i ih =>
    intro x hx
    unfold bt at hx
    rcases List.mem_append.1 hx with hx | hx
    · have := ih x hx; omega
    · split at hx
      · simp at hx
      · simp at hx; subst hx; simp only []; omega
theorem okT_bt (xs : List Int) (i : Nat) : okT (-1) (bt xs i) := by
  induction i with
  | zero => trivial
  | succ i ih =>
    unfold bt
    split
    · rw [List.append_nil]; exact ih
    · next h => exact okT_snoc ih (bt_low xs i) (by omega) h
theorem coef_bt (xs : List Int) (i : Nat) (v : Int) : coef (bt xs i) v = if 0 ≤ v ∧ v < (i : Int) then xs.getD v.toNat 0 else 0 := by
  induction i with
  | zero => rw [if_neg (by omega)]; rfl
  | succ i ih =>
    unfold bt
    split
    · next h =>
      rw [List.append_nil, ih]
      by_cases e : v = (i : Int)
      · subst e; rw [if_neg (by omega), if_pos (by omega), Int.toNat_natCast, h]
      · by_cases e2 : 0 ≤ v ∧ v < (i : Int)
        · rw [if_pos e2, if_pos (by omega)]
        · rw [if_neg e2, if_neg (by omega)]
    · rw [coef_snoc fun x hx => by have := bt_low xs i x hx; omega, ih]
      by_cases e : v = (i : Int)
      · subst e; rw [if_neg (by omega), if_pos rfl, if_pos (by omega), Int.toNat_natCast, Int.zero_add]
      · rw [show (if (i : Int) = v then xs.getD i 0 else 0) = 0 from if_neg fun e' => e e'.symm, Int.add_zero]
        by_cases e2 : 0 ≤ v ∧ v < (i : Int)
        · rw [if_pos e2, if_pos (by omega)]
        · rw [if_neg e2, if_neg (by omega)]
theorem bt_len (xs : List Int) (i : Nat) : (bt xs (i + 1)).length = (bt xs i).length + (if xs.getD i 0 = 0 then 0 else 1) := by
  conv => lhs; unfold bt
  rw [List.length_append]
  split <;> rfl
theorem bt_short (xs : List Int) (i : Nat) : (bt xs i).length ≤ i := by
  induction i with
  | zero => exact Nat.le_refl _
  | succ i ih => rw [bt_len]; split <;> omega
theorem okT_one {j : Nat} {c : Int} : okT (-1) (scaleT [(max (j : Int) 0, 1)] c) := okT_scaleT (show okT (-1) [(max (j : Int) 0, (1 : Int))] from ⟨by omega, by decide, trivial⟩) c
theorem coef_one_at (j : Nat) (c v : Int) : coef (scaleT [(max (j : Int) 0, 1)] c) v = if v = (j : Int) then c else 0 := by
  rw [coef_scaleT, show max (j : Int) 0 = j by omega, coef_cons, show coef [] v = 0 from rfl]
  by_cases e : (j : Int) = v
  · rw [if_pos e, if_pos e.symm, Int.one_mul]
  · rw [if_neg e, if_neg fun e' => e e'.symm, Int.zero_mul]
/-- One more part, in order. -/
theorem bt_step (xs : List Int) (i : Nat) : addT (bt xs i) (scaleT [(max (i : Int) 0, 1)] (xs.getD i 0)) = bt xs (i + 1) := by
  refine okT_ext (okT_addT (okT_bt xs i) okT_one) (okT_bt xs (i + 1)) fun v => ?_
  rw [coef_addT (okT_bt xs i) okT_one, coef_bt, coef_one_at, coef_bt]
  by_cases e : v = (i : Int)
  · subst e; rw [if_neg (by omega), if_pos rfl, if_pos (by omega), Int.toNat_natCast, Int.zero_add]
  · rw [if_neg e, Int.add_zero]
    by_cases e2 : 0 ≤ v ∧ v < (i : Int)
    · rw [if_pos e2, if_pos (by omega)]
    · rw [if_neg e2, if_neg (by omega)]
/-- What is built turned round, after i parts. -/
structure Turned (xs : List Int) (n turn i : Nat) (t : Tm) : Prop where
  ok : okT (-1) t
  coef : ∀ v : Int, M.coef t v = if 0 ≤ v ∧ v < (n : Int) ∧ (v.toNat + n - turn % n) % n < i then xs.getD v.toNat 0 else 0
  len : t.length ≤ i
theorem Turned.start (xs : List Int) (n turn : Nat) : Turned xs n turn 0 [] := ⟨trivial, fun v => by rw [if_neg (by omega)]; rfl, Nat.le_refl _⟩
theorem turn_mod {n turn i v : Nat} (hn : n ≤ 8) (hi : i < n) (hv : v < n) : (v + n - turn % n) % n = i ↔ v = (i + turn) % n := by
  have ht : turn % n < n := Nat.mod_lt _ (by omega)
  rw [Nat.add_mod i turn n]
  generalize turn % n = u at ht ⊢
  rw [Nat.mod_eq_of_lt hi]
  rcases (show n = 1 ∨ n = 2 ∨ n = 3 ∨ n = 4 ∨ n = 5 ∨ n = 6 ∨ n = 7 ∨ n = 8 by omega) with rfl | rfl | rfl | rfl | rfl | rfl | rfl | rfl <;> omega
theorem Turned.step {xs : List Int} {n turn i : Nat} {t : Tm} (h : Turned xs n turn i t) (hn : n ≤ 8) (hi : i < n) : Turned xs n turn (i + 1) (addT (scaleT [(max (((i + turn) % n : Nat) : Int) 0, 1)] (xs.getD ((i + turn) % n) 0)) t) := by
  have hj : (i + turn) % n < n := Nat.mod_lt _ (by omega)
  refine ⟨okT_addT okT_one h.ok, fun v => ?_, ?_⟩
  · rw [coef_addT okT_one h.ok, coef_one_at, h.coef]
    by_cases e : v = (((i + turn) % n : Nat) : Int)
    · have e1 := (turn_mod (turn := turn) hn hi hj).2 rfl
      rw [if_pos e, e, Int.toNat_natCast, e1, if_neg (by omega), if_pos (by omega), Int.add_zero]
    · rw [if_neg e, Int.zero_add]
      by_cases e0 : 0 ≤ v ∧ v < (n : Int)
      · have e1 := turn_mod (turn := turn) (v := v.toNat) hn hi (by omega)
        have e2 : (v.toNat + n - turn % n) % n ≠ i := fun e2 => e (by have := e1.1 e2; omega)
        by_cases e3 : (v.toNat + n - turn % n) % n < i
        · rw [if_pos ⟨e0.1, e0.2, e3⟩, if_pos ⟨e0.1, e0.2, by omega⟩]
        · rw [if_neg (by omega), if_neg (by omega)]
      · rw [if_neg (by omega), if_neg (by omega)]
  · have h1 := addT_len (scaleT [(max (((i + turn) % n : Nat) : Int) 0, 1)] (xs.getD ((i + turn) % n) 0)) t
    have h2 := scaleT_len [(max (((i + turn) % n : Nat) : Int) 0, (1 : Int))] (xs.getD ((i + turn) % n) 0)
    have h3 := h.len
    simp only [List.length_cons, List.length_nil] at h2
    omega
theorem Turned.fin {xs : List Int} {n turn : Nat} {t : Tm} (h : Turned xs n turn n t) : t = bt xs n := by
  refine okT_ext h.ok (okT_bt xs n) fun v => ?_
  rw [h.coef, coef_bt]
  by_cases e : 0 ≤ v ∧ v < (n : Int)
  · rw [if_pos ⟨e.1, e.2, Nat.mod_lt _ (by omega)⟩, if_pos e]
  · rw [if_neg (by omega), if_neg e]
/-- Small coefficients: one limb. -/
theorem one_limb {t : Tm} {lo : Int} (ot : okT lo t) (h : ∀ v, (coef t v).natAbs < 1000000000) : ∀ x ∈ t, (limbs x.2.natAbs).length ≤ 1 := by
  intro x hx
  rw [← coef_mem ot hx]
  exact limbs_of (by rw [Nat.pow_one]; exact h _)
end M
theorem IsL.small {w : World} {v : Value} {t : M.Tm} {κ : Int} {W : Nat} (h : IsL w v t κ W) (ht : ∀ v, (M.coef t v).natAbs < 1000000000) (hk : κ.natAbs < 1000000000) : IsL w v t κ 1 := by
  have ot : M.okT (-1) t := by obtain ⟨A, n, c, g, B, m, d, _, _, _, h4⟩ := h; exact h4
  exact h.short (M.one_limb ot ht) (M.limbs_of (by rw [Nat.pow_one]; exact hk))
/-- A row of numbers of 8 bits in memory. -/
def CList (w : World) (v : Value) (xs : List Int) : Prop :=
  ∃ A n c, v = .slice A n c ∧ n = xs.length ∧ n ≤ 9223372036854775807 ∧ (∀ x ∈ xs, -128 ≤ x ∧ x ≤ 127) ∧ ∀ k x, xs[k]? = some x → ∃ ad, A = some ad ∧ CellAt w (ad.add (k * 1)) (.int .i8 x)
theorem CList.count {w : World} {A : Option Addr} {n c : Nat} {xs : List Int} (h : CList w (.slice A n c) xs) : n = xs.length ∧ n ≤ 9223372036854775807 := by
  obtain ⟨A', n', c', e, h1, h2, _⟩ := h
  injection e with e1 e2 e3
  exact ⟨by omega, by omega⟩
theorem CList.get {w : World} {A : Option Addr} {n c : Nat} {xs : List Int} (h : CList w (.slice A n c) xs) {k : Nat} {x : Int} (hk : xs[k]? = some x) : ∃ ad, A = some ad ∧ CellAt w (ad.add k) (.int .i8 x) ∧ -128 ≤ x ∧ x ≤ 127 := by
  obtain ⟨A', n', c', e, h1, h2, h3, h4⟩ := h
  injection e with e1 e2 e3
  subst e1
  obtain ⟨ad, ha, hc⟩ := h4 k x hk
  rw [Nat.mul_one] at hc
  exact ⟨ad, ha, hc, (h3 x (List.mem_of_getElem? hk)).1, (h3 x (List.mem_of_getElem? hk)).2⟩
theorem cells_i8 : Tryz.prog.cellsOf 50 = 1 := by kernel_rfl
section
variable {H : Type} {enc : TypeId × Value → H} {W : World}
set_option maxRecDepth 100000 in
theorem open_CL {r : Reach} {b0 : Nat} {v : Value} {d : DataW H} {ps : List MemPlace} (hval : Value.okWide Tryz.prog W r b0 47 v) (h : DataW.Trod enc Tryz.prog W 0 (fun _ => true) true 47 v d ps) :
    ∃ A n c xs, v = .slice A n c ∧ CList W (.slice A n c) xs := by
  obtain ⟨a0, len, cap, rfl⟩ := okWide_slice Tryz.underlying47 hval
  obtain ⟨fuel, hf⟩ := h
  have hf' : DataW.trod enc Tryz.prog W 0 (fun _ => true) true fuel 47 [.slice a0 len cap] = some (d, ps) := hf
  rcases open_ints Tryz.underlying47 Tryz.underlying50 cells_i8 hf' with ⟨hcs, _⟩ | ⟨a, len', cap', zs, hcs, _, hl, hm, hz, _, hcell, hwz⟩
  · injection hcs with hcs
    injection hcs with e1 e2 e3
    subst e1 e2 e3
    exact ⟨none, 0, 0, [], rfl, none, 0, 0, rfl, rfl, Nat.zero_le _, by simp, fun k x hx => by simp at hx⟩
  · injection hcs with hcs
    injection hcs with e1 e2 e3
    subst e1 e2 e3
    simp only [if_true] at hz
    refine ⟨some a, _, _, zs.take len, rfl, some a, _, _, rfl, by simp; omega, by unfold maxLen at hm; omega, fun x hx => ?_, fun k x hx => ⟨a, rfl, ?_⟩⟩
    · have := hwz x (List.mem_of_mem_take hx)
      simpa [Lit.wf, IntKind.min, IntKind.max, IntKind.signed, IntKind.bits] using this
    · rw [List.getElem?_take] at hx
      split at hx
      · obtain ⟨hi, he⟩ := List.getElem?_eq_some_iff.1 hx
        have hc := hcell k hi
        have e : zs.getD k 0 = x := by simp [List.getD, hi, he]
        rw [e] at hc
        rw [Nat.mul_one]
        exact hc
      · cases hx
end
end Go.Proofs.YtfjehdcdbejlnaaGreat
