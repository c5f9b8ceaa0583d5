/-
  Layer 10, the reference: lists of Sigs of the call's own.
-/
import Derived.Test.YtkhmgdfhggejaaaGreatDoorWJKL
namespace Go.Proofs.YtkhmgdfhggejaaaGreatDoor.Q
set_option linter.unusedSimpArgs false
set_option linter.unusedVariables false
open Go.RowKit
def SgC (w : World) : List M.Sg → List Value → Prop
 | [], xs => xs = []
 | s :: r, xs => ∃ A n c ys, xs = str s.name :: .slice A n c :: .int .i64 s.ret :: ys ∧ Ints w s.args (.slice A n c) ∧ SgC w r ys
theorem SgC.up {w w' : World} (e : Ext w w') : ∀ {l : List M.Sg} {xs : List Value}, SgC w l xs → SgC w' l xs
 | [], _, h => h
 | s :: r, _, ⟨A, n, c, ys, h1, h2, h3⟩ => ⟨A, n, c, ys, h1, h2.up e, SgC.up e h3⟩
theorem SgC.len {w : World} : ∀ {l : List M.Sg} {xs : List Value}, SgC w l xs → xs.length = l.length * 3
 | [], _, h => by rw [show _ = [] from h]; rfl
 | s :: r, _, ⟨A, n, c, ys, h1, h2, h3⟩ => by
  have := SgC.len h3
  rw [h1]; simp; omega
theorem SgC.app {w : World} : ∀ {l l' : List M.Sg} {xs ys : List Value}, SgC w l xs → SgC w l' ys → SgC w (l ++ l') (xs ++ ys)
 | [], _, _, _, h, h' => by rw [show _ = [] from h]; exact h'
 | s :: r, _, _, _, ⟨A, n, c, zs, h1, h2, h3⟩, h' => ⟨A, n, c, _, by rw [h1]; rfl, h2, SgC.app h3 h'⟩
theorem SgC.cell1 {w : World} : ∀ {l : List M.Sg} {xs : List Value}, SgC w l xs → ∀ u ∈ xs, u.oneCell' = true
 | [], _, h => by rw [show _ = [] from h]; intro u hu; simp at hu
 | s :: r, _, ⟨A, n, c, ys, h1, h2, h3⟩ => by
  intro u hu
  rw [h1] at hu
  simp only [List.mem_cons] at hu
  rcases hu with rfl | rfl | rfl | hu
  ·rfl
  ·rfl
  ·rfl
  ·exact SgC.cell1 h3 u hu
theorem SgC.get {w : World} : ∀ {l : List M.Sg} {xs : List Value}, SgC w l xs → ∀ (k : Nat) (s : M.Sg), l[k]? = some s → ∃ A n c, xs[k * 3]? = some (str s.name) ∧ xs[k * 3 + 1]? = some (.slice A n c) ∧ xs[k * 3 + 2]? = some (.int .i64 s.ret) ∧ Ints w s.args (.slice A n c)
 | [], _, _, _, _, hk => by simp at hk
 | s :: r, _, ⟨A, n, c, ys, h1, h2, h3⟩, 0, t, hk => by
  simp at hk
  subst hk h1
  exact ⟨A, n, c, rfl, rfl, rfl, h2⟩
 | s :: r, _, ⟨A, n, c, ys, h1, h2, h3⟩, k + 1, t, hk => by
  obtain ⟨A', n', c', g1, g2, g3, g4⟩ := SgC.get h3 k t (by simpa using hk)
  subst h1
  refine ⟨A', n', c', ?_, ?_, ?_, g4⟩
  ·rw [show (k + 1) * 3 = k * 3 + 1 + 1 + 1 by omega]; simpa using g1
  ·rw [show (k + 1) * 3 + 1 = (k * 3 + 1) + 1 + 1 + 1 by omega]; simpa using g2
  ·rw [show (k + 1) * 3 + 2 = (k * 3 + 2) + 1 + 1 + 1 by omega]; simpa using g3
theorem SgC.of {w : World} {ad : Addr} : ∀ (l : List M.Sg) (j : Nat), (∀ (k : Nat) (s : M.Sg), l[k]? = some s → SgAt w s (ad.add ((j + k) * 3))) → ∃ xs, SgC w l xs ∧ ∀ (i : Nat) (u : Value), xs[i]? = some u → w.cell? (ad.add (j * 3 + i)) = some u
 | [], j, _ => ⟨[], rfl, fun i u h => by simp at h⟩
 | s :: r, j, h => by
  obtain ⟨ys, hy, hc⟩ := SgC.of (ad := ad) r (j + 1) (fun k t hk => by
   have := h (k + 1) t (by simpa using hk)
   rwa [show (j + (k + 1)) * 3 = (j + 1 + k) * 3 by omega] at this)
  obtain ⟨A, n, c, ⟨h0, h1, h2⟩, h3⟩ := h 0 s rfl
  rw [Addr.add_add] at h1 h2
  refine ⟨_, ⟨A, n, c, ys, rfl, h3, hy⟩, fun i u hi => ?_⟩
  match i, hi with
  | 0, hi => simp at hi; subst hi; exact h0
  | 1, hi => simp at hi; subst hi; exact h1
  | 2, hi => simp at hi; subst hi; exact h2
  | i + 3, hi =>
   have := hc i u (by simpa using hi)
   rwa [show (j + 1) * 3 + i = j * 3 + (i + 3) by omega] at this
def OwnS (W w : World) (v : Value) (l : List M.Sg) : Prop := ∃ xs, w.ownsRow W.heap.size 52 3 v l.length xs ∧ SgC W l xs
theorem OwnS.nil (W w : World) : OwnS W w (.slice none 0 0) [] := ⟨[], World.ownsRow_nil w _ _ 3, rfl⟩
theorem OwnS.frame {W w w' : World} {v : Value} {l : List M.Sg} (h : OwnS W w v l) (hb : ∀ b, W.heap.size ≤ b → b < w.heap.size → w'.heap[b]? = w.heap[b]?) : OwnS W w' v l := by
 obtain ⟨xs, h1, h2⟩ := h
 exact ⟨xs, kframe h1 hb, h2⟩
theorem OwnS.up {W w w' : World} {v : Value} {l : List M.Sg} (h : OwnS W w v l) (e : Ext w w') : OwnS W w' v l := h.frame fun b _ hb => e.block b hb
theorem OwnS.base {W w : World} {v : Value} {l : List M.Sg} (h : OwnS W w v l) : ∀ b, b ∈ v.ownBlock.toList → W.heap.size ≤ b := by
 obtain ⟨xs, h1, _⟩ := h
 exact fun b hb => kown_base h1 hb
def SgSrc (W w : World) (l : List M.Sg) (A : Option Addr) (n : Nat) : Prop := n = l.length ∧ ∃ xs, SgC W l xs ∧ (l ≠ [] → ∃ ad, A = some ad ∧ ∀ (i : Nat) (u : Value), xs[i]? = some u → w.cell? (ad.add i) = some u)
theorem Sgs.src {W w : World} {l : List M.Sg} {A : Option Addr} {n c : Nat} (h : Sgs W l (.slice A n c)) (hk : ∀ (a : Addr) (u : Value), W.cell? a = some u → w.cell? a = some u) : SgSrc W w l A n := by
 obtain ⟨A', n', c', e, h2, h3, h4, h5⟩ := h
 injection e with e1 e2 e3
 subst e1 e2 e3
 refine ⟨h2, ?_⟩
 by_cases hne : l = []
 ·subst hne
  exact ⟨[], rfl, fun h => absurd rfl h⟩
 obtain ⟨ad, ha, hb, hc⟩ := h5 hne
 obtain ⟨xs, hx, hcell⟩ := SgC.of (ad := ad) l 0 (fun k s hk => by rw [Nat.zero_add]; exact hc k s hk)
 exact ⟨xs, hx, fun _ => ⟨ad, ha, fun i u hi => hk _ _ (by have := hcell i u hi; rwa [Nat.zero_mul, Nat.zero_add] at this)⟩⟩
theorem Sgs.to_ {w : World} {l : List M.Sg} {A : Option Addr} {n c k : Nat} (h : Sgs w l (.slice A n c)) (hk : k ≤ n) : Sgs w (l.take k) (.slice (if c = 0 then A else A.map (·.add (0 * 3))) k c) := by
 obtain ⟨A', n', c', e, h2, h3, h4, h5⟩ := h
 injection e with e1 e2 e3
 subst e1 e2 e3
 refine ⟨_, _, _, rfl, by rw [List.length_take]; omega, by omega, h4, fun hne => ?_⟩
 obtain ⟨ad, ha, hb, hc⟩ := h5 (by intro e; subst e; simp at hne)
 have hc0 : c ≠ 0 := by
  intro e
  apply hne
  apply List.eq_nil_of_length_eq_zero
  rw [List.length_take]; omega
 rw [if_neg hc0, ha]
 refine ⟨_, rfl, hb, fun j s hj => ?_⟩
 rw [List.getElem?_take] at hj
 split at hj
 ·have := hc j s hj
  rwa [Addr.add_add, Nat.zero_mul, Nat.zero_add]
 ·cases hj
theorem Sgs.from_ {w : World} {l : List M.Sg} {A : Option Addr} {n c k : Nat} (h : Sgs w l (.slice A n c)) (hk : k ≤ n) : Sgs w (l.drop k) (.slice (if c = k then A else A.map (·.add (k * 3))) (n - k) (c - k)) := by
 obtain ⟨A', n', c', e, h2, h3, h4, h5⟩ := h
 injection e with e1 e2 e3
 subst e1 e2 e3
 refine ⟨_, _, _, rfl, by rw [List.length_drop]; omega, by omega, by omega, fun hne => ?_⟩
 obtain ⟨ad, ha, hb, hc⟩ := h5 (by intro e; subst e; simp at hne)
 have hc0 : c ≠ k := by
  intro e
  apply hne
  apply List.eq_nil_of_length_eq_zero
  rw [List.length_drop]; omega
 rw [if_neg hc0, ha]
 refine ⟨_, rfl, by show (ad.add (k * 3)).block < _; unfold Addr.add; split <;> exact hb, fun j s hj => ?_⟩
 rw [List.getElem?_drop] at hj
 have := hc _ s hj
 rwa [Addr.add_add, ← Nat.add_mul]
namespace M
def kPre (nm : List UInt8) (l : List Sg) (k : Nat) : Prop := ∀ (j : Nat) (x : Sg), j < k → l[j]? = some x → Go.Op.bytesLess x.name nm = true
end M
end Go.Proofs.YtkhmgdfhggejaaaGreatDoor.Q
