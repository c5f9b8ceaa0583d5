/-
  A region that draws its order and ends with two stores, in whatever order.
-/
import Derived.Test.YtceplnfjlncekaaQTHeld
namespace Go.Proofs.Ytceplnfjlncekaa
set_option linter.unusedSimpArgs false
set_option linter.unusedVariables false
open Go.RowKit
section
variable {P : Program} {ops : Array Oper} {Q : Exit → Act → World → Prop}
/-- The two that are left, in both orders. -/
def WK2 (P : Program) (ops : Array Oper) (Q : Exit → Act → World → Prop) (i j : Nat) (a : Act) (w : World) : Prop :=
 wpOp P ops Q i (fun a' w' => wpOp P ops Q j (fun a'' w'' => Q .normal a'' w'') a' w') a w ∧ wpOp P ops Q j (fun a' w' => wpOp P ops Q i (fun a'' w'' => Q .normal a'' w'') a' w') a w
/-- The walk along a plan up to them: 0: yields wherever nothing beyond X has turned; 1: an act that only turns X and makes memory, alone; else: yields in every world. -/
def WF (P : Program) (ops : Array Oper) (Q : Exit → Act → World → Prop) (X : List Nat) (i j : Nat) : List (Nat × Nat) → Act → World → Prop
 | [], a, w => WK2 P ops Q i j a w
 | (k, 0) :: r, a, w => ∃ o v, ops[k]? = some o ∧ YieldsIf P ops (fun w' => Kept X w w') o v a ∧ WF P ops Q X i j r (a.put o.dst v) w
 | (k, 1) :: r, a, w => wpOp P ops Q k (fun a' w' => Kept X w w' ∧ WF P ops Q X i j r a' w') a w
 | (k, _ + 2) :: r, a, w => ∃ o v, ops[k]? = some o ∧ YieldsIf P ops (fun _ => True) o v a ∧ WF P ops Q X i j r (a.put o.dst v) w
def planF (ops : Array Oper) (i j : Nat) : List (Nat × Nat) → Array Bool → Bool
 | [], l => (Region.ready .any ops l == [i, j]) && ((Region.ready .any ops (l.setIfInBounds i true) == [j]) && ((Region.ready .any ops (l.setIfInBounds j true) == [i]) && ((Region.ready .any ops ((l.setIfInBounds i true).setIfInBounds j true) == []) && (Region.ready .any ops ((l.setIfInBounds j true).setIfInBounds i true) == []))))
 | (k, d) :: r, l => (Region.ready .any ops l).contains k && (planF ops i j r (l.setIfInBounds k true) && (match d with
  | 0 => Region.free .any ops l k && [i, j].all (fun x => (cover ops 6 (predsD ops x)).contains k)
  | 1 => Region.ready .any ops l == [k]
  | _ + 2 => Region.free .any ops l k))
theorem wpK_two {X : List Nat} {i j : Nat} {f : Nat} {listed : Array Bool} {a : Act} {w : World} (hs : planF ops i j [] listed = true) (h : WK2 P ops Q i j a w) : wpK P ops Q X [i, j] (f + 2) listed a w := by
 simp only [planF, Bool.and_eq_true, beq_iff_eq] at hs
 obtain ⟨h1, h2, h3, h4, h5⟩ := hs
 have fin : ∀ (l : Array Bool) (a : Act) (w : World), Region.ready .any ops l = [] → Q .normal a w → wpK P ops Q X [i, j] f l a w := fun l a w hr hq => by
  cases f with
  | zero => exact ⟨hr, hq⟩
  | succ f => exact ⟨fun _ => hq, fun k hk => by rw [hr] at hk; cases hk⟩
 refine ⟨fun e => (by rw [h1] at e; cases e), fun k hk => ?_⟩
 rw [h1] at hk
 simp at hk
 rcases hk with rfl | rfl
 ·refine wpOp_mono (fun a' w' hk => ⟨.inl (by simp), ⟨fun e => (by rw [h2] at e; cases e), fun x hx => ?_⟩⟩) h.1
  rw [h2] at hx
  simp at hx
  subst hx
  exact wpOp_mono (fun a'' w'' hq => ⟨.inl (by simp), fin _ _ _ h4 hq⟩) hk
 ·refine wpOp_mono (fun a' w' hk => ⟨.inl (by simp), ⟨fun e => (by rw [h3] at e; cases e), fun x hx => ?_⟩⟩) h.2
  rw [h3] at hx
  simp at hx
  subst hx
  exact wpOp_mono (fun a'' w'' hq => ⟨.inl (by simp), fin _ _ _ h5 hq⟩) hk
theorem WF.sound {X : List Nat} {i j : Nat} (hs : Region.noSelect ops = true) (hQ : ∀ c a d v w, Q (.panic c) (Act.put a d v) w ↔ Q (.panic c) a w) : ∀ (plan : List (Nat × Nat)) (fuel : Nat) (listed : Array Bool) (a : Act) (w : World),
 plan.length + 2 ≤ fuel → planF ops i j plan listed = true → DC ops listed → WF P ops Q X i j plan a w → wpK P ops Q X [i, j] fuel listed a w
 | [], 0, listed, a, w, hf, hp, _, h => by simp at hf
 | [], 1, listed, a, w, hf, hp, _, h => by simp at hf
 | [], f + 2, listed, a, w, _, hp, _, h => wpK_two hp h
 | (k, d) :: r, 0, listed, a, w, hf, _, _, _ => by simp at hf
 | (k, d) :: r, f + 1, listed, a, w, hf, hp, hdc, h => by
  simp only [planF, Bool.and_eq_true] at hp
  obtain ⟨h0, h4, h5⟩ := hp
  have hri : k ∈ Region.ready .any ops listed := by simpa using h0
  have hf' : r.length + 2 ≤ f := by simp at hf; omega
  match d, h, h5 with
  | 0, h, h5 =>
   obtain ⟨o, v, ho, hy, h⟩ := h
   simp only [Bool.and_eq_true] at h5
   exact wpK_first (wl := false) ho (Region.noSelect_spec hs) (fun c a w => (hQ c a _ _ w).1) (.inr fun x hx => by
    have := List.all_eq_true.1 h5.2 x hx
    simpa using this) f listed a w hdc (Region.free_spec ho h5.1) hri (YieldsIf.weaken hy (fun w'' h'' => h''.resolve_left (by simp))) (WF.sound hs hQ r f _ _ w hf' h4 (hdc.set_ hri) h)
  | 1, h, h5 =>
   have h6 : Region.ready .any ops listed = [k] := by simpa using h5
   refine ⟨fun h0 => absurd hri (by rw [h0]; simp), fun x hx => ?_⟩
   have hx' := hx
   rw [h6] at hx'
   obtain rfl : x = k := by simpa using hx'
   exact wpOp_mono (fun a' w' hk => ⟨.inr hk.1, WF.sound hs hQ r f _ a' w' hf' h4 (hdc.set_ hx) hk.2⟩) h
  | d + 2, h, h5 =>
   obtain ⟨o, v, ho, hy, h⟩ := h
   exact wpK_first (wl := true) ho (Region.noSelect_spec hs) (fun c a w => (hQ c a _ _ w).1) (.inl rfl) f listed a w hdc (Region.free_spec ho h5) hri (YieldsIf.weaken hy (fun w'' _ => trivial)) (WF.sound hs hQ r f _ _ w hf' h4 (hdc.set_ hri) h)
/-- The region by its plan. -/
theorem wp_region_F {id : Nat} {a : Act} {w : World} (X : List Nat) (plan : List (Nat × Nat)) (i j : Nat) (h : ∀ wd, Ext w wd → WF P ops Q X i j plan a wd) (hm : P.follows .mixedOrders = true := by exact rfl)
 (hp : (Region.noSelect ops && (planF ops i j plan (Array.replicate ops.size false) && decide (plan.length + 2 ≤ ops.size))) = true := by kernel_rfl)
 (hQ : ∀ c a d v w, Q (.panic c) (Act.put a d v) w ↔ Q (.panic c) a w := by intro _ _ d _ _; cases d <;> exact Iff.rfl) : (Code.region id ops true).wp P Q a w := by
 simp only [Bool.and_eq_true, decide_eq_true_eq] at hp
 have hdc : DC ops (Array.replicate ops.size false) := by
  intro k hk
  exfalso
  rcases Nat.lt_or_ge k ops.size with h' | h'
  ·simp [h'] at hk
  ·rw [Array.getD_eq_getD_getElem?, Array.getElem?_eq_none (by simpa using h')] at hk; cases hk
 exact wp_region_any hm (wpAny_of_K _ _ _ _ (WF.sound hp.1 hQ plan ops.size _ a { w with drawn := w.drawn + 1 } hp.2.2 hp.2.1 hdc (h _ (Below.drew (Below.refl _ _)))))
variable {X : List Nat} {i j k : Nat} {r : List (Nat × Nat)} {a : Act} {w : World}
theorem WF.q (n : Nat) (v : Value) {o : Oper} (ho : ops[k]? = some o) (hy : ∀ w', Kept X w w' → (execOp a.eval o).run P w' = .ok (.value v) w') (h : WF P ops Q X i j r (a.put (some n) v) w) (hd : o.dst = some n := by exact rfl) (hw : Region.wanted o (yielded ops a.tmps) = true := by rfl) :
 WF P ops Q X i j ((k, 0) :: r) a w := ⟨o, v, ho, .inl ⟨hw, hy⟩, by rw [hd]; exact h⟩
theorem WF.p (n : Nat) (v : Value) (h : WF P ops Q X i j r (a.put (some n) v) w) {o : Oper} (ho : ops[k]? = some o := by exact rfl) (hd : o.dst = some n := by exact rfl) (hw : Region.wanted o (yielded ops a.tmps) = true := by rfl)
 (hy : ∀ w', Kept X w w' → (execOp a.eval o).run P w' = .ok (.value v) w' := by intro w' hk; go_simp) : WF P ops Q X i j ((k, 0) :: r) a w := WF.q n v ho hy h hd hw
theorem WF.y (n : Nat) (v : Value) (h : WF P ops Q X i j r (a.put (some n) v) w) {o : Oper} (ho : ops[k]? = some o := by exact rfl) (hd : o.dst = some n := by exact rfl) (hw : Region.wanted o (yielded ops a.tmps) = true := by rfl)
 (hy : ∀ w', (execOp a.eval o).run P w' = .ok (.value v) w' := by intro w'; go_simp) : WF P ops Q X i j ((k, 2) :: r) a w := ⟨o, v, ho, .inl ⟨hw, fun w' _ => hy w'⟩, by rw [hd]; exact h⟩
theorem WF.act (n : Nat) {v : Value} {w' : World} {o : Oper} (ho : ops[k]? = some o) (he : (execOp a.eval o).run P w = .ok (.value v) w') (hk : Kept X w w') (h : WF P ops Q X i j r (a.put (some n) v) w') (hd : o.dst = some n := by exact rfl)
 (hw : Region.wanted o (yielded ops a.tmps) = true := by rfl) : WF P ops Q X i j ((k, 1) :: r) a w := by
 rw [← hd] at h
 unfold WF wpOp
 simp only [ho, hw, if_true]
 refine .inl ?_
 unfold Oper.wp
 rw [he]
 exact ⟨hk, h⟩
theorem wpOp_st {K : Act → World → Prop} {w' : World} (h : K a w') {o : Oper} (ho : ops[k]? = some o := by exact rfl) (hd : o.dst = none := by exact rfl) (hw : Region.wanted o (yielded ops a.tmps) = true := by rfl)
 (he : (execOp a.eval o).run P w = .ok .skip w' := by go_simp) : wpOp P ops Q k K a w := by
 unfold wpOp
 simp only [ho, hw, if_true]
 refine .inl ?_
 unfold Oper.wp
 rw [he]
 rw [Oper.upon_skip, hd]
 exact h
end
end Go.Proofs.Ytceplnfjlncekaa
