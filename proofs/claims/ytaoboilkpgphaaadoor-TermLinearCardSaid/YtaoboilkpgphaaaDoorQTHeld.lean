/-
  A region that draws its order, with a call that writes into blocks X besides making memory: what doesn't lie there stays.
-/
import Derived.Test.YtaoboilkpgphaaaDoorQHeld
namespace Go.Proofs.YtaoboilkpgphaaaDoor.Q
set_option linter.unusedSimpArgs false
set_option linter.unusedVariables false
open Go.RowKit
section
variable {P : Program} {ops : Array Oper} {Q : Exit → Act → World → Prop}
/-- Whatever order is picked from here on; what is not late leaves all that doesn't lie in X as it is. -/
def wpK (P : Program) (ops : Array Oper) (Q : Exit → Act → World → Prop) (X : List Nat) (late : List Nat) : Nat → Array Bool → Act → World → Prop
 | 0, listed, a, w => Region.ready .any ops listed = [] ∧ Q .normal a w
 | fuel + 1, listed, a, w =>
  (Region.ready .any ops listed = [] → Q .normal a w) ∧
  ∀ i ∈ Region.ready .any ops listed, wpOp P ops Q i (fun a' w' => (i ∈ late ∨ Kept X w w') ∧ wpK P ops Q X late fuel (listed.setIfInBounds i true) a' w') a w
theorem wpAny_of_K {X : List Nat} {late : List Nat} : ∀ (fuel : Nat) (listed : Array Bool) (a : Act) (w : World), wpK P ops Q X late fuel listed a w → wpAny P .any ops Q fuel listed a w
 | 0, _, _, _, h => h
 | fuel + 1, _, _, _, h => ⟨h.1, fun i hi => wpOp_mono (fun a' w' h' => wpAny_of_K fuel _ a' w' h'.2) (h.2 i hi)⟩
theorem wpK_first {X : List Nat} {late : List Nat} {wl : Bool} {i : Nat} {oi : Oper} {v : Value} (hi : ops[i]? = some oi) (hsel : ∀ (j : Nat) (o : Oper) cs b, ops[j]? = some o → o.op ≠ .select cs b)
 (hQ : ∀ c a w, Q (.panic c) (a.put oi.dst v) w → Q (.panic c) a w) (hlate : wl = true ∨ ∀ j ∈ late, i ∈ cover ops 6 (predsD ops j)) :
 ∀ (fuel : Nat) (listed : Array Bool) (a : Act) (w : World), DC ops listed →
  (∀ j oj, ops[j]? = some oj → j ≠ i → listed.getD j true = false → (∀ e ∈ oj.after, Region.binds .any e = true → e.on ≠ i) → oi.apart ops oj = true) →
  i ∈ Region.ready .any ops listed → YieldsIf P ops (fun w' => wl = true ∨ Kept X w w') oi v a →
  wpK P ops Q X late fuel (listed.setIfInBounds i true) (a.put oi.dst v) w → wpK P ops Q X late (fuel + 1) listed a w := by
 intro fuel
 induction fuel with
 | zero =>
  intro listed a w _ _ hr hy H
  refine ⟨fun h => (by rw [h] at hr; cases hr), fun j hj => ?_⟩
  by_cases hji : j = i
  ·subst hji; exact hy.wpOp hi (.inr (Kept.refl X w)) ⟨.inr (Kept.refl X w), H⟩
  ·have := ready_mono hj hji
   rw [H.1] at this
   cases this
 | succ fuel ih =>
  intro listed a w hdc hfree hr hy H
  refine ⟨fun h => (by rw [h] at hr; cases hr), fun j hj => ?_⟩
  by_cases hji : j = i
  ·subst hji; exact hy.wpOp hi (.inr (Kept.refl X w)) ⟨.inr (Kept.refl X w), H⟩
  ·have h1 := H.2 j (ready_mono hj hji)
   obtain ⟨hjun, oj, hoj, hall⟩ := mem_ready.1 hj
   have hiun := (mem_ready.1 hr).1
   have hnot : ∀ e ∈ oj.after, Region.binds .any e = true → e.on ≠ i := fun e he hb heq => by
    have h1 := hall e he hb
    have h0 := hiun
    rw [heq] at h1
    rcases Nat.lt_or_ge i listed.size with h' | h'
    ·simp [h'] at h0 h1; rw [h0] at h1; cases h1
    ·simp [Array.getElem?_eq_none h'] at h1
   have h2 := wpOp_putIf hoj (hfree j oj hoj hji hjun hnot) (fun cs b => hsel i oi cs b hi) (fun cs b => hsel j oj cs b hoj) hQ hy h1
   have hfree' : ∀ k ok, ops[k]? = some ok → k ≠ i → (listed.setIfInBounds j true).getD k true = false →
    (∀ e ∈ ok.after, Region.binds .any e = true → e.on ≠ i) → oi.apart ops ok = true := fun k ok hk hki hun hno => by
    refine hfree k ok hk hki ?_ hno
    by_cases hjk : j = k
    ·subst hjk; exact hjun
    ·rw [getD_set_ne true hjk] at hun; exact hun
   refine wpOp_mono (fun a' w' h3 => ⟨h3.2.1, ih (listed.setIfInBounds j true) a' w' (hdc.set_ hj) hfree' (ready_mono hr (Ne.symm hji)) ?_ ?_⟩) h2
   ·refine h3.1.imp (fun ⟨hw, hv⟩ => ⟨hw, fun w'' hs => hv w'' ?_⟩) id
    rcases hlate with hl | hl
    ·exact .inl hl
    ·rcases h3.2.1 with hlj | he
     ·exact absurd hiun (on_of_late hdc hj (hl j hlj))
     ·exact hs.imp id (fun h => he.trans h)
   ·rw [Array.setIfInBounds_comm _ _ hji]
    exact h3.2.2

/-- The walk along a plan: 0: yields wherever nothing beyond X has turned; 1: an act that only turns X and makes memory, alone; 2: yields in every world; 3: an act, alone, behind all that is told ahead of it. -/
def WK (P : Program) (ops : Array Oper) (Q : Exit → Act → World → Prop) (X : List Nat) : List (Nat × Nat) → Act → World → Prop
 | [], a, w => Q .normal a w
 | (i, 0) :: r, a, w => ∃ o v, ops[i]? = some o ∧ YieldsIf P ops (fun w' => Kept X w w') o v a ∧ WK P ops Q X r (a.put o.dst v) w
 | (i, 1) :: r, a, w => wpOp P ops Q i (fun a' w' => Kept X w w' ∧ WK P ops Q X r a' w') a w
 | (i, 2) :: r, a, w => ∃ o v, ops[i]? = some o ∧ YieldsIf P ops (fun _ => True) o v a ∧ WK P ops Q X r (a.put o.dst v) w
 | (i, _ + 3) :: r, a, w => wpOp P ops Q i (fun a' w' => WK P ops Q X r a' w') a w
def latesK : List (Nat × Nat) → List Nat
 | [] => []
 | (i, k) :: r => if 3 ≤ k then i :: latesK r else latesK r
def planK (ops : Array Oper) (late : List Nat) : List (Nat × Nat) → Array Bool → Bool
 | [], l => (Region.ready .any ops l).isEmpty
 | (i, k) :: r, l => (Region.ready .any ops l).contains i && (planK ops late r (l.setIfInBounds i true) && (match k with
  | 0 => Region.free .any ops l i && late.all (fun j => (cover ops 6 (predsD ops j)).contains i)
  | 1 => Region.ready .any ops l == [i]
  | 2 => Region.free .any ops l i
  | _ + 3 => (Region.ready .any ops l == [i]) && late.contains i))
theorem WK.sound {X : List Nat} {late : List Nat} (hs : Region.noSelect ops = true) (hQ : ∀ c a d v w, Q (.panic c) (Act.put a d v) w ↔ Q (.panic c) a w) : ∀ (plan : List (Nat × Nat)) (fuel : Nat) (listed : Array Bool) (a : Act) (w : World),
 plan.length ≤ fuel → planK ops late plan listed = true → DC ops listed → WK P ops Q X plan a w → wpK P ops Q X late fuel listed a w
 | [], 0, listed, a, w, _, hp, _, h => ⟨by simpa [planK] using hp, h⟩
 | [], f + 1, listed, a, w, _, hp, _, h => by
  have hr : Region.ready .any ops listed = [] := by simpa [planK] using hp
  exact ⟨fun _ => h, fun i hi => (by rw [hr] at hi; cases hi)⟩
 | (i, k) :: r, 0, listed, a, w, hf, _, _, _ => by simp at hf
 | (i, k) :: r, f + 1, listed, a, w, hf, hp, hdc, h => by
  simp only [planK, Bool.and_eq_true] at hp
  obtain ⟨h0, h4, h5⟩ := hp
  have hri : i ∈ Region.ready .any ops listed := by simpa using h0
  have hf' : r.length ≤ f := by simpa using hf
  match k, h, h5 with
  | 0, h, h5 =>
   obtain ⟨o, v, ho, hy, h⟩ := h
   simp only [Bool.and_eq_true] at h5
   exact wpK_first (wl := false) ho (Region.noSelect_spec hs) (fun c a w => (hQ c a _ _ w).1) (.inr fun j hj => by
    have := List.all_eq_true.1 h5.2 j hj
    simpa using this) f listed a w hdc (Region.free_spec ho h5.1) hri (YieldsIf.weaken hy (fun w'' h'' => h''.resolve_left (by simp))) (WK.sound hs hQ r f _ _ w hf' h4 (hdc.set_ hri) h)
  | 1, h, h5 =>
   have h6 : Region.ready .any ops listed = [i] := by simpa using h5
   refine ⟨fun h0 => absurd hri (by rw [h0]; simp), fun j hj => ?_⟩
   have hj' := hj
   rw [h6] at hj'
   obtain rfl : j = i := by simpa using hj'
   exact wpOp_mono (fun a' w' hk => ⟨.inr hk.1, WK.sound hs hQ r f _ a' w' hf' h4 (hdc.set_ hj) hk.2⟩) h
  | 2, h, h5 =>
   obtain ⟨o, v, ho, hy, h⟩ := h
   exact wpK_first (wl := true) ho (Region.noSelect_spec hs) (fun c a w => (hQ c a _ _ w).1) (.inl rfl) f listed a w hdc (Region.free_spec ho h5) hri (YieldsIf.weaken hy (fun w'' _ => trivial)) (WK.sound hs hQ r f _ _ w hf' h4 (hdc.set_ hri) h)
  | k + 3, h, h5 =>
   simp only [Bool.and_eq_true] at h5
   have h6 : Region.ready .any ops listed = [i] := by simpa using h5.1
   have hil : i ∈ late := by simpa using h5.2
   refine ⟨fun h0 => absurd hri (by rw [h0]; simp), fun j hj => ?_⟩
   have hj' := hj
   rw [h6] at hj'
   obtain rfl : j = i := by simpa using hj'
   exact wpOp_mono (fun a' w' hk => ⟨.inl hil, WK.sound hs hQ r f _ a' w' hf' h4 (hdc.set_ hj) hk⟩) h
/-- The region by its plan. -/
theorem wp_region_K {id : Nat} {a : Act} {w : World} (X : List Nat) (plan : List (Nat × Nat)) (h : ∀ wd, Ext w wd → WK P ops Q X plan a wd) (hm : P.follows .mixedOrders = true := by exact rfl)
 (hp : (Region.noSelect ops && (planK ops (latesK plan) plan (Array.replicate ops.size false) && decide (plan.length ≤ ops.size))) = true := by kernel_rfl)
 (hQ : ∀ c a d v w, Q (.panic c) (Act.put a d v) w ↔ Q (.panic c) a w := by intro _ _ d _ _; cases d <;> exact Iff.rfl) : (Code.region id ops true).wp P Q a w := by
 simp only [Bool.and_eq_true, decide_eq_true_eq] at hp
 have hdc : DC ops (Array.replicate ops.size false) := by
  intro k hk
  exfalso
  rcases Nat.lt_or_ge k ops.size with h' | h'
  ·simp [h'] at hk
  ·rw [Array.getD_eq_getD_getElem?, Array.getElem?_eq_none (by simpa using h')] at hk; cases hk
 exact wp_region_any hm (wpAny_of_K _ _ _ _ (WK.sound hp.1 hQ plan ops.size _ a { w with drawn := w.drawn + 1 } hp.2.2 hp.2.1 hdc (h _ (Below.drew (Below.refl _ _)))))
variable {X : List Nat} {i : Nat} {r : List (Nat × Nat)} {a : Act} {w : World}
theorem WK.done (h : Q .normal a w) : WK P ops Q X [] a w := h
theorem WK.q (n : Nat) (v : Value) {o : Oper} (ho : ops[i]? = some o) (hy : ∀ w', Kept X w w' → (execOp a.eval o).run P w' = .ok (.value v) w') (h : WK P ops Q X r (a.put (some n) v) w) (hd : o.dst = some n := by exact rfl) (hw : Region.wanted o (yielded ops a.tmps) = true := by rfl) :
 WK P ops Q X ((i, 0) :: r) a w := ⟨o, v, ho, .inl ⟨hw, hy⟩, by rw [hd]; exact h⟩
theorem WK.p (n : Nat) (v : Value) (h : WK P ops Q X r (a.put (some n) v) w) {o : Oper} (ho : ops[i]? = some o := by exact rfl) (hd : o.dst = some n := by exact rfl) (hw : Region.wanted o (yielded ops a.tmps) = true := by rfl)
 (hy : ∀ w', Kept X w w' → (execOp a.eval o).run P w' = .ok (.value v) w' := by intro w' hk; go_simp) : WK P ops Q X ((i, 0) :: r) a w := WK.q n v ho hy h hd hw
theorem WK.y (n : Nat) (v : Value) (h : WK P ops Q X r (a.put (some n) v) w) {o : Oper} (ho : ops[i]? = some o := by exact rfl) (hd : o.dst = some n := by exact rfl) (hw : Region.wanted o (yielded ops a.tmps) = true := by rfl)
 (hy : ∀ w', (execOp a.eval o).run P w' = .ok (.value v) w' := by intro w'; go_simp) : WK P ops Q X ((i, 2) :: r) a w := ⟨o, v, ho, .inl ⟨hw, fun w' _ => hy w'⟩, by rw [hd]; exact h⟩
theorem WK.c (n : Nat) {f : FuncId} {args : Array Value} (hc : Calls P f args w fun e w' => ∃ v, e = .returned v ∧ Kept X w w' ∧ WK P ops Q X r (a.put (some n) v) w') {o : Oper} (ho : ops[i]? = some o := by exact rfl) (hd : o.dst = some n := by exact rfl)
 (hw : Region.wanted o (yielded ops a.tmps) = true := by rfl) (he : (execOp a.eval o).run P w = .ok (.enter f args) w := by go_simp) : WK P ops Q X ((i, 1) :: r) a w := by
 unfold WK wpOp
 simp only [ho, hw, if_true]
 refine .inl ?_
 unfold Oper.wp
 rw [he]
 unfold Oper.upon
 refine hc.mono ?_
 rintro e w' ⟨v, rfl, hk, h⟩
 rw [← hd] at h
 exact ⟨hk, h⟩
theorem WK.act (n : Nat) {v : Value} {w' : World} {o : Oper} (ho : ops[i]? = some o) (he : (execOp a.eval o).run P w = .ok (.value v) w') (hk : Kept X w w') (h : WK P ops Q X r (a.put (some n) v) w') (hd : o.dst = some n := by exact rfl)
 (hw : Region.wanted o (yielded ops a.tmps) = true := by rfl) : WK P ops Q X ((i, 1) :: r) a w := by
 rw [← hd] at h
 unfold WK wpOp
 simp only [ho, hw, if_true]
 refine .inl ?_
 unfold Oper.wp
 rw [he]
 exact ⟨hk, h⟩
theorem WK.late (n : Nat) {v : Value} {w' : World} {o : Oper} (ho : ops[i]? = some o) (he : (execOp a.eval o).run P w = .ok (.value v) w') (h : WK P ops Q X r (a.put (some n) v) w') (hd : o.dst = some n := by exact rfl)
 (hw : Region.wanted o (yielded ops a.tmps) = true := by rfl) : WK P ops Q X ((i, 3) :: r) a w := by
 rw [← hd] at h
 unfold WK wpOp
 simp only [ho, hw, if_true]
 refine .inl ?_
 unfold Oper.wp
 rw [he]
 exact h
theorem WK.st {w' : World} (h : WK P ops Q X r a w') {o : Oper} (ho : ops[i]? = some o := by exact rfl) (hd : o.dst = none := by exact rfl) (hw : Region.wanted o (yielded ops a.tmps) = true := by rfl)
 (he : (execOp a.eval o).run P w = .ok .skip w' := by go_simp) : WK P ops Q X ((i, 3) :: r) a w := by
 unfold WK wpOp
 simp only [ho, hw, if_true]
 refine .inl ?_
 unfold Oper.wp
 rw [he]
 rw [Oper.upon_skip, hd]
 exact h
end
end Go.Proofs.YtaoboilkpgphaaaDoor.Q
