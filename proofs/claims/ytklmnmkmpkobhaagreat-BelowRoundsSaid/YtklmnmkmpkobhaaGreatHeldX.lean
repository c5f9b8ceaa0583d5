/-
  Once more the walk of a region that draws its order (Held), with a list X of the blocks that its late stores may turn: a load of another block may come behind such a store.
-/
import Derived.Test.YtklmnmkmpkobhaaGreatHeld
namespace Go.Proofs.YtklmnmkmpkobhaaGreat
set_option linter.unusedSimpArgs false
set_option linter.unusedVariables false
open Go.RowKit

/-- Nothing that was there below B has turned, but for the blocks X. -/
def KeptB (B : Nat) (X : List Nat) (w w' : World) : Prop := Below 0 w w' ∧ ∀ k, k < w.heap.size → k < B → k ∉ X → w'.heap[k]? = w.heap[k]?
theorem KeptB.trans {B : Nat} {X : List Nat} {a b c : World} (h : KeptB B X a b) (k : KeptB B X b c) : KeptB B X a c :=
 ⟨h.1.trans k.1, fun i hi hb hx => (k.2 i (Nat.lt_of_lt_of_le hi h.1.size) hb hx).trans (h.2 i hi hb hx)⟩
theorem Ext.keptB {w w' : World} (h : Ext w w') (B : Nat) (X : List Nat) : KeptB B X w w' := ⟨Below.mono h (Nat.zero_le _), fun k hk _ _ => h.block k hk⟩
theorem Kept.keptB {g B : Nat} {X : List Nat} {w w' : World} (h : Kept [g] w w') (hg : g ∈ X ∨ B ≤ g) : KeptB B X w w' :=
 ⟨h.1, fun k hk hb hx => h.2 k hk (by
  intro hm
  simp at hm
  subst hm
  rcases hg with hg | hg
  ·exact hx hg
  ·omega)⟩
theorem Box.keptX {B : Nat} {X : List Nat} {w w' : World} {g : Nat} {cs : Array Value} {t : TypeId} (h : Box w g cs t) (k : KeptB B X w w') (hl : g < B) (hg : g ∉ X) : Box w' g cs t := (k.2 g h.lt hl hg).trans h
theorem nm_nil {g : Nat} : g ∉ ([] : List Nat) := by simp
theorem nm_cons {g x : Nat} {r : List Nat} (h : g ∉ [x]) (k : g ∉ r) : g ∉ x :: r := by simp at h; simp [h, k]

section
variable {P : Program} {ops : Array Oper} {Q : Exit → Act → World → Prop}

/-- Whatever order is picked from here on; what is not late leaves all that was there as it is. -/
def wpX (P : Program) (ops : Array Oper) (Q : Exit → Act → World → Prop) (X : List Nat) (B : Nat) (late : List Nat) : Nat → Array Bool → Act → World → Prop
 | 0, listed, a, w => Region.ready .any ops listed = [] ∧ Q .normal a w
 | fuel + 1, listed, a, w =>
  (Region.ready .any ops listed = [] → Q .normal a w) ∧
  ∀ i ∈ Region.ready .any ops listed, wpOp P ops Q i (fun a' w' => ((i ∈ late ∧ KeptB B X w w') ∨ Ext w w') ∧ wpX P ops Q X B late fuel (listed.setIfInBounds i true) a' w') a w
theorem wpAny_of_X {X : List Nat} {B : Nat} {late : List Nat} : ∀ (fuel : Nat) (listed : Array Bool) (a : Act) (w : World), wpX P ops Q X B late fuel listed a w → wpAny P .any ops Q fuel listed a w
 | 0, _, _, _, h => h
 | fuel + 1, _, _, _, h => ⟨h.1, fun i hi => wpOp_mono (fun a' w' h' => wpAny_of_X fuel _ a' w' h'.2) (h.2 i hi)⟩

theorem wpX_first {X : List Nat} {B : Nat} {late : List Nat} {wl : Bool} {i : Nat} {oi : Oper} {v : Value} (hi : ops[i]? = some oi) (hsel : ∀ (j : Nat) (o : Oper) cs b, ops[j]? = some o → o.op ≠ .select cs b)
 (hQ : ∀ c a w, Q (.panic c) (a.put oi.dst v) w → Q (.panic c) a w) (hlate : wl = true ∨ ∀ j ∈ late, i ∈ cover ops 6 (predsD ops j)) :
 ∀ (fuel : Nat) (listed : Array Bool) (a : Act) (w : World), DC ops listed →
  (∀ j oj, ops[j]? = some oj → j ≠ i → listed.getD j true = false → (∀ e ∈ oj.after, Region.binds .any e = true → e.on ≠ i) → oi.apart ops oj = true) →
  i ∈ Region.ready .any ops listed → YieldsIf P ops (fun w' => (wl = true ∧ KeptB B X w w') ∨ Ext w w') oi v a →
  wpX P ops Q X B late fuel (listed.setIfInBounds i true) (a.put oi.dst v) w → wpX P ops Q X B late (fuel + 1) listed a w := by
 intro fuel
 induction fuel with
 | zero =>
  intro listed a w _ _ hr hy H
  refine ⟨fun h => (by rw [h] at hr; cases hr), fun j hj => ?_⟩
  by_cases hji : j = i
  ·subst hji; exact hy.wpOp hi (.inr (Ext.refl w)) ⟨.inr (Ext.refl w), H⟩
  ·have := ready_mono hj hji
   rw [H.1] at this
   cases this
 | succ fuel ih =>
  intro listed a w hdc hfree hr hy H
  refine ⟨fun h => (by rw [h] at hr; cases hr), fun j hj => ?_⟩
  by_cases hji : j = i
  ·subst hji; exact hy.wpOp hi (.inr (Ext.refl w)) ⟨.inr (Ext.refl w), H⟩
  ·have h1 := H.2 j (ready_mono hj hji)
   obtain ⟨hjun, oj, hoj, hall⟩ := mem_ready.1 hj
   have hiun := (mem_ready.1 hr).1
   have hnot : ∀ e ∈ oj.after, Region.binds .any e = true → e.on ≠ i := fun e he hb heq => by
    have h1 := hall e he hb
    have h0 := hiun
    rw [heq] at h1
    rcases Nat.lt_or_ge i listed.size with h' | h'
    ·simp [h'] at h0 h1; rw [h0] at h1; cases h1
    ·simp [Array.getElem?_eq_none h'] at h1
   have h2 := wpOp_putIf hoj (hfree j oj hoj hji hjun hnot) (fun cs b => hsel i oi cs b hi) (fun cs b => hsel j oj cs b hoj) hQ hy h1
   have hfree' : ∀ k ok, ops[k]? = some ok → k ≠ i → (listed.setIfInBounds j true).getD k true = false →
    (∀ e ∈ ok.after, Region.binds .any e = true → e.on ≠ i) → oi.apart ops ok = true := fun k ok hk hki hun hno => by
    refine hfree k ok hk hki ?_ hno
    by_cases hjk : j = k
    ·subst hjk; exact hjun
    ·rw [getD_set_ne true hjk] at hun; exact hun
   refine wpOp_mono (fun a' w' h3 => ⟨h3.2.1, ih (listed.setIfInBounds j true) a' w' (hdc.set_ hj) hfree' (ready_mono hr (Ne.symm hji)) ?_ ?_⟩) h2
   ·refine h3.1.imp (fun ⟨hw, hv⟩ => ⟨hw, fun w'' hs => hv w'' ?_⟩) id
    have hk : KeptB B X w w' := by
     rcases h3.2.1 with hlj | he
     ·exact hlj.2
     ·exact he.keptB B X
    rcases hs with ⟨h1, h2⟩ | hs
    ·exact .inl ⟨h1, hk.trans h2⟩
    ·rcases h3.2.1 with hlj | he
     ·rcases hlate with hl | hl
      ·exact .inl ⟨hl, hk.trans (hs.keptB B X)⟩
      ·exact absurd hiun (on_of_late hdc hj (hl j hlj.1))
     ·exact .inr (he.trans hs)
   ·rw [Array.setIfInBounds_comm _ _ hji]
    exact h3.2.2

/-- The walk along a plan: 0: yields wherever nothing old has turned; 1: a call that only makes memory, alone; 2: such a call, beside variables that may be made at any time; 3: such a variable; 4: a store, alone; 5: yields wherever nothing but X has turned. -/
def WX (P : Program) (ops : Array Oper) (Q : Exit → Act → World → Prop) (X : List Nat) (A : Nat → TypeId × Array Value) (B : Nat) : List (Nat × Nat) → List Nat → Act → World → Prop
 | [], _, a, w => Q .normal a w
 | (i, 0) :: r, G, a, w => ∃ o v, ops[i]? = some o ∧ YieldsIf P ops (fun w' => Ext w w') o v a ∧ WX P ops Q X A B r G (a.put o.dst v) w
 | (i, 1) :: r, G, a, w => wpOp P ops Q i (fun a' w' => Ext w w' ∧ WX P ops Q X A B r G a' w') a w
 | (i, 2) :: r, G, a, w => ∀ w1, Ext w w1 → wpOp P ops Q i (fun a' w' => Ext w1 w' ∧ WX P ops Q X A B r G a' w') a w1
 | (i, 3) :: r, G, a, w => ∀ g w1, Ext w w1 → Box w1 g (A i).2 (A i).1 → B ≤ g → g ∉ G → WX P ops Q X A B r (g :: G) (a.put (dstAt ops i) (ptr g)) w1
 | (i, 4) :: r, G, a, w => wpOp P ops Q i (fun a' w' => KeptB B X w w' ∧ WX P ops Q X A B r G a' w') a w
 | (i, 5) :: r, G, a, w => ∃ o v, ops[i]? = some o ∧ YieldsIf P ops (fun w' => KeptB B X w w') o v a ∧ WX P ops Q X A B r G (a.put o.dst v) w
 | (i, 6) :: r, G, a, w => (∀ w1, Ext w w1 → wpOp P ops Q i (fun a' w' => Ext w1 w' ∧ WX P ops Q X A B r G a' w') a w1) ∧
  (match r with
  | (m, _) :: r' => ∀ w1, Ext w w1 → wpOp P ops Q m (fun a' w' => Ext w1 w' ∧ ∀ w2, Ext w' w2 → wpOp P ops Q i (fun a'' w'' => Ext w2 w'' ∧ WX P ops Q X A B r' G a'' w'') a' w2) a w1
  | [] => False)
 | (_, _ + 7) :: _, _, _, _ => False

def planX (ops : Array Oper) (late : List Nat) : List (Nat × Nat) → Array Bool → Bool
 | [], l => (Region.ready .any ops l).isEmpty
 | (i, k) :: r, l => (Region.ready .any ops l).contains i && !(pend r).contains i && planX ops late r (l.setIfInBounds i true) &&
  (match k with
  | 0 => Region.free .any ops l i && apartAll ops i (pend r) && aheadOf ops i late
  | 1 => (Region.ready .any ops l == [i]) && (pend r).isEmpty
  | 2 => (Region.ready .any ops (listAll l (pend r)) == [i]) && apartAll ops i (pend r)
  | 3 => (Region.ready .any ops (listAll l (pend r)) == [i]) && apartAll ops i (pend r)
  | 4 => (Region.ready .any ops l == [i]) && (pend r).isEmpty && late.contains i
  | 5 => Region.free .any ops l i && apartAll ops i (pend r)
  | 6 => (match r with
   | (m, km) :: r' => (km == 2) && (Region.ready .any ops l).contains m && (Region.ready .any ops (listAll l (pend r'))).all (fun j => j == i || j == m) && apartAll ops i (pend r') && apartAll ops m (pend r') &&
    (Region.ready .any ops (l.setIfInBounds m true)).contains i && planX ops late r' ((l.setIfInBounds m true).setIfInBounds i true) && (Region.ready .any ops (listAll (l.setIfInBounds m true) (pend r')) == [i])
   | [] => false)
  | _ => false)

end
section
variable {P : Program} {ops : Array Oper} {Q : Exit → Act → World → Prop}

theorem slots_ofX {late : List Nat} : ∀ (p : List (Nat × Nat)) (l : Array Bool), planX ops late p l = true → Slots ops (pend p)
 | [], _, _ => ⟨List.nodup_nil, by intro j h; cases h⟩
 | (i, k) :: r, l, h => by
  unfold planX at h; simp only [Bool.and_eq_true] at h
  obtain ⟨⟨⟨h0, h3⟩, h4⟩, h5⟩ := h
  have ih := slots_ofX r _ h4
  by_cases hk : k = 3
  ·subst hk
   simp only [Bool.and_eq_true] at h5
   have h2 := h5.2
   have hp : pend ((i, 3) :: r) = i :: pend r := rfl
   rw [hp]
   have hi : i ∉ pend r := by simpa using h3
   have key : ∀ j ∈ pend r, ∀ d, dstAt ops j = some d → dstAt ops i ≠ some d := by
    intro j hj d hd
    have hr : i ∈ Region.ready .any ops l := by simpa using h0
    obtain ⟨_, oi, hoi, _⟩ := mem_ready.1 hr
    obtain ⟨oj, hoj, ha⟩ := apartAll_of hoi h2 hj
    obtain ⟨a1, a2, a3⟩ := Oper.apart_spec ha
    unfold dstAt at *
    rw [hoj] at hd
    rw [hoi]
    exact a2 d hd
   refine ⟨List.nodup_cons.2 ⟨hi, ih.1⟩, ?_⟩
   intro j hj j' hj' hne d hd
   rcases List.mem_cons.1 hj with e | q5 <;> rcases List.mem_cons.1 hj' with e' | q6
   ·exact absurd (e.trans e'.symm) hne
   ·subst e; exact fun he => key j' q6 d he hd
   ·subst e'; exact key j q5 d hd
   ·exact ih.2 j q5 j' q6 hne d hd
  ·have hp : pend ((i, k) :: r) = pend r := by simp [pend, hk]
   rw [hp]; exact ih

theorem WX.sound {X : List Nat} {A : Nat → TypeId × Array Value} {B : Nat} {late : List Nat} (hs : Region.noSelect ops = true) (hQ : ∀ c a d v w, Q (.panic c) (Act.put a d v) w ↔ Q (.panic c) a w) : ∀ (n : Nat) (plan : List (Nat × Nat)) (fuel : Nat) (listed : Array Bool) (D : Nat → Option Nat) (G : List Nat) (a : Act) (w wA : World),
 fuel + plan.length ≤ n → planX ops late plan listed = true → (∀ j ∈ pend plan, ∃ o, ops[j]? = some o ∧ AllocOf P o (A j)) → need D plan ≤ fuel → DC ops (listP D (pend plan) listed) →
 (∀ j ∈ pend plan, ∀ g, D j = some g → B ≤ g ∧ g ∉ G ∧ Box wA g (A j).2 (A j).1) →
 (∀ j ∈ pend plan, ∀ k ∈ pend plan, ∀ g, D j = some g → D k = some g → j = k) →
 Ext w wA → ((∀ j ∈ pend plan, D j = none) → wA = w) → B ≤ wA.heap.size → (∀ g ∈ G, g < wA.heap.size) →
 WX P ops Q X A B plan G a w → wpX P ops Q X B late fuel (listP D (pend plan) listed) (putsP ops D (pend plan) a) wA := by
 intro n
 induction n with
 | zero =>
  intro plan fuel listed D G a w wA hn hp hA hf hdc hD hI hE hw hB hG h
  match plan with
  | [] =>
   have e : wA = w := hw (by intro j hj; cases hj)
   subst e
   have hr : Region.ready .any ops listed = [] := by simpa [planX] using hp
   match fuel with
   | 0 => exact ⟨hr, h⟩
   | f + 1 => simp at hn
  | _ :: _ => simp at hn
 | succ n ih =>
  intro plan fuel listed D G a w wA hn hp hA hf hdc hD hI hE hw hB hG h
  have early : ∀ (f : Nat) (j : Nat), fuel = f + 1 → j ∈ pend plan → D j = none → j ∈ Region.ready .any ops (listP D (pend plan) listed) →
   wpOp P ops Q j (fun a' w' => ((j ∈ late ∧ KeptB B X wA w') ∨ Ext wA w') ∧ wpX P ops Q X B late f ((listP D (pend plan) listed).setIfInBounds j true) a' w') (putsP ops D (pend plan) a) wA := by
   intro f j hfu hj hDj hjr
   obtain ⟨o, ho, hz⟩ := hA j hj
   refine wpOp_alloc ho hz ⟨.inr (Ext.alloc _ _), ?_⟩
   have hsl := slots_ofX plan listed hp
   have hdc' := hdc.set_ hjr
   rw [← listP_upd (g := wA.heap.size) hDj (pend plan) listed hj hsl.1] at hdc'
   rw [← putsP_upd hDj (pend plan) a hj hsl, ← listP_upd (g := wA.heap.size) hDj (pend plan) listed hj hsl.1]
   have hnu := (need_upd (g := wA.heap.size) hDj plan).2 hj
   refine ih plan f listed (upd D j wA.heap.size) G a w _ (by omega) hp hA (by omega) hdc' ?_ ?_ (hE.alloc' _) (fun h0 => ?_) ?_ ?_ h
   ·intro k hk g hg
    by_cases hkj : k = j
    ·subst hkj
     rw [upd_self] at hg
     injection hg with hg
     subst hg
     exact ⟨hB, fun hx => Nat.lt_irrefl _ (hG _ hx), Box.new _ _ _⟩
    ·rw [upd_other hkj] at hg
     obtain ⟨b1, b2, b3⟩ := hD k hk g hg
     exact ⟨b1, b2, b3.alloc _⟩
   ·intro k hk k' hk' g hg hg'
    by_cases hkj : k = j <;> by_cases hkj' : k' = j
    ·rw [hkj, hkj']
    ·rw [hkj, upd_self] at hg
     rw [upd_other hkj'] at hg'
     injection hg with hg
     subst hg
     exact absurd (hD k' hk' _ hg').2.2.lt (Nat.lt_irrefl _)
    ·rw [hkj', upd_self] at hg'
     rw [upd_other hkj] at hg
     injection hg' with hg'
     subst hg'
     exact absurd (hD k hk _ hg).2.2.lt (Nat.lt_irrefl _)
    ·rw [upd_other hkj] at hg
     rw [upd_other hkj'] at hg'
     exact hI k hk k' hk' g hg hg'
   ·have := h0 j hj
    rw [upd_self] at this
    cases this
   ·exact Nat.le_trans hB (Ext.alloc wA (.cells (A j).2 (A j).1)).size
   ·exact fun g hg => Nat.lt_of_lt_of_le (hG g hg) (Ext.alloc wA (.cells (A j).2 (A j).1)).size
  match plan with
  | [] =>
   have e : wA = w := hw (by intro j hj; cases hj)
   subst e
   have hr : Region.ready .any ops listed = [] := by simpa [planX] using hp
   match fuel with
   | 0 => exact ⟨hr, h⟩
   | f + 1 => exact ⟨fun _ => h, fun i hi => (by rw [show Region.ready .any ops (listP D (pend []) listed) = [] from hr] at hi; cases hi)⟩
  | (i, k) :: r =>
   unfold planX at hp; simp only [Bool.and_eq_true] at hp
   obtain ⟨⟨⟨h0, h3⟩, h4⟩, h5⟩ := id hp
   have hi : i ∉ pend r := by simpa using h3
   have hri : i ∈ Region.ready .any ops listed := by simpa using h0
   -- a value that is taken first
   have pure : ∀ (wl : Bool) (f : Nat) (o : Oper) (v : Value), pend ((i, k) :: r) = pend r → fuel = f + 1 → need D r ≤ f → Region.free .any ops listed i = true → apartAll ops i (pend r) = true → (wl = true ∨ ∀ j ∈ late, i ∈ cover ops 6 (predsD ops j)) →
    ops[i]? = some o → YieldsIf P ops (fun w' => (wl = true ∧ KeptB B X w w') ∨ Ext w w') o v a → WX P ops Q X A B r G (a.put o.dst v) w → wpX P ops Q X B late fuel (listP D (pend ((i, k) :: r)) listed) (putsP ops D (pend ((i, k) :: r)) a) wA := by
    intro wl f o v hpe hfu hfn h1 h2 hl ho hy h
    subst hfu
    rw [hpe] at hA hdc hD hI hw ⊢
    have hsi := Region.noSelect_spec hs i o
    have e1 := listP_set D i (pend r) listed
    have e2 : putsP ops D (pend r) (a.put o.dst v) = (putsP ops D (pend r) a).put o.dst v := putsP_put (pend r) a (by
     intro j hj d hd he
     obtain ⟨oj, hoj, ha⟩ := apartAll_of ho h2 hj
     obtain ⟨a1, a2, a3⟩ := Oper.apart_spec ha
     unfold dstAt at hd
     rw [hoj] at hd
     exact a2 d hd he)
    have hrA := ready_listP (D := D) (pend r) listed hi hri
    refine wpX_first (X := X) (B := B) (wl := wl) ho (Region.noSelect_spec hs) (fun c a w => (hQ c a _ _ w).1) hl f _ _ _ hdc (Region.free_spec ho (free_listP _ _ h1)) hrA
     (yields_puts ho (fun cs b => hsi cs b ho) (pend r) a h2 (YieldsIf.weaken hy (fun w'' h'' => h''.imp (fun h'' => ⟨h''.1, (hE.keptB B X).trans h''.2⟩) (fun h'' => hE.trans h'')))) ?_
    rw [← e1, ← e2]
    exact ih r f _ D G _ w wA (by simp at hn; omega) h4 hA hfn (by rw [e1]; exact hdc.set_ hrA) hD hI hE hw hB hG h
   match k, hp, hA, hf, hdc, hD, hI, hw, h, h5, early, pure with
   | 0, hp, hA, hf, hdc, hD, hI, hw, h, h5, early, pure =>
    match fuel with
    | 0 => simp [need] at hf
    | f + 1 =>
     obtain ⟨o, v, ho, hy, h⟩ := h
     simp only [Bool.and_eq_true] at h5
     refine pure false f o v rfl rfl (by simp [need] at hf; omega) h5.1.1 h5.1.2 (.inr fun j hj => ?_) ho (YieldsIf.weaken hy (fun w'' h'' => h''.resolve_left (by simp))) h
     have := List.all_eq_true.1 h5.2 j hj
     simpa using this
   | 5, hp, hA, hf, hdc, hD, hI, hw, h, h5, early, pure =>
    match fuel with
    | 0 => simp [need] at hf
    | f + 1 =>
     obtain ⟨o, v, ho, hy, h⟩ := h
     simp only [Bool.and_eq_true] at h5
     exact pure true f o v (by simp [pend]) rfl (by simp [need] at hf; omega) h5.1 h5.2 (.inl rfl) ho (YieldsIf.weaken hy (fun w'' h'' => h''.elim And.right (fun h'' => h''.keptB B X))) h
   | k + 7, hp, hA, hf, hdc, hD, hI, hw, h, h5, early, pure => exact absurd h5 (by simp)
   | 6, hp, hA, hf, hdc, hD, hI, hw, h, h5, early, pure =>
    match fuel with
    | 0 => simp [need] at hf
    | f + 1 =>
     rcases r with _ | ⟨⟨m, km⟩, r'⟩
     ·simp at h5
     ·simp only [Bool.and_eq_true, beq_iff_eq] at h5
      obtain ⟨⟨⟨⟨⟨⟨⟨hkm, hrm⟩, hall⟩, hapi⟩, hapm⟩, c1⟩, c2⟩, c3⟩ := h5
      subst hkm
      have hrm' : m ∈ Region.ready .any ops listed := by simpa using hrm
      have hir : i ∉ pend r' := hi
      have hmr : m ∉ pend r' := by
       have h4' := h4
       unfold planX at h4'; simp only [Bool.and_eq_true] at h4'
       simpa using h4'.1.1.2
      obtain ⟨_, o, ho, _⟩ := mem_ready.1 hri
      obtain ⟨_, om, hom, _⟩ := mem_ready.1 hrm'
      have hrA : i ∈ Region.ready .any ops (listP D (pend r') listed) := ready_listP (pend r') listed hir hri
      have hrM : m ∈ Region.ready .any ops (listP D (pend r') listed) := ready_listP (pend r') listed hmr hrm'
      have hdc' : DC ops (listP D (pend r') listed) := hdc
      refine ⟨fun h0 => absurd hrA (by rw [show Region.ready .any ops (listP D (pend r') listed) = [] from h0]; simp), fun j hj => ?_⟩
      have hj' : j ∈ Region.ready .any ops (listP D (pend r') listed) := hj
      by_cases hjp : j ∈ pend r'
      ·refine early f j rfl hjp ?_ hj
       cases hDj : D j with
       | none => rfl
       | some g =>
        have := listP_on hDj (pend r') listed hjp
        rw [not_ready hj'] at this
        cases this
      ·have hja := ready_listAll (pend r') listed hjp hj'
       have hij : j = i ∨ j = m := by
        have := List.all_eq_true.1 hall j hja
        simpa using this
       rcases hij with e | e
       ·subst e
        have hsi := Region.noSelect_spec hs j o
        have hw2 := wpOp_puts ho (fun cs b => hsi cs b ho) hQ (D := D) (pend r') _ a hapi (h.1 wA hE)
        refine wpOp_mono ?_ hw2
        rintro a' w' ⟨a0, rfl, hk, hh⟩
        refine ⟨.inr hk, ?_⟩
        have e1 := listP_set D j (pend r') listed
        show wpX P ops Q X B late f ((listP D (pend r') listed).setIfInBounds j true) (putsP ops D (pend r') a0) w'
        rw [← e1]
        refine ih ((m, 2) :: r') f _ D G a0 w' w' (by simp at hn ⊢; omega) h4 hA (by simp [need] at hf ⊢; omega) (by show DC ops (listP D (pend r') _); rw [e1]; exact hdc'.set_ hrA) ?_ hI (Ext.refl _) (fun _ => rfl) (Nat.le_trans hB hk.size) (fun g hg => Nat.lt_of_lt_of_le (hG g hg) hk.size) hh
        intro k hk' g hg
        obtain ⟨b1, b2, b3⟩ := hD k hk' g hg
        exact ⟨b1, b2, b3.up hk⟩
       ·subst e
        have hsi := Region.noSelect_spec hs j om
        have hw2 := wpOp_puts hom (fun cs b => hsi cs b hom) hQ (D := D) (pend r') _ a hapm (h.2 wA hE)
        refine wpOp_mono ?_ hw2
        rintro a' w' ⟨a0, rfl, hk, hh⟩
        refine ⟨.inr hk, ?_⟩
        have e1 := listP_set D j (pend r') listed
        show wpX P ops Q X B late f ((listP D (pend r') listed).setIfInBounds j true) (putsP ops D (pend r') a0) w'
        rw [← e1]
        have hp2 : planX ops late ((i, 2) :: r') (listed.setIfInBounds j true) = true := by
         unfold planX; simp only [Bool.and_eq_true, beq_iff_eq]
         exact ⟨⟨⟨c1, by simpa using hir⟩, c2⟩, c3, hapi⟩
        refine ih ((i, 2) :: r') f _ D G a0 w' w' (by simp at hn ⊢; omega) hp2 hA (by simp [need] at hf ⊢; omega) (by show DC ops (listP D (pend r') _); rw [e1]; exact hdc'.set_ hrM) ?_ hI (Ext.refl _) (fun _ => rfl) (Nat.le_trans hB hk.size) (fun g hg => Nat.lt_of_lt_of_le (hG g hg) hk.size) hh
        intro k hk' g hg
        obtain ⟨b1, b2, b3⟩ := hD k hk' g hg
        exact ⟨b1, b2, b3.up hk⟩
   | 1, hp, hA, hf, hdc, hD, hI, hw, h, h5, early, pure =>
    match fuel with
    | 0 => simp [need] at hf
    | f + 1 =>
     simp only [Bool.and_eq_true, beq_iff_eq] at h5
     have hr : pend r = [] := by simpa using h5.2
     have hpd : pend ((i, 1) :: r) = [] := hr
     have e : wA = w := hw (by rw [hpd]; intro j hj; cases hj)
     subst e
     have hdc2 : DC ops listed := by rw [hpd] at hdc; exact hdc
     rw [hpd]
     refine ⟨fun h0 => absurd hri (by rw [show Region.ready .any ops listed = [] from h0]; simp), fun j hj => ?_⟩
     have hj' : j ∈ Region.ready .any ops listed := hj
     have hjr := hj'
     rw [h5.1] at hj'
     obtain rfl : j = i := by simpa using hj'
     refine wpOp_mono (fun a' w' hk => ⟨.inr hk.1, ?_⟩) h
     have := ih r f (listed.setIfInBounds j true) D G a' w' w' (by simp at hn; omega) h4 (by rw [hr]; intro j hj; cases hj) (by simp [need] at hf; omega) (by rw [hr]; exact DC.set_ hdc2 hjr) (by rw [hr]; intro j hj; cases hj) (by rw [hr]; intro j hj; cases hj) (Ext.refl _) (fun _ => rfl) (Nat.le_trans hB hk.1.size) (fun g hg => Nat.lt_of_lt_of_le (hG g hg) hk.1.size) hk.2
     rw [hr] at this
     exact this
   | 4, hp, hA, hf, hdc, hD, hI, hw, h, h5, early, pure =>
    match fuel with
    | 0 => simp [need] at hf
    | f + 1 =>
     simp only [Bool.and_eq_true, beq_iff_eq] at h5
     have hr : pend r = [] := by simpa using h5.1.2
     have hil : i ∈ late := by simpa using h5.2
     have hpd : pend ((i, 4) :: r) = [] := hr
     have e : wA = w := hw (by rw [hpd]; intro j hj; cases hj)
     subst e
     have hdc2 : DC ops listed := by rw [hpd] at hdc; exact hdc
     rw [hpd]
     refine ⟨fun h0 => absurd hri (by rw [show Region.ready .any ops listed = [] from h0]; simp), fun j hj => ?_⟩
     have hj' : j ∈ Region.ready .any ops listed := hj
     have hjr := hj'
     rw [h5.1.1] at hj'
     obtain rfl : j = i := by simpa using hj'
     refine wpOp_mono (fun a' w' hk => ⟨.inl ⟨hil, hk.1⟩, ?_⟩) h
     have := ih r f (listed.setIfInBounds j true) D G a' w' w' (by simp at hn; omega) h4 (by rw [hr]; intro j hj; cases hj) (by simp [need] at hf; omega) (by rw [hr]; exact DC.set_ hdc2 hjr) (by rw [hr]; intro j hj; cases hj) (by rw [hr]; intro j hj; cases hj) (Ext.refl _) (fun _ => rfl) (Nat.le_trans hB hk.1.1.size) (fun g hg => Nat.lt_of_lt_of_le (hG g hg) hk.1.1.size) hk.2
     rw [hr] at this
     exact this
   | 2, hp, hA, hf, hdc, hD, hI, hw, h, h5, early, pure =>
    match fuel with
    | 0 => simp [need] at hf
    | f + 1 =>
     simp only [Bool.and_eq_true, beq_iff_eq] at h5
     obtain ⟨h1, h2⟩ := h5
     obtain ⟨_, o, ho, _⟩ := mem_ready.1 hri
     have hrA : i ∈ Region.ready .any ops (listP D (pend r) listed) := ready_listP (pend r) listed hi hri
     have hdc' : DC ops (listP D (pend r) listed) := hdc
     refine ⟨fun h0 => absurd hrA (by rw [show Region.ready .any ops (listP D (pend r) listed) = [] from h0]; simp), fun j hj => ?_⟩
     have hj' : j ∈ Region.ready .any ops (listP D (pend r) listed) := hj
     by_cases hjp : j ∈ pend r
     ·refine early f j rfl hjp ?_ hj
      cases hDj : D j with
      | none => rfl
      | some g =>
       have := listP_on hDj (pend r) listed hjp
       rw [not_ready hj'] at this
       cases this
     ·have hja := ready_listAll (pend r) listed hjp hj'
      rw [h1] at hja
      obtain rfl : j = i := by simpa using hja
      have hsi := Region.noSelect_spec hs j o
      have hw2 := wpOp_puts ho (fun cs b => hsi cs b ho) hQ (D := D) (pend r) _ a h2 (h wA hE)
      refine wpOp_mono ?_ hw2
      rintro a' w' ⟨a0, rfl, hk, hh⟩
      refine ⟨.inr hk, ?_⟩
      have e1 := listP_set D j (pend r) listed
      show wpX P ops Q X B late f ((listP D (pend r) listed).setIfInBounds j true) (putsP ops D (pend r) a0) w'
      rw [← e1]
      refine ih r f _ D G a0 w' w' (by simp at hn; omega) h4 hA (by simp [need] at hf; omega) (by rw [e1]; exact hdc'.set_ hrA) ?_ hI (Ext.refl _) (fun _ => rfl) (Nat.le_trans hB hk.size) (fun g hg => Nat.lt_of_lt_of_le (hG g hg) hk.size) hh
      intro k hk' g hg
      obtain ⟨b1, b2, b3⟩ := hD k hk' g hg
      exact ⟨b1, b2, b3.up hk⟩
   | 3, hp, hA, hf, hdc, hD, hI, hw, h, h5, early, pure =>
    simp only [Bool.and_eq_true, beq_iff_eq] at h5
    obtain ⟨h1, h2⟩ := h5
    have hpd : pend ((i, 3) :: r) = i :: pend r := rfl
    rw [hpd] at hA hdc hD hI hw early ⊢
    cases hDi : D i with
    | some g =>
     obtain ⟨b1, b2, b3⟩ := hD i List.mem_cons_self g hDi
     have hh := h g wA hE b3 b1 b2
     have e1 : listP D (i :: pend r) listed = listP D (pend r) (listed.setIfInBounds i true) := by
      show listP D (pend r) (setD D i listed) = _
      unfold setD; rw [hDi]
     have e2 : putsP ops D (i :: pend r) a = putsP ops D (pend r) (a.put (dstAt ops i) (ptr g)) := by
      show putsP ops D (pend r) (putD ops D i a) = _
      unfold putD; rw [hDi]
     rw [e1] at hdc
     rw [e1, e2]
     refine ih r fuel _ D (g :: G) _ wA wA (by simp at hn; omega) h4 (fun j hj => hA j (List.mem_cons_of_mem _ hj)) (by simp [need, hDi] at hf; omega) hdc ?_ (fun j hj k hk => hI j (List.mem_cons_of_mem _ hj) k (List.mem_cons_of_mem _ hk)) (Ext.refl _) (fun _ => rfl) hB ?_ hh
     ·intro j hj g' hg'
      obtain ⟨c1, c2, c3⟩ := hD j (List.mem_cons_of_mem _ hj) g' hg'
      refine ⟨c1, ?_, c3⟩
      intro hx
      rcases List.mem_cons.1 hx with rfl | hx
      ·exact hi (by rw [hI i List.mem_cons_self j (List.mem_cons_of_mem _ hj) g' hDi hg']; exact hj)
      ·exact c2 hx
     ·intro g' hx
      rcases List.mem_cons.1 hx with rfl | hx
      ·exact b3.lt
      ·exact hG g' hx
    | none =>
     match fuel with
     | 0 => simp [need, hDi] at hf
     | f + 1 =>
      have e1 : listP D (i :: pend r) listed = listP D (pend r) listed := by
       show listP D (pend r) (setD D i listed) = _
       unfold setD; rw [hDi]
      have hrA : i ∈ Region.ready .any ops (listP D (pend r) listed) := ready_listP (pend r) listed hi hri
      refine ⟨fun h0 => absurd hrA (by rw [← e1, h0]; simp), fun j hj => ?_⟩
      have hj' : j ∈ Region.ready .any ops (listP D (pend r) listed) := by rw [← e1]; exact hj
      by_cases hji : j = i
      ·subst hji
       exact early f j rfl List.mem_cons_self hDi hj
      by_cases hjp : j ∈ pend r
      ·refine early f j rfl (List.mem_cons_of_mem _ hjp) ?_ hj
       cases hDj : D j with
       | none => rfl
       | some g =>
        have := listP_on hDj (pend r) listed hjp
        rw [not_ready hj'] at this
        cases this
      ·have hja := ready_listAll (pend r) listed hjp hj'
       rw [h1] at hja
       exact absurd (by simpa using hja) hji

/-- The region by its plan. -/
theorem wp_region_X (X : List Nat) {id : Nat} {a : Act} {w : World} (plan : List (Nat × Nat)) (A : Nat → TypeId × Array Value) (hm : P.follows .mixedOrders = true)
 (hp : (Region.noSelect ops && planX ops (lates plan) plan (Array.replicate ops.size false) && decide (need (fun _ => none) plan ≤ ops.size)) = true)
 (hA : ∀ j ∈ pend plan, ∃ o, ops[j]? = some o ∧ AllocOf P o (A j))
 (hQ : ∀ c a d v w, Q (.panic c) (Act.put a d v) w ↔ Q (.panic c) a w)
 (h : ∀ wd, Ext w wd → WX P ops Q X A wd.heap.size plan [] a wd) : (Code.region id ops true).wp P Q a w := by
 simp only [Bool.and_eq_true, decide_eq_true_eq] at hp
 have hl : ∀ (js : List Nat) (l : Array Bool), listP (fun _ => none) js l = l := by
  intro js; induction js with
  | nil => exact fun _ => rfl
  | cons j r ih => intro l; exact ih l
 have hpt : ∀ (js : List Nat) (a : Act), putsP ops (fun _ => none) js a = a := by
  intro js; induction js with
  | nil => exact fun _ => rfl
  | cons j r ih => intro l; exact ih l
 have hdc : DC ops (Array.replicate ops.size false) := by
  intro k hk
  exfalso
  rcases Nat.lt_or_ge k ops.size with h' | h'
  ·simp [h'] at hk
  ·rw [Array.getD_eq_getD_getElem?, Array.getElem?_eq_none (by simpa using h')] at hk; cases hk
 have := WX.sound (X := X) (B := w.heap.size) (late := lates plan) (A := A) hp.1.1 hQ _ plan ops.size (Array.replicate ops.size false) (fun _ => none) [] a { w with drawn := w.drawn + 1 } { w with drawn := w.drawn + 1 } (Nat.le_refl _) hp.1.2 hA hp.2 (by rw [hl]; exact hdc) (by intro _ _ _ h; cases h) (by intro _ _ _ _ _ h; cases h) (Ext.refl _) (fun _ => rfl) (Nat.le_refl _) (by intro _ h; cases h) (h _ (Below.drew (Below.refl _ _)))
 rw [hl, hpt] at this
 exact wp_region_any hm (wpAny_of_X _ _ _ _ this)

variable {X : List Nat} {A : Nat → TypeId × Array Value} {B : Nat} {G : List Nat} {i : Nat} {r : List (Nat × Nat)} {a : Act} {w : World} {o : Oper} {d : Option Tmp}
theorem WX.done (h : Q .normal a w) : WX P ops Q X A B [] G a w := h
theorem WX.pure {v : Value} (ho : ops[i]? = some o) (hd : o.dst = d) (hw : Region.wanted o (yielded ops a.tmps) = true)
 (hy : ∀ w', Ext w w' → (execOp a.eval o).run P w' = .ok (.value v) w') (h : WX P ops Q X A B r G (a.put d v) w) : WX P ops Q X A B ((i, 0) :: r) G a w :=
 ⟨o, v, ho, .inl ⟨hw, hy⟩, hd ▸ h⟩
theorem WX.skip (ho : ops[i]? = some o) (hd : o.dst = d) (hw : Region.wanted o (yielded ops a.tmps) = false)
 (h : WX P ops Q X A B r G (a.put d undef) w) : WX P ops Q X A B ((i, 0) :: r) G a w :=
 ⟨o, undef, ho, .inr ⟨hw, rfl⟩, hd ▸ h⟩
theorem WX.any {v : Value} (ho : ops[i]? = some o) (hd : o.dst = d) (hw : Region.wanted o (yielded ops a.tmps) = true)
 (hy : ∀ w', KeptB B X w w' → (execOp a.eval o).run P w' = .ok (.value v) w') (h : WX P ops Q X A B r G (a.put d v) w) : WX P ops Q X A B ((i, 5) :: r) G a w :=
 ⟨o, v, ho, .inl ⟨hw, hy⟩, hd ▸ h⟩
theorem WX.pass (ho : ops[i]? = some o) (hd : o.dst = d) (hw : Region.wanted o (yielded ops a.tmps) = false)
 (h : WX P ops Q X A B r G (a.put d undef) w) : WX P ops Q X A B ((i, 1) :: r) G a w := by
 subst hd
 unfold WX wpOp
 simp only [ho, hw, Bool.false_eq_true, if_false]
 exact ⟨Ext.refl _, h⟩
theorem WX.call {f : FuncId} {args : Array Value} (ho : ops[i]? = some o) (hd : o.dst = d) (hw : Region.wanted o (yielded ops a.tmps) = true)
 (he : (execOp a.eval o).run P w = .ok (.enter f args) w)
 (hc : Calls P f args w fun e w' => ∃ v, e = .returned v ∧ Ext w w' ∧ WX P ops Q X A B r G (a.put d v) w') : WX P ops Q X A B ((i, 1) :: r) G a w := by
 subst hd
 unfold WX wpOp
 simp only [ho, hw, if_true]
 refine .inl ?_
 unfold Oper.wp
 rw [he]
 unfold Oper.upon
 refine hc.mono ?_
 rintro e w' ⟨v, rfl, hk, h⟩
 exact ⟨hk, h⟩
theorem WX.callR {f : FuncId} {args : Array Value} (ho : ops[i]? = some o) (hd : o.dst = d) (hw : Region.wanted o (yielded ops a.tmps) = true)
 (he : ∀ w, (execOp a.eval o).run P w = .ok (.enter f args) w)
 (hc : ∀ w1, Ext w w1 → Calls P f args w1 fun e w' => ∃ v, e = .returned v ∧ Ext w1 w' ∧ WX P ops Q X A B r G (a.put d v) w') : WX P ops Q X A B ((i, 2) :: r) G a w := by
 subst hd
 unfold WX
 intro w1 hE
 unfold wpOp
 simp only [ho, hw, if_true]
 refine .inl ?_
 unfold Oper.wp
 rw [he]
 unfold Oper.upon
 refine (hc w1 hE).mono ?_
 rintro e w' ⟨v, rfl, hk, h⟩
 exact ⟨hk, h⟩
theorem WX.var (hd : dstAt ops i = d) (h : ∀ g w1, Ext w w1 → Box w1 g (A i).2 (A i).1 → B ≤ g → g ∉ G → WX P ops Q X A B r (g :: G) (a.put d (.pointer (some ⟨g, 0, none⟩))) w1) : WX P ops Q X A B ((i, 3) :: r) G a w := by
 subst hd
 exact h
theorem WX.store {w' : World} (ho : ops[i]? = some o) (hd : o.dst = none) (hw : Region.wanted o (yielded ops a.tmps) = true)
 (he : (execOp a.eval o).run P w = .ok .skip w') (hk : KeptB B X w w') (h : WX P ops Q X A B r G a w') : WX P ops Q X A B ((i, 4) :: r) G a w := by
 unfold WX wpOp
 simp only [ho, hw, if_true]
 refine .inl ?_
 unfold Oper.wp
 rw [he]
 rw [Oper.upon_skip, hd]
 exact ⟨hk, h⟩
theorem WX.store2 {g : Nat} {u v x y : Value} {t : TypeId} (ho : ops[i]? = some o) (hd : o.dst = none) (hw : Region.wanted o (yielded ops a.tmps) = true)
 (he : ∀ w, Box w g #[u, v] t → (execOp a.eval o).run P w = .ok .skip ((w.setCell ⟨g, 0, none⟩ x).setCell ⟨g, 1, none⟩ y)) (hb : Box w g #[u, v] t) (hno : noLimb #[u, v] = true)
 (hX : g ∈ X ∨ B ≤ g) (h : ∀ w', Kept [g] w w' → Keeps w w' → Box w' g #[x, y] t → WX P ops Q X A B r G a w') : WX P ops Q X A B ((i, 4) :: r) G a w := by
 have hk := kept_set (w := w) (g := g) x y
 exact WX.store ho hd hw (he w hb) (hk.keptB hX) (h _ hk (keeps_store hb hno hk) (hb.set2 x y))
theorem WX.store1 {g : Nat} {u x : Value} {t : TypeId} (ho : ops[i]? = some o) (hd : o.dst = none) (hw : Region.wanted o (yielded ops a.tmps) = true)
 (he : ∀ w, Box w g #[u] t → (execOp a.eval o).run P w = .ok .skip (w.setCell ⟨g, 0, none⟩ x)) (hb : Box w g #[u] t) (hno : noLimb #[u] = true)
 (hX : g ∈ X ∨ B ≤ g) (h : ∀ w', Kept [g] w w' → Keeps w w' → Box w' g #[x] t → WX P ops Q X A B r G a w') : WX P ops Q X A B ((i, 4) :: r) G a w := by
 have hk := kept_set1 (w := w) (g := g) x
 exact WX.store ho hd hw (he w hb) (hk.keptB hX) (h _ hk (keeps_store hb hno hk) (hb.set1 x))
theorem WX.storeAt {g off : Nat} {cs cs' : Array Value} {y : Value} {t : TypeId} (ho : ops[i]? = some o) (hd : o.dst = none) (hw : Region.wanted o (yielded ops a.tmps) = true)
 (he : ∀ w, Box w g cs t → (execOp a.eval o).run P w = .ok .skip (w.setCell ⟨g, off, none⟩ y)) (hb : Box w g cs t) (hno : noLimb cs = true) (hcs : cs.setIfInBounds off y = cs')
 (hX : g ∈ X ∨ B ≤ g) (h : ∀ w', Kept [g] w w' → Keeps w w' → Box w' g cs' t → WX P ops Q X A B r G a w') : WX P ops Q X A B ((i, 4) :: r) G a w := by
 have hk := kept_setAt (w := w) (g := g) (o := off) y
 exact WX.store ho hd hw (he w hb) (hk.keptB hX) (h _ hk (keeps_store hb hno hk) (hcs ▸ hb.setAt off y))
/-- A store of what is there already. -/
theorem WX.store2s {g : Nat} {x y : Value} {t : TypeId} (ho : ops[i]? = some o) (hd : o.dst = none) (hw : Region.wanted o (yielded ops a.tmps) = true)
 (he : ∀ w, Box w g #[x, y] t → (execOp a.eval o).run P w = .ok .skip ((w.setCell ⟨g, 0, none⟩ x).setCell ⟨g, 1, none⟩ y)) (hb : Box w g #[x, y] t)
 (h : ∀ w', Ext w w' → WX P ops Q X A B r G a w') : WX P ops Q X A B ((i, 1) :: r) G a w := by
 unfold WX wpOp
 simp only [ho, hw, if_true]
 refine .inl ?_
 unfold Oper.wp
 rw [he w hb, Oper.upon_skip, hd]
 exact ⟨same_set hb, h _ (same_set hb)⟩
theorem WX.act {v : Value} {w' : World} (ho : ops[i]? = some o) (hd : o.dst = d) (hw : Region.wanted o (yielded ops a.tmps) = true)
 (he : (execOp a.eval o).run P w = .ok (.value v) w') (hk : Ext w w') (h : WX P ops Q X A B r G (a.put d v) w') : WX P ops Q X A B ((i, 1) :: r) G a w := by
 subst hd
 unfold WX wpOp
 simp only [ho, hw, if_true]
 refine .inl ?_
 unfold Oper.wp
 rw [he]
 exact ⟨hk, h⟩
/-- A variable, or a box, or a literal's row, made in its turn. -/
theorem WX.new {cs : Array Value} {t : TypeId} {v : Nat → Value} (ho : ops[i]? = some o) (hd : o.dst = d) (hw : Region.wanted o (yielded ops a.tmps) = true)
 (he : ∀ w, (execOp a.eval o).run P w = .ok (.value (v w.heap.size)) (w.alloc (.cells cs t)))
 (h : ∀ g w', Ext w w' → Box w' g cs t → w.heap.size ≤ g → WX P ops Q X A B r G (a.put d (v g)) w') : WX P ops Q X A B ((i, 1) :: r) G a w :=
 WX.act ho hd hw (he w) (Ext.alloc _ _) (h _ _ (Ext.alloc _ _) (Box.new _ _ _) (Nat.le_refl _))
/-- Two that nothing orders: either way. -/
theorem WX.fork {m : Nat} (h1 : WX P ops Q X A B ((i, 2) :: (m, 2) :: r) G a w) (h2 : WX P ops Q X A B ((m, 2) :: (i, 2) :: r) G a w) : WX P ops Q X A B ((i, 6) :: (m, 2) :: r) G a w := ⟨h1, h2⟩
theorem WX.newR {cs : Array Value} {t : TypeId} {v : Nat → Value} (ho : ops[i]? = some o) (hd : o.dst = d) (hw : Region.wanted o (yielded ops a.tmps) = true)
 (he : ∀ w, (execOp a.eval o).run P w = .ok (.value (v w.heap.size)) (w.alloc (.cells cs t)))
 (h : ∀ g w', Ext w w' → Box w' g cs t → w.heap.size ≤ g → WX P ops Q X A B r G (a.put d (v g)) w') : WX P ops Q X A B ((i, 2) :: r) G a w := by
 intro w1 hE
 have h1 : WX P ops Q X A B ((i, 1) :: r) G a w1 := WX.act ho hd hw (he w1) (Ext.alloc _ _) (h _ _ (hE.trans (Ext.alloc _ _)) (Box.new _ _ _) hE.size)
 exact h1
/- The steps' short words. -/
theorem WX.p (n : Nat) (v : Value) (h : WX P ops Q X A B r G (a.put (some n) v) w) (ho : ops[i]? = some o := by exact rfl) (hd : o.dst = some n := by exact rfl) (hw : Region.wanted o (yielded ops a.tmps) = true := by rfl)
 (hy : ∀ w', Ext w w' → (execOp a.eval o).run P w' = .ok (.value v) w' := by intro w' hk; go_simp) : WX P ops Q X A B ((i, 0) :: r) G a w := WX.pure ho hd hw hy h
theorem WX.q (n : Nat) (v : Value) {o : Oper} (ho : ops[i]? = some o) (hy : ∀ w', Ext w w' → (execOp a.eval o).run P w' = .ok (.value v) w') (h : WX P ops Q X A B r G (a.put (some n) v) w) (hd : o.dst = some n := by exact rfl) (hw : Region.wanted o (yielded ops a.tmps) = true := by rfl) :
 WX P ops Q X A B ((i, 0) :: r) G a w := WX.pure ho hd hw hy h
theorem WX.s (n : Nat) (h : WX P ops Q X A B r G (a.put (some n) undef) w) (ho : ops[i]? = some o := by exact rfl) (hd : o.dst = some n := by exact rfl) (hw : Region.wanted o (yielded ops a.tmps) = false := by rfl) :
 WX P ops Q X A B ((i, 0) :: r) G a w := WX.skip ho hd hw h
theorem WX.t (n : Nat) (h : WX P ops Q X A B r G (a.put (some n) undef) w) (ho : ops[i]? = some o := by exact rfl) (hd : o.dst = some n := by exact rfl) (hw : Region.wanted o (yielded ops a.tmps) = false := by rfl) :
 WX P ops Q X A B ((i, 1) :: r) G a w := WX.pass ho hd hw h
theorem WX.y (n : Nat) (v : Value) (h : WX P ops Q X A B r G (a.put (some n) v) w) (ho : ops[i]? = some o := by exact rfl) (hd : o.dst = some n := by exact rfl) (hw : Region.wanted o (yielded ops a.tmps) = true := by rfl)
 (hy : ∀ w', KeptB B X w w' → (execOp a.eval o).run P w' = .ok (.value v) w' := by intro w' hk; go_simp) : WX P ops Q X A B ((i, 5) :: r) G a w := WX.any ho hd hw hy h
theorem WX.c (n : Nat) {f : FuncId} {args : Array Value} (hc : Calls P f args w fun e w' => ∃ v, e = .returned v ∧ Ext w w' ∧ WX P ops Q X A B r G (a.put (some n) v) w') (ho : ops[i]? = some o := by exact rfl) (hd : o.dst = some n := by exact rfl)
 (hw : Region.wanted o (yielded ops a.tmps) = true := by rfl) (he : (execOp a.eval o).run P w = .ok (.enter f args) w := by go_simp) : WX P ops Q X A B ((i, 1) :: r) G a w := WX.call ho hd hw he hc
end
end Go.Proofs.YtklmnmkmpkobhaaGreat
