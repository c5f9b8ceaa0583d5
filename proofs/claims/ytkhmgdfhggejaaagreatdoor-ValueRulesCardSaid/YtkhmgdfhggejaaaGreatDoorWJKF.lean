/-
  Layer 10, the laws' known: what the reference says of a few terms: mathematics.
-/
import Derived.Test.YtkhmgdfhggejaaaGreatDoorWJKL
namespace Go.Proofs.YtkhmgdfhggejaaaGreatDoor.Q
set_option linter.unusedSimpArgs false
set_option linter.unusedVariables false
open Go.RowKit
namespace M
theorem limbs0 : M.limbs 0 = [] := by rw [M.limbs]; rfl
theorem isZ_nil : M.isZ false [] = true := by decide
theorem zv_nil : M.zv false [] = 0 := by decide
end M
namespace M
end M
section
variable {P : Program} {ops : Array Oper} {Q : Exit → Act → World → Prop} {A : Nat → TypeId × Array Value} {B : Nat} {i : Nat} {r : List (Nat × Nat)} {G : List Nat} {a : Act} {w : World} {d : Option Tmp}
end
theorem tmAt_of {w : World} {t : M.Tm} {op : Int} {g : Bool} {N A : Option Addr} {nn nc n c : Nat} {nm : List UInt8} {so : Int} {a : Addr} (h : IsTm w t (kv op g N nn nc nm so A n c)) (hc : Cell6 w a op g (.slice N nn nc) nm so (.slice A n c)) : TmAt w t a := by
 obtain ⟨o', g', ls, nm', so', ks⟩ := t
 obtain ⟨N', nn', nc', A', c', e, h2, h3⟩ := h
 simp only [kv, Value.agg.injEq, Array.mk.injEq, List.cons.injEq, and_true, Value.int.injEq, Value.bool.injEq, Value.slice.injEq, true_and] at e
 obtain ⟨e1, e2, ⟨e3, e4, e5⟩, e6, e7, e8, e9, e10⟩ := e
 subst e3 e4 e5 e8 e9 e10
 refine tmAt_mk.2 ⟨N, nn, nc, _, ?_, h2, h3⟩
 rw [show o' = op from e1.symm, show g' = g from e2.symm, show so' = so from e7.symm]
 unfold Cell6 at hc ⊢
 rw [e6] at hc
 exact hc
theorem tms_one {w : World} {t : M.Tm} {op : Int} {g : Bool} {N A : Option Addr} {nn nc n c gb : Nat} {nm : List UInt8} {so : Int} {T : TypeId} (h : IsTm w t (kv op g N nn nc nm so A n c))
 (hb : Box w gb #[.int .i64 op, .bool g, .slice N nn nc, str nm, .int .i64 so, .slice A n c] T) : Tms w [t] (.slice (some ⟨gb, 0, none⟩) 1 1) := by
 refine Tms.mk_ ⟨_, _, _, rfl, rfl, Nat.le_refl _, by decide, fun _ => ⟨_, rfl, hb.lt, fun k u hk => ?_⟩⟩
 rcases k with _ | k
 ·simp at hk
  subst hk
  refine tmAt_of h ?_
  unfold Cell6
  exact ⟨⟨hb.k 0, hb.k 1, hb.k 2⟩, hb.k 3, hb.k 4, hb.k 5⟩
 ·simp at hk
theorem tms_two {w : World} {t t' : M.Tm} {op op' : Int} {g g' : Bool} {N A N' A' : Option Addr} {nn nc n c nn' nc' n' c' gb : Nat} {nm nm' : List UInt8} {so so' : Int} {T : TypeId} (h : IsTm w t (kv op g N nn nc nm so A n c)) (h' : IsTm w t' (kv op' g' N' nn' nc' nm' so' A' n' c'))
 (hb : Box w gb #[.int .i64 op, .bool g, .slice N nn nc, str nm, .int .i64 so, .slice A n c, .int .i64 op', .bool g', .slice N' nn' nc', str nm', .int .i64 so', .slice A' n' c'] T) : Tms w [t, t'] (.slice (some ⟨gb, 0, none⟩) 2 2) := by
 refine Tms.mk_ ⟨_, _, _, rfl, rfl, Nat.le_refl _, by decide, fun _ => ⟨_, rfl, hb.lt, fun k u hk => ?_⟩⟩
 rcases k with _ | _ | k
 ·simp at hk
  subst hk
  refine tmAt_of h ?_
  unfold Cell6
  exact ⟨⟨hb.k 0, hb.k 1, hb.k 2⟩, hb.k 3, hb.k 4, hb.k 5⟩
 ·simp at hk
  subst hk
  refine tmAt_of h' ?_
  unfold Cell6
  exact ⟨⟨hb.k 6, hb.k 7, hb.k 8⟩, hb.k 9, hb.k 10, hb.k 11⟩
 ·simp at hk
theorem put6_kept {w : World} {k : Nat} {x0 x1 x2 x3 x4 x5 : Value} : Kept [k] w (put6 w k x0 x1 x2 x3 x4 x5) := ((((((kept_setAt x0).trans (kept_setAt x1)).trans (kept_setAt x2)).trans (kept_setAt x3)).trans (kept_setAt x4)).trans (kept_setAt x5))
theorem kept_cellA {X : List Nat} {w w' : World} (h : Kept X w w') {p : Addr} {v : Value} (hg : p.block ∉ X) (hc : w.cell? p = some v) : w'.cell? p = some v := by
 have hl := World.block_lt_of_cell? w _ hc
 rw [← hc]; exact World.cell?_of_block (h.2 _ hl hg)
theorem zero6_op {w : World} {k : Nat} {T : TypeId} {a : Addr} {op : Int} (hb : Box w k zero6 T) (hc : w.cell? a = some (.int .i64 op)) (hop : op ≠ 0) : a.block ≠ k := by
 intro e
 unfold World.cell? at hc
 rw [e, show w.heap[k]? = some (.cells zero6 T (0, 0)) from hb] at hc
 simp only at hc
 split at hc
 ·cases hc
 ·have hs := (Array.getElem?_eq_some_iff.1 hc).1
  have hs' : a.off < 6 := hs
  rcases (show a.off = 0 ∨ a.off = 1 ∨ a.off = 2 ∨ a.off = 3 ∨ a.off = 4 ∨ a.off = 5 by omega) with h | h | h | h | h | h
  all_goals
   rw [h] at hc
   simp [zero6] at hc
  all_goals exact hop hc.symm
theorem kaddr_block (a : Addr) (n : Nat) : (a.add n).block = a.block := by unfold Addr.add; split <;> rfl
namespace M
theorem kis_op {t : Tm} (h : kis t = true) : t.op ≠ 0 := by
 obtain ⟨op, g, ls, nm, s, ks⟩ := t
 intro e
 replace e : op = 0 := e
 subst e
 simp [kis, khead] at h
end M
theorem tmAt_put {w : World} {k : Nat} {T : TypeId} {x0 x1 x2 x3 x4 x5 : Value} (hb : Box w k zero6 T) (t : M.Tm) : ∀ {a : Addr}, M.kis t = true → TmAt w t a → TmAt (put6 w k x0 x1 x2 x3 x4 x5) t a := by
 refine M.Tm.indA (P := fun t => ∀ {a : Addr}, M.kis t = true → TmAt w t a → TmAt (put6 w k x0 x1 x2 x3 x4 x5) t a) (fun op g ls nm s ks ih a hi h => ?_) t
 obtain ⟨N, nn, nc, v, hc, hn, hk⟩ := tmAt_mk.1 h
 have hop : op ≠ 0 := M.kis_op hi
 have hki : M.kiss ks = true := by
  rw [M.kis, Bool.and_eq_true] at hi
  exact hi.1
 have hbl : a.block ≠ k := zero6_op hb hc.1.1 hop
 have up : ∀ {n : Nat} {u : Value}, w.cell? (a.add n) = some u → (put6 w k x0 x1 x2 x3 x4 x5).cell? (a.add n) = some u := fun h => kept_cellA put6_kept (by rw [kaddr_block]; simpa using hbl) h
 have up0 : ∀ {u : Value}, w.cell? a = some u → (put6 w k x0 x1 x2 x3 x4 x5).cell? a = some u := fun h => kept_cellA put6_kept (by simpa using hbl) h
 refine tmAt_mk.2 ⟨N, nn, nc, v, ⟨⟨up0 hc.1.1, up hc.1.2.1, up hc.1.2.2⟩, up hc.2.1, up hc.2.2.1, up hc.2.2.2⟩, num_put6 hn hb rfl, ?_⟩
 obtain ⟨A, n, c, h1, h2, h3, h4, h5⟩ := hk.at_
 refine Tms.mk_ ⟨A, n, c, h1, h2, h3, h4, fun hne => ?_⟩
 obtain ⟨ad, ha, hl, hall⟩ := h5 hne
 exact ⟨ad, ha, Nat.lt_of_lt_of_le hl (put6_kept (w := w) (k := k)).1.size, fun j u hj => ih j u hj (M.kiss_at hki hj) (hall j u hj)⟩
theorem isTm_put {w : World} {k : Nat} {T : TypeId} {x0 x1 x2 x3 x4 x5 : Value} (hb : Box w k zero6 T) {t : M.Tm} {v : Value} (hi : M.kis t = true) (h : IsTm w t v) : IsTm (put6 w k x0 x1 x2 x3 x4 x5) t v := by
 obtain ⟨N, nn, nc, A, c, e, hn, hk⟩ := h
 refine ⟨N, nn, nc, A, c, e, num_put6 hn hb rfl, ?_⟩
 have hki : M.kiss t.kids = true := by
  obtain ⟨op, g, ls, nm, s, ks⟩ := t
  rw [M.kis, Bool.and_eq_true] at hi
  exact hi.1
 obtain ⟨A', n, c', h1, h2, h3, h4, h5⟩ := hk.at_
 refine Tms.mk_ ⟨A', n, c', h1, h2, h3, h4, fun hne => ?_⟩
 obtain ⟨ad, ha, hl, hall⟩ := h5 hne
 exact ⟨ad, ha, Nat.lt_of_lt_of_le hl (put6_kept (w := w) (k := k)).1.size, fun j u hj => tmAt_put hb u (M.kiss_at hki hj) (hall j u hj)⟩
end Go.Proofs.YtkhmgdfhggejaaaGreatDoor.Q
