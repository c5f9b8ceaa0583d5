/-
  The walks of Held and HeldX: stores of structs of three and four cells.
-/
import Derived.Test.YtklmnmkmpkobhaaGreatHeldX
namespace Go.Proofs.YtklmnmkmpkobhaaGreat
set_option linter.unusedSimpArgs false
set_option linter.unusedVariables false
open Go.RowKit

theorem Box.set3 {w : World} {g : Nat} {x0 x1 x2 : Value} {t : TypeId} (h : Box w g #[x0, x1, x2] t) (x y z : Value) : Box (((w.setCell ⟨g, 0, none⟩ x).setCell ⟨g, 1, none⟩ y).setCell ⟨g, 2, none⟩ z) g #[x, y, z] t := by
 unfold Box at *
 simp [World.setCell, Array.getElem?_modify, h]
theorem Box.set4 {w : World} {g : Nat} {x0 x1 x2 x3 : Value} {t : TypeId} (h : Box w g #[x0, x1, x2, x3] t) (x y z q : Value) : Box ((((w.setCell ⟨g, 0, none⟩ x).setCell ⟨g, 1, none⟩ y).setCell ⟨g, 2, none⟩ z).setCell ⟨g, 3, none⟩ q) g #[x, y, z, q] t := by
 unfold Box at *
 simp [World.setCell, Array.getElem?_modify, h]
theorem Box.c2 {w : World} {g : Nat} {x y : Value} {t : TypeId} (h : Box w g #[x, y] t) : w.cell? ⟨g, 0, none⟩ = some x ∧ w.cell? ⟨g, 1, none⟩ = some y := ⟨h.cell (o := 0) rfl, h.cell (o := 1) rfl⟩
theorem Box.c3 {w : World} {g : Nat} {x y z : Value} {t : TypeId} (h : Box w g #[x, y, z] t) : w.cell? ⟨g, 0, none⟩ = some x ∧ w.cell? ⟨g, 1, none⟩ = some y ∧ w.cell? ⟨g, 2, none⟩ = some z := ⟨h.cell (o := 0) rfl, h.cell (o := 1) rfl, h.cell (o := 2) rfl⟩
theorem Box.c4 {w : World} {g : Nat} {x y z q : Value} {t : TypeId} (h : Box w g #[x, y, z, q] t) : w.cell? ⟨g, 0, none⟩ = some x ∧ w.cell? ⟨g, 1, none⟩ = some y ∧ w.cell? ⟨g, 2, none⟩ = some z ∧ w.cell? ⟨g, 3, none⟩ = some q := ⟨h.cell (o := 0) rfl, h.cell (o := 1) rfl, h.cell (o := 2) rfl, h.cell (o := 3) rfl⟩
theorem Box.f2 {w : World} {g : Nat} {cs : Array Value} {t : TypeId} (h : Box w g cs t) : w.frozen? ⟨g, 0, none⟩ = false ∧ w.frozen? ⟨g, 1, none⟩ = false := ⟨h.free 0, h.free 1⟩
theorem Box.f3 {w : World} {g : Nat} {cs : Array Value} {t : TypeId} (h : Box w g cs t) : w.frozen? ⟨g, 0, none⟩ = false ∧ w.frozen? ⟨g, 1, none⟩ = false ∧ w.frozen? ⟨g, 2, none⟩ = false := ⟨h.free 0, h.free 1, h.free 2⟩
theorem Box.f4 {w : World} {g : Nat} {cs : Array Value} {t : TypeId} (h : Box w g cs t) : w.frozen? ⟨g, 0, none⟩ = false ∧ w.frozen? ⟨g, 1, none⟩ = false ∧ w.frozen? ⟨g, 2, none⟩ = false ∧ w.frozen? ⟨g, 3, none⟩ = false := ⟨h.free 0, h.free 1, h.free 2, h.free 3⟩
theorem kept_set3 {w : World} {g : Nat} (x y z : Value) : Kept [g] w (((w.setCell ⟨g, 0, none⟩ x).setCell ⟨g, 1, none⟩ y).setCell ⟨g, 2, none⟩ z) := (kept_set x y).trans (kept_setAt z)
theorem kept_set4 {w : World} {g : Nat} (x y z q : Value) : Kept [g] w ((((w.setCell ⟨g, 0, none⟩ x).setCell ⟨g, 1, none⟩ y).setCell ⟨g, 2, none⟩ z).setCell ⟨g, 3, none⟩ q) := (kept_set3 x y z).trans (kept_setAt q)

section
variable {P : Program} {ops : Array Oper} {Q : Exit → Act → World → Prop} {X : List Nat} {A : Nat → TypeId × Array Value} {B : Nat} {G : List Nat} {i : Nat} {r : List (Nat × Nat)} {a : Act} {w : World} {o : Oper} {d : Option Tmp}
theorem WE.store3 {g : Nat} {x0 x1 x2 x y z : Value} {t : TypeId} (ho : ops[i]? = some o) (hd : o.dst = none) (hw : Region.wanted o (yielded ops a.tmps) = true)
 (he : ∀ w, Box w g #[x0, x1, x2] t → (execOp a.eval o).run P w = .ok .skip (((w.setCell ⟨g, 0, none⟩ x).setCell ⟨g, 1, none⟩ y).setCell ⟨g, 2, none⟩ z)) (hb : Box w g #[x0, x1, x2] t) (hno : noLimb #[x0, x1, x2] = true)
 (h : ∀ w', Kept [g] w w' → Keeps w w' → Box w' g #[x, y, z] t → WE P ops Q A B r G a w') : WE P ops Q A B ((i, 4) :: r) G a w := by
 have hk := kept_set3 (w := w) (g := g) x y z
 exact WE.store ho hd hw (he w hb) hk.1.size (h _ hk (keeps_store hb hno hk) (hb.set3 x y z))
theorem WE.store4 {g : Nat} {x0 x1 x2 x3 x y z q : Value} {t : TypeId} (ho : ops[i]? = some o) (hd : o.dst = none) (hw : Region.wanted o (yielded ops a.tmps) = true)
 (he : ∀ w, Box w g #[x0, x1, x2, x3] t → (execOp a.eval o).run P w = .ok .skip ((((w.setCell ⟨g, 0, none⟩ x).setCell ⟨g, 1, none⟩ y).setCell ⟨g, 2, none⟩ z).setCell ⟨g, 3, none⟩ q)) (hb : Box w g #[x0, x1, x2, x3] t) (hno : noLimb #[x0, x1, x2, x3] = true)
 (h : ∀ w', Kept [g] w w' → Keeps w w' → Box w' g #[x, y, z, q] t → WE P ops Q A B r G a w') : WE P ops Q A B ((i, 4) :: r) G a w := by
 have hk := kept_set4 (w := w) (g := g) x y z q
 exact WE.store ho hd hw (he w hb) hk.1.size (h _ hk (keeps_store hb hno hk) (hb.set4 x y z q))
theorem WX.store3 {g : Nat} {x0 x1 x2 x y z : Value} {t : TypeId} (ho : ops[i]? = some o) (hd : o.dst = none) (hw : Region.wanted o (yielded ops a.tmps) = true)
 (he : ∀ w, Box w g #[x0, x1, x2] t → (execOp a.eval o).run P w = .ok .skip (((w.setCell ⟨g, 0, none⟩ x).setCell ⟨g, 1, none⟩ y).setCell ⟨g, 2, none⟩ z)) (hb : Box w g #[x0, x1, x2] t) (hno : noLimb #[x0, x1, x2] = true)
 (hX : g ∈ X ∨ B ≤ g) (h : ∀ w', Kept [g] w w' → Keeps w w' → Box w' g #[x, y, z] t → WX P ops Q X A B r G a w') : WX P ops Q X A B ((i, 4) :: r) G a w := by
 have hk := kept_set3 (w := w) (g := g) x y z
 exact WX.store ho hd hw (he w hb) (hk.keptB hX) (h _ hk (keeps_store hb hno hk) (hb.set3 x y z))
theorem WX.store4 {g : Nat} {x0 x1 x2 x3 x y z q : Value} {t : TypeId} (ho : ops[i]? = some o) (hd : o.dst = none) (hw : Region.wanted o (yielded ops a.tmps) = true)
 (he : ∀ w, Box w g #[x0, x1, x2, x3] t → (execOp a.eval o).run P w = .ok .skip ((((w.setCell ⟨g, 0, none⟩ x).setCell ⟨g, 1, none⟩ y).setCell ⟨g, 2, none⟩ z).setCell ⟨g, 3, none⟩ q)) (hb : Box w g #[x0, x1, x2, x3] t) (hno : noLimb #[x0, x1, x2, x3] = true)
 (hX : g ∈ X ∨ B ≤ g) (h : ∀ w', Kept [g] w w' → Keeps w w' → Box w' g #[x, y, z, q] t → WX P ops Q X A B r G a w') : WX P ops Q X A B ((i, 4) :: r) G a w := by
 have hk := kept_set4 (w := w) (g := g) x y z q
 exact WX.store ho hd hw (he w hb) (hk.keptB hX) (h _ hk (keeps_store hb hno hk) (hb.set4 x y z q))
end
/- The steps' short words; a guard is read behind the slots' row. -/
section
variable {P : Program} {ops : Array Oper} {Q : Exit → Act → World → Prop} {A : Nat → TypeId × Array Value} {B : Nat} {G : List Nat} {i : Nat} {r : List (Nat × Nat)} {a : Act} {w : World} {o : Oper} {d : Option Tmp}
theorem wanted_none {o : Oper} {y : Nat → Option Bool} (h : o.guard = none) : Region.wanted o y = true := by unfold Region.wanted; rw [h]
theorem WE.pp (n : Nat) (v : Value) (h : WE P ops Q A B r G (a.put (some n) v) w) (ho : ops[i]? = some o := by exact rfl) (hd : o.dst = some n := by exact rfl) (hw : Region.wanted o (yielded ops a.tmps) = true := by first | exact wanted_none rfl | (simp only [Act.put, pA, pB, pC]; rfl) | rfl)
 (hy : ∀ w', Ext w w' → (execOp a.eval o).run P w' = .ok (.value v) w' := by intro w' hk; go_simp) : WE P ops Q A B ((i, 0) :: r) G a w := WE.pure ho hd hw hy h
theorem WE.qq (n : Nat) (v : Value) {o : Oper} (ho : ops[i]? = some o) (hy : ∀ w', Ext w w' → (execOp a.eval o).run P w' = .ok (.value v) w') (h : WE P ops Q A B r G (a.put (some n) v) w) (hd : o.dst = some n := by exact rfl) (hw : Region.wanted o (yielded ops a.tmps) = true := by first | exact wanted_none rfl | (simp only [Act.put, pA, pB, pC]; rfl) | rfl) :
 WE P ops Q A B ((i, 0) :: r) G a w := WE.pure ho hd hw hy h
theorem WE.ss (n : Nat) (h : WE P ops Q A B r G (a.put (some n) undef) w) (ho : ops[i]? = some o := by exact rfl) (hd : o.dst = some n := by exact rfl) (hw : Region.wanted o (yielded ops a.tmps) = false := by first | (simp only [Act.put, pA, pB, pC]; rfl) | rfl) :
 WE P ops Q A B ((i, 0) :: r) G a w := WE.skip ho hd hw h
theorem WE.tt (n : Nat) (h : WE P ops Q A B r G (a.put (some n) undef) w) (ho : ops[i]? = some o := by exact rfl) (hd : o.dst = some n := by exact rfl) (hw : Region.wanted o (yielded ops a.tmps) = false := by first | (simp only [Act.put, pA, pB, pC]; rfl) | rfl) :
 WE P ops Q A B ((i, 1) :: r) G a w := WE.pass ho hd hw h
theorem WE.yy (n : Nat) (v : Value) (h : WE P ops Q A B r G (a.put (some n) v) w) (ho : ops[i]? = some o := by exact rfl) (hd : o.dst = some n := by exact rfl) (hw : Region.wanted o (yielded ops a.tmps) = true := by first | exact wanted_none rfl | (simp only [Act.put, pA, pB, pC]; rfl) | rfl)
 (hy : ∀ w', (execOp a.eval o).run P w' = .ok (.value v) w' := by intro w'; go_simp) : WE P ops Q A B ((i, 5) :: r) G a w := WE.any ho hd hw hy h
theorem WE.cc (n : Nat) {f : FuncId} {args : Array Value} (hc : Calls P f args w fun e w' => ∃ v, e = .returned v ∧ Ext w w' ∧ WE P ops Q A B r G (a.put (some n) v) w') (ho : ops[i]? = some o := by exact rfl) (hd : o.dst = some n := by exact rfl)
 (hw : Region.wanted o (yielded ops a.tmps) = true := by first | exact wanted_none rfl | (simp only [Act.put, pA, pB, pC]; rfl) | rfl) (he : (execOp a.eval o).run P w = .ok (.enter f args) w := by go_simp) : WE P ops Q A B ((i, 1) :: r) G a w := WE.call ho hd hw he hc
end
section
variable {P : Program} {ops : Array Oper} {Q : Exit → Act → World → Prop} {X : List Nat} {A : Nat → TypeId × Array Value} {B : Nat} {G : List Nat} {i : Nat} {r : List (Nat × Nat)} {a : Act} {w : World} {o : Oper} {d : Option Tmp}
theorem WX.pp (n : Nat) (v : Value) (h : WX P ops Q X A B r G (a.put (some n) v) w) (ho : ops[i]? = some o := by exact rfl) (hd : o.dst = some n := by exact rfl) (hw : Region.wanted o (yielded ops a.tmps) = true := by first | exact wanted_none rfl | (simp only [Act.put, pA, pB, pC]; rfl) | rfl)
 (hy : ∀ w', Ext w w' → (execOp a.eval o).run P w' = .ok (.value v) w' := by intro w' hk; go_simp) : WX P ops Q X A B ((i, 0) :: r) G a w := WX.pure ho hd hw hy h
theorem WX.qq (n : Nat) (v : Value) {o : Oper} (ho : ops[i]? = some o) (hy : ∀ w', Ext w w' → (execOp a.eval o).run P w' = .ok (.value v) w') (h : WX P ops Q X A B r G (a.put (some n) v) w) (hd : o.dst = some n := by exact rfl) (hw : Region.wanted o (yielded ops a.tmps) = true := by first | exact wanted_none rfl | (simp only [Act.put, pA, pB, pC]; rfl) | rfl) :
 WX P ops Q X A B ((i, 0) :: r) G a w := WX.pure ho hd hw hy h
theorem WX.ss (n : Nat) (h : WX P ops Q X A B r G (a.put (some n) undef) w) (ho : ops[i]? = some o := by exact rfl) (hd : o.dst = some n := by exact rfl) (hw : Region.wanted o (yielded ops a.tmps) = false := by first | (simp only [Act.put, pA, pB, pC]; rfl) | rfl) :
 WX P ops Q X A B ((i, 0) :: r) G a w := WX.skip ho hd hw h
theorem WX.tt (n : Nat) (h : WX P ops Q X A B r G (a.put (some n) undef) w) (ho : ops[i]? = some o := by exact rfl) (hd : o.dst = some n := by exact rfl) (hw : Region.wanted o (yielded ops a.tmps) = false := by first | (simp only [Act.put, pA, pB, pC]; rfl) | rfl) :
 WX P ops Q X A B ((i, 1) :: r) G a w := WX.pass ho hd hw h
theorem WX.yy (n : Nat) (v : Value) (h : WX P ops Q X A B r G (a.put (some n) v) w) (ho : ops[i]? = some o := by exact rfl) (hd : o.dst = some n := by exact rfl) (hw : Region.wanted o (yielded ops a.tmps) = true := by first | exact wanted_none rfl | (simp only [Act.put, pA, pB, pC]; rfl) | rfl)
 (hy : ∀ w', KeptB B X w w' → (execOp a.eval o).run P w' = .ok (.value v) w' := by intro w' hk; go_simp) : WX P ops Q X A B ((i, 5) :: r) G a w := WX.any ho hd hw hy h
theorem WX.cc (n : Nat) {f : FuncId} {args : Array Value} (hc : Calls P f args w fun e w' => ∃ v, e = .returned v ∧ Ext w w' ∧ WX P ops Q X A B r G (a.put (some n) v) w') (ho : ops[i]? = some o := by exact rfl) (hd : o.dst = some n := by exact rfl)
 (hw : Region.wanted o (yielded ops a.tmps) = true := by first | exact wanted_none rfl | (simp only [Act.put, pA, pB, pC]; rfl) | rfl) (he : (execOp a.eval o).run P w = .ok (.enter f args) w := by go_simp) : WX P ops Q X A B ((i, 1) :: r) G a w := WX.call ho hd hw he hc
end
end Go.Proofs.YtklmnmkmpkobhaaGreat
