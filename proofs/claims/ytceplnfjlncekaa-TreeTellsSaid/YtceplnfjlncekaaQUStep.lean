/-
  Package tree: what each word does to the reader's state, in memory.
-/
import Derived.Test.YtceplnfjlncekaaQUState
namespace Go.Proofs.Ytceplnfjlncekaa
set_option linter.unusedSimpArgs false
set_option linter.unusedVariables false
open Go.RowKit

theorem grown_kept {w w' : World} {row : Option Nat} (h : w.grownBy w' row) : Kept row.toList w w' :=
 ⟨⟨h.os, h.tape, h.output, h.size, fun k hk => absurd hk (Nat.not_lt_zero _)⟩, fun k hk hn => h.block k hk fun e => hn (by rw [← e]; simp)⟩
theorem Kept.mono {X Y : List Nat} {w w' : World} (h : Kept X w w') (hs : ∀ x ∈ X, x ∈ Y) : Kept Y w w' := ⟨h.1, fun k hk hn => h.2 k hk fun hx => hn (hs k hx)⟩
/-- The same block, or a new one. -/
def SameOrNew (w : World) (v v' : Value) : Prop := v'.ownBlock = v.ownBlock ∨ ∃ b, v'.ownBlock = some b ∧ w.heap.size ≤ b
theorem SameOrNew.refl (w : World) (v : Value) : SameOrNew w v v := .inl rfl
theorem SameOrNew.far {w : World} {v v' : Value} (h : SameOrNew w v v') {k : Nat} (hk : k < w.heap.size) (hv : v.ownBlock ≠ some k) : v'.ownBlock ≠ some k := by
 rcases h with h | ⟨b, h, hb⟩
 ·rw [h]; exact hv
 ·rw [h]; intro e; injection e with e; omega
theorem away_sub {base g : Nat} {rv ov rv' ov' : Value} {X : List Nat} {w wF : World} (hk : Kept X w wF) (hX : ∀ k, away base g rv ov k → k ∉ X) (hr : SameOrNew w rv rv') (ho : SameOrNew w ov ov') : Sub (gp (away base g rv ov) w) (gp (away base g rv' ov') wF) :=
 gp_mono hk.1.size fun k hlt hp => ⟨⟨hp.1, hp.2.1, hr.far hlt hp.2.2.1, ho.far hlt hp.2.2.2⟩, hk.2 k hlt (hX k hp)⟩
theorem kept_row {X : List Nat} {w w' : World} (h : Kept X w w') {base : Nat} {e : TypeId} {size : Nat} {v : Value} {n : Nat} {xs : List Value} (ho : w.ownsRow base e size v n xs) (hX : ∀ b, v.ownBlock = some b → b ∉ X) : w'.ownsRow base e size v n xs := by
 obtain ⟨hl, h3⟩ := ho
 refine ⟨hl, h3.imp id ?_⟩
 rintro ⟨g, cap, cur, rfl, h4, h5, h6⟩
 exact ⟨g, cap, cur, rfl, h4, by rw [h.2 g (Array.getElem?_eq_some_iff.1 h5).1 (hX g rfl)]; exact h5, h6⟩
theorem own_ge {w : World} {base : Nat} {e : TypeId} {size : Nat} {v : Value} {n : Nat} {xs : List Value} (ho : w.ownsRow base e size v n xs) : ∀ x ∈ v.ownBlock.toList, base ≤ x ∧ x < w.heap.size := fun x hx => World.ownsRow.lt ho x (by simpa using hx)
theorem RS.leaf {base g : Nat} {s : M.St} {rv ov v' : Value} {w wF : World} {t : M.Tok} {cs : List Value} (h : RS base w g s rv ov) (hrow : w.ownsRow base 35 4 rv (rowK s).length cs) (hreps : Reps (gp (away base g rv ov) w) (rowK s) cs)
 (hk : Kept (g :: rv.ownBlock.toList) w wF) (hB : Box wF g #[v', ov, .int .i64 (s.n : Int)] 48) (hn : wF.ownsRow base 35 4 v' ((rowK s).length + 1) (cs ++ [.bool false, .int .i64 t.1, str t.2, .slice none 0 0])) (hv : SameOrNew w rv v') :
 RS base wF g ⟨s.cur ++ [.mk false t []], s.up, s.n⟩ v' ov ∧ Below base w wF := by
 have hsub := away_sub (base := base) (rv' := v') (ov' := ov) hk (fun k hp => by simp; exact ⟨hp.2.1, hp.2.2.1⟩) hv (SameOrNew.refl _ _)
 have e : rowK ⟨s.cur ++ [.mk false t []], s.up, s.n⟩ = rowK s ++ [.mk false t []] := by simp [rowK]
 refine ⟨⟨hB, ⟨_, by rw [e, List.length_append]; exact hn, ?_⟩, kept_row hk h.op fun b hb => ?_, h.lo⟩, hk.below h.sz fun x hx => ?_⟩
 ·rw [e]
  exact (hreps.sub hsub).snoc (t := .mk false t []) (Kids.nil _) rfl
 ·have h1 := ownsRow_ne h.op hrow (by decide) b hb
  have h2 := ownsRow_box h.op h.box (by decide)
  simp
  exact ⟨fun e => h2 (by rw [hb, e]), h1⟩
 ·simp at hx
  rcases hx with rfl | hx
  ·exact h.lo
  ·exact (own_ge hrow x (by simpa using hx)).1
theorem RS.left {base g : Nat} {s : M.St} {rv ov v' : Value} {w wF : World} (h : RS base w g s rv ov)
 (hk : Kept (g :: ov.ownBlock.toList) w wF) (hB : Box wF g #[rv, v', .int .i64 (s.n : Int)] 48) (hn : wF.ownsRow base 3 1 v' (s.up.length + 1) (opensV s ++ [.int .i64 ((rowK s).length : Int)])) (hv : SameOrNew w ov v') :
 RS base wF g ⟨[], s.cur :: s.up, s.n⟩ rv v' ∧ Below base w wF := by
 obtain ⟨cs, hrow, hreps⟩ := h.row
 have hsub := away_sub (base := base) (rv' := rv) (ov' := v') hk (fun k hp => by simp; exact ⟨hp.2.1, hp.2.2.2⟩) (SameOrNew.refl _ _) hv
 have e : rowK ⟨[], s.cur :: s.up, s.n⟩ = rowK s := by simp [rowK, M.rowUp]
 have hrow' := kept_row hk hrow fun b hb => by
  have h1 := ownsRow_ne hrow h.op (by decide) b hb
  have h2 := ownsRow_box hrow h.box (by decide)
  simp
  exact ⟨fun e => h2 (by rw [hb, e]), h1⟩
 refine ⟨⟨hB, ⟨cs, by rw [e]; exact hrow', by rw [e]; exact hreps.sub hsub⟩, ?_, h.lo⟩, hk.below h.sz fun x hx => ?_⟩
 ·have e2 : opensV ⟨[], s.cur :: s.up, s.n⟩ = opensV s ++ [.int .i64 ((rowK s).length : Int)] := by
   unfold opensV
   rw [M.opens_snoc, List.map_append]
   rfl
  rw [e2]; exact hn
 ·simp at hx
  rcases hx with rfl | hx
  ·exact h.lo
  ·exact (own_ge h.op x (by simpa using hx)).1
theorem RS.nodes {base g : Nat} {s : M.St} {rv ov : Value} {w : World} (h : RS base w g s rv ov) (n' : Nat) : RS base (w.setCell ⟨g, 2, none⟩ (.int .i64 (n' : Int))) g ⟨s.cur, s.up, n'⟩ rv ov ∧ Below base w (w.setCell ⟨g, 2, none⟩ (.int .i64 (n' : Int))) := by
 obtain ⟨cs, hrow, hreps⟩ := h.row
 have hk : Kept [g] w (w.setCell ⟨g, 2, none⟩ (.int .i64 (n' : Int))) := kept_setAt _
 refine ⟨⟨h.box.setAt 2 _, ⟨cs, kept_row hk hrow fun b hb => ?_, hreps.sub (away_sub (base := base) hk (fun k hp => by simp; exact hp.2.1) (SameOrNew.refl _ _) (SameOrNew.refl _ _))⟩, kept_row hk h.op fun b hb => ?_, h.lo⟩, hk.below h.sz fun x hx => ?_⟩
 ·have h2 := ownsRow_box hrow h.box (by decide)
  simp
  exact fun e => h2 (by rw [hb, e])
 ·have h2 := ownsRow_box h.op h.box (by decide)
  simp
  exact fun e => h2 (by rw [hb, e])
 ·simp at hx; subst hx; exact h.lo
theorem RS.shut {base g : Nat} {s : M.St} {rv ov v' : Value} {w w2 w5 : World} {u : List M.T} {r : List (List M.T)} {A' B : Option Addr} {c' oc : Nat} {cs : List Value} (h : RS base w g s rv ov) (hup : s.up = u :: r)
 (hrow : w.ownsRow base 35 4 rv (rowK s).length cs) (hreps : Reps (gp (away base g rv ov) w) (rowK s) cs) (e2 : Ext w w2)
 (hl : w2.ownsRow (w.heap.size + 1) 35 4 (.slice A' s.cur.length c') s.cur.length (cs.drop ((M.rowUp (u :: r)).length * 4))) (k25 : Kept (g :: rv.ownBlock.toList) w2 w5)
 (hov : ov = .slice B (r.length + 1) oc) (hB : Box w5 g #[rv, .slice B r.length oc, .int .i64 (s.n : Int)] 48)
 (hn : w5.ownsRow base 35 4 v' ((M.rowUp (u :: r)).length + 1) (cs.take ((M.rowUp (u :: r)).length * 4) ++ [.bool true, .int .i64 0, .string ⟨#[]⟩, .slice A' s.cur.length c'])) (hv : SameOrNew w2 rv v') :
 RS base (w5.setCell ⟨g, 0, none⟩ v') g ⟨u ++ [.mk true (0, []) s.cur], r, s.n⟩ v' (.slice B r.length oc) ∧ Below base w (w5.setCell ⟨g, 0, none⟩ v') := by
 have hlt := own_ge hrow
 have hk6 : Kept (g :: rv.ownBlock.toList) w2 (w5.setCell ⟨g, 0, none⟩ v') := k25.trans ((kept_setAt _).mono (by simp))
 have hk : Kept (g :: rv.ownBlock.toList) w (w5.setCell ⟨g, 0, none⟩ v') := (e2.kept _).trans hk6
 have hv0 : SameOrNew w rv v' := hv.imp id fun ⟨b, h1, h2⟩ => ⟨b, h1, Nat.le_trans e2.size h2⟩
 have ho : SameOrNew w ov (.slice B r.length oc) := .inl (by rw [hov]; cases B <;> rfl)
 have hsub := away_sub (base := base) (rv' := v') (ov' := .slice B r.length oc) hk (fun k hp => by simp; exact ⟨hp.2.1, hp.2.2.1⟩) hv0 ho
 have hrk : rowK s = M.rowUp (u :: r) ++ s.cur := by unfold rowK; rw [hup]
 have e : rowK ⟨u ++ [.mk true (0, []) s.cur], r, s.n⟩ = M.rowUp (u :: r) ++ [.mk true (0, []) s.cur] := by simp [rowK, M.rowUp]
 rw [hrk] at hreps
 obtain ⟨r1, r2⟩ := (hreps.sub hsub).app
 have hbx := h.box.lt
 have hl6 := kept_row hk6 hl fun b hb => by
  have h1 := (World.ownsRow.lt hl b hb).1
  simp
  refine ⟨by omega, fun e => ?_⟩
  have := hlt b (by simp [e])
  omega
 have hkids : Kids (gp (away base g v' (.slice B r.length oc)) (w5.setCell ⟨g, 0, none⟩ v')) s.cur (.slice A' s.cur.length c') := owns_kids hl6 r2 fun b hb => by
  have h1 := World.ownsRow.lt hl b hb
  have h3 := h.sz
  have h4 := e2.size
  refine ⟨by omega, by omega, hv.far h1.2 fun e => ?_, fun e => ?_⟩
  ·have := hlt b (by simp [e]); omega
  ·have h5 : ov.ownBlock = some b := by rw [hov]; cases B <;> exact e
   have := (World.ownsRow.lt h.op b h5).2
   omega
 have hnb := ownsRow_box hn hB (by decide)
 refine ⟨⟨hB.setAt 0 _, ⟨_, by rw [e, List.length_append]; exact kept_row (X := [g]) (kept_setAt _) hn fun b hb => (by simp; exact fun e => hnb (by rw [hb, e])), ?_⟩, ?_, h.lo⟩, hk.below h.sz fun x hx => ?_⟩
 ·rw [e]
  exact r1.snoc (t := .mk true (0, []) s.cur) hkids rfl
 ·have h1 := h.op
  rw [hov, hup] at h1
  have h2 := ownsRow_prefix h1 (k := r.length) (by simp)
  have e3 : (opensV s).take (r.length * 1) = opensV ⟨u ++ [.mk true (0, []) s.cur], r, s.n⟩ := by
   unfold opensV
   rw [hup, M.opens_snoc, ← List.map_take, Nat.mul_one, List.take_left' (M.opens_len r)]
  rw [e3] at h2
  refine kept_row hk h2 fun b hb => ?_
  have hb' : ov.ownBlock = some b := by rw [hov]; cases B <;> exact hb
  have h3 := ownsRow_ne h.op hrow (by decide) b hb'
  have h4 := ownsRow_box h.op h.box (by decide)
  simp
  exact ⟨fun e => h4 (by rw [hb', e]), h3⟩
 ·simp at hx
  rcases hx with rfl | hx
  ·exact h.lo
  ·exact (hlt x (by simpa using hx)).1
end Go.Proofs.Ytceplnfjlncekaa
