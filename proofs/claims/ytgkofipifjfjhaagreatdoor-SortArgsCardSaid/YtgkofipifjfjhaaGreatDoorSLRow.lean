/-
  Layer 11's laws: rows of trees and Sigs, of the call's own.
-/
import Derived.Test.YtgkofipifjfjhaaGreatDoorJSF
namespace Go.Proofs.YtgkofipifjfjhaaGreatDoor.Q
set_option linter.unusedSimpArgs false
set_option linter.unusedVariables false
open Go.RowKit

theorem Reps.put {w : World} : ∀ {a b : List M.T} {x y : List Value}, Reps w a x → Reps w b y → Reps w (a ++ b) (x ++ y)
  | [], b, x, y, h, h' => by obtain rfl : x = [] := h; simpa using h'
  | t :: r, b, x, y, h, h' => by
    obtain ⟨v, cs, rfl, h1, h2⟩ := h
    exact ⟨v, cs ++ y, rfl, h1, Reps.put h2 h'⟩
theorem Reps.cellOne {w : World} : ∀ {ks : List M.T} {cs : List Value}, Reps w ks cs → ∀ u ∈ cs, u.oneCell' = true
  | [], cs, h, u, hu => by obtain rfl : cs = [] := h; cases hu
  | t :: r, cs, h, u, hu => by
    obtain ⟨v, cs', rfl, h1, h2⟩ := h
    simp only [List.mem_cons] at hu
    rcases hu with rfl | rfl | rfl | rfl | hu
    · rfl
    · rfl
    · rfl
    · exact h1.2
    · exact Reps.cellOne h2 u hu
theorem Reps.size {w : World} : ∀ {ks : List M.T} {cs : List Value}, Reps w ks cs → cs.length = ks.length * 4
  | [], cs, h => by obtain rfl : cs = [] := h; rfl
  | t :: r, cs, h => by
    obtain ⟨v, cs', rfl, h1, h2⟩ := h
    simp [Reps.size h2]; omega
theorem intsNil (w : World) : Ints w [] (.slice none 0 0) := ⟨none, 0, 0, rfl, rfl, Nat.le_refl _, Nat.zero_le _, fun h => absurd rfl h⟩
/-- A row of one Sig. -/
theorem sgs_one {w : World} {g : Nat} {s : M.Sg} {A : Option Addr} {n c : Nat} {T : TypeId} (hb : Box w g #[str s.name, .slice A n c, .int .i64 s.ret] T) (hi : Ints w s.args (.slice A n c)) : Sgs w [s] (.slice (some ⟨g, 0, none⟩) 1 1) := by
  refine ⟨_, 1, 1, rfl, rfl, Nat.le_refl _, by unfold maxLen; omega, fun _ => ⟨_, rfl, hb.lt, fun k t hk => ?_⟩⟩
  cases k with
  | zero =>
    simp at hk; subst hk
    refine ⟨A, n, c, ⟨?_, ?_, ?_⟩, hi⟩
    · rw [Addr.add_lit]; exact hb.cell rfl
    · rw [Addr.add_lit, Addr.add_lit]; exact hb.cell rfl
    · rw [Addr.add_lit, Addr.add_lit]; exact hb.cell rfl
  | succ k => simp at hk
/-- Trees behind trees of the call's own. -/
theorem appKM_run {B : Nat} {V w : World} {v : Value} {ks ms : List M.T} {cs : Array Value} {m gL : Nat} {tL : TypeId} (h : OwnKV B V w v ks) (hL : Box w gL cs tL) (hr : Reps V ms cs.toList) (hm : m = ms.length)
    (hlen : ks.length + ms.length ≤ 1000000) (hbase : B ≤ w.heap.size) (ty : TypeId) :
    ∃ v' w', (Builtin.append_ #[24, 24] ty #[v, .slice (some ⟨gL, 0, none⟩) m m]).run Tryz.prog w = .ok v' w' ∧ OwnKV B V w' v' (ks ++ ms) ∧ Below B w w' ∧ Kept v.ownBlock.toList w w' := by
  obtain ⟨i0, hi, hz0, hz1, hz2⟩ := info_parts info_Tree
  obtain ⟨cs0, ho, hr0⟩ := h
  subst hm
  obtain ⟨v', w', hrun, ho', hg, _, hv'⟩ := run_append_own_at (P := Tryz.prog) w B 24 ty 26 i0 _ 4 56 Tryz.underlying24 hi hz0 hz1 hz2 rfl (by decide) v ks.length cs0 ho ⟨gL, 0, none⟩ ms.length ms.length
    cs.toList hr.size (by
      intro j u hj
      rw [Addr.add_lit, Nat.zero_add]
      exact hL.cell (by simpa using hj)) hr.cellOne (by unfold maxLen; omega) (by omega) hbase
  exact ⟨v', w', hrun, ⟨_, by rw [List.length_append]; exact ho', hr0.put hr⟩, (Below.refl _ _).grown hg hbase fun k hk => (World.ownsRow.lt ho k hk).1, sgrown hg⟩
theorem wpList_appKM {B : Nat} {V w : World} {ops : Array Oper} {rest : List Oper} {o : Oper} {a : Act} {Q : Exit → Act → World → Prop} (hgd : o.guard = none) (s x : Operand)
    (ho : o.op = .call { callee := .builtin .append, args := #[s, x], argTypes := #[24, 24] }) {v : Value} {ks ms : List M.T} {cs : Array Value} {m gL : Nat} {tL : TypeId}
    (hs : a.eval s = v) (hx : a.eval x = .slice (some ⟨gL, 0, none⟩) m m) (h : OwnKV B V w v ks) (hL : Box w gL cs tL) (hr : Reps V ms cs.toList) (hm : m = ms.length) (hlen : ks.length + ms.length ≤ 1000000) (hbase : B ≤ w.heap.size)
    (hq : ∀ v' w', OwnKV B V w' v' (ks ++ ms) → Below B w w' → Kept v.ownBlock.toList w w' → wpList Tryz.prog ops Q rest (a.put o.dst v') w') : wpList Tryz.prog ops Q (o :: rest) a w := by
  obtain ⟨v', w', hr, h2, h3, h4⟩ := appKM_run h hL hr hm hlen hbase o.type
  refine wpList_plain hgd fun K hK => ?_
  unfold Oper.wp execOp
  simp only [ho, resolve, invoke, builtin, Sem.run_bind, Sem.run_pure, Result.andThen_ok, List.map_toArray, List.map_cons, List.map_nil, hs, hx, hr]
  exact hK _ _ (hq v' w' h2 h3 h4)
/-- A row literal of one tree, of the call's own. -/
theorem OwnKV.lit {B : Nat} {V w : World} {t : M.T} {kd : Value} (hk : Kids V t.kids kd) (h1 : kd.oneCell' = true) (hb : B ≤ w.heap.size) : OwnKV B V (w.alloc (.cells #[.bool t.list, .int .i64 t.tok.1, str t.tok.2, kd] 26)) (.slice (some ⟨w.heap.size, 0, none⟩) 1 1) [t] :=
  ⟨[.bool t.list, .int .i64 t.tok.1, str t.tok.2, kd], World.ownsRow_lit w #[.bool t.list, .int .i64 t.tok.1, str t.tok.2, kd] 1 hb (by unfold maxLen; omega) rfl, Reps.cons hk h1 (Reps.nil _)⟩
/-- Where the call of Term owes its term. -/
theorem term_givesS {t : M.T} {l : List M.Sg} {r : M.Tm × Int} (hr : M.rTerm M.barred l t = r) (htx : M.txtN t = true) {v : Value} {SA : Option Addr} {sn sc : Nat} {w : World} (h : IsT w t v) (hs : Sgs w l (.slice SA sn sc)) (hnm : ∀ s ∈ l, s.name.length ≤ 1000000000000) (ht : TabS w) : Calls Tryz.prog 17 #[v, .slice SA sn sc] w (GivesTmN w r) := hr ▸ Term_t t h htx hs hnm ht
end Go.Proofs.YtgkofipifjfjhaaGreatDoor.Q
