/-
  'append(s, x...)' onto a row of the call's own.
-/
import Derived.Test.YtljjijcmoafndaaFace
namespace Go.Proofs.Ytljjijcmoafndaa
set_option linter.unusedSimpArgs false
set_option linter.unusedVariables false
open Go.RowKit

set_option maxRecDepth 100000 in
/-- 'append(s, x...)' onto a row of the call's own. -/
theorem wpList_appN {w : World} {ops : Array Oper} {rest : List Oper} {o : Oper} {a : Act} {Q : Exit → Act → World → Prop} (hgd : o.guard = none) (s x : Operand)
    (ho : o.op = .call { callee := .builtin .append, args := #[s, x], argTypes := #[22, 22] })
    (base : Nat) (v : Value) (l : List Nat) (hs : a.eval s = v) (hown : Own base w v l) (u : Value) (m : List Nat) (hx : a.eval x = u) {C : Nat} (hu : Num w C u m) (hlen : l.length + m.length ≤ 1000000000) (hbase : base ≤ w.heap.size)
    (h : ∀ v' w', Own base w' v' (l ++ m) → w.grownBy w' v.ownBlock → wpList Try.prog ops Q rest (a.put o.dst v') w') : wpList Try.prog ops Q (o :: rest) a w := by
  obtain ⟨i0, hi, hz0, hz1, hz2⟩ := info_parts info_u32
  obtain ⟨A, n, c, rfl, hn, hc, hm, hsm, hr⟩ := hu
  rcases A with _ | ad
  · have hl : m = [] := by
      rcases m with _ | ⟨y, r⟩
      · rfl
      · obtain ⟨ad, e, _⟩ := hr (by simp)
        cases e
    subst hl
    have hn0 : n = 0 := hn
    subst hn0
    have hrun : (Builtin.append_ #[22, 22] o.type #[v, .slice none 0 c]).run Try.prog w = .ok v w := by
      rcases hown.1.2 with ⟨rfl, _⟩ | ⟨g, cap, cur, rfl, _, _, hnc, _⟩
      · simp [Builtin.append_, run_underlying Try.underlying22, sizeOf, typeInfo, hi, Builtin.lenOf, Builtin.firstCells]
      · simp [Builtin.append_, run_underlying Try.underlying22, sizeOf, typeInfo, hi, Builtin.lenOf, Builtin.firstCells, hnc, storeCells]
    refine wpList_plain hgd fun K hK => ?_
    unfold Oper.wp execOp
    simp only [ho, resolve, invoke, builtin, Sem.run_bind, Sem.run_pure, Result.andThen_ok, List.map_toArray, List.map_cons, List.map_nil, hs, hx, hrun]
    exact hK _ _ (h v w (by simpa using hown) (World.grownBy.refl w _))
  · refine wpList_append_own w hgd s x 22 ho base 56 i0 (.int .u32 0) 1 4 Try.underlying22 hi hz0 hz1 hz2 rfl (by decide) v l.length _ hs hown.1 ad n c (m.map fun x : Nat => Value.int .u32 (x : Int)) hx (by simp [hn]) ?_ ?_ (by unfold maxLen; omega) (by omega) hbase ?_
    · intro j u hj
      rw [List.getElem?_map] at hj
      obtain ⟨y, hy, rfl⟩ := Option.map_eq_some_iff.1 hj
      obtain ⟨ad', e, _, hcell⟩ := hr (by rintro rfl; simp at hy)
      injection e with e
      subst e
      exact hcell j y hy
    · intro u hu
      obtain ⟨y, _, rfl⟩ := List.mem_map.1 hu
      rfl
    · intro v' w' h1 h2 _
      refine h v' w' ⟨?_, fun t ht => ?_⟩ h2
      · rw [hn] at h1; simpa using h1
      · rw [List.mem_append] at ht
        rcases ht with ht | ht
        · exact hown.2 t ht
        · exact hsm t ht
theorem Own.one (w : World) (x : Nat) (hx : x < 4294967296) : Own w.heap.size (w.alloc (.cells #[.int .u32 (x : Int)] 56)) (.slice (some ⟨w.heap.size, 0, none⟩) 1 1) [x] :=
  ⟨⟨rfl, .inr ⟨w.heap.size, 1, _, rfl, Nat.le_refl _, heap_alloc_new w _, Nat.le_refl _, by unfold maxLen; omega, rfl, rfl⟩⟩, by simpa using hx⟩

theorem Own.none_ (w : World) : Own w.heap.size (w.alloc (.cells #[] 56)) (.slice (some ⟨w.heap.size, 0, none⟩) 0 0) [] :=
  ⟨⟨rfl, .inr ⟨w.heap.size, 0, _, rfl, Nat.le_refl _, heap_alloc_new w _, Nat.le_refl _, by unfold maxLen; omega, rfl, rfl⟩⟩, by simp⟩
end Go.Proofs.Ytljjijcmoafndaa
