/-
  Layer 9, mathematics: trees read from words.
-/
import Derived.Test.YtceplnfjlncekaaQTMath
namespace Go.Proofs.Ytceplnfjlncekaa
set_option linter.unusedSimpArgs false
set_option linter.unusedVariables false
namespace M
def T0 : T := .mk false (0, []) []
/-- What reading gives: the tree, where, how many nodes, what is wrong. -/
structure R where
  t : T
  at_ : Nat
  n : Nat
  e : Int
mutual
/-- The tree at a place, within so many lists, behind so many nodes. -/
def rdT : Nat → List Tok → Nat → Nat → Nat → R
  | 0, _, _, at_, n => ⟨T0, at_, n, 13⟩
  | f + 1, L, d, at_, n => match L[at_]? with
    | none => ⟨T0, at_, n, 13⟩
    | some t => if t.1 < 1 ∨ 5 < t.1 ∨ t.1 = 2 then ⟨T0, at_, n, 10⟩ else if t.1 = 1 ∧ 60 ≤ d then ⟨T0, at_, n, 15⟩ else if 400 ≤ n then ⟨T0, at_, n, 11⟩
      else if t.1 = 1 then rdK f L d (at_ + 1) (n + 1) [] else ⟨.mk false t [], at_ + 1, n + 1, 0⟩
/-- A list's kids from a place on, up to its end. -/
def rdK : Nat → List Tok → Nat → Nat → Nat → List T → R
  | 0, _, _, at_, n, _ => ⟨T0, at_, n, 13⟩
  | f + 1, L, d, at_, n, ks => if L[at_]?.map (·.1) = some 2 then ⟨.mk true (0, []) ks, at_ + 1, n, 0⟩
    else if (rdT f L (d + 1) at_ n).e ≠ 0 then ⟨T0, (rdT f L (d + 1) at_ n).at_, (rdT f L (d + 1) at_ n).n, (rdT f L (d + 1) at_ n).e⟩
    else rdK f L d (rdT f L (d + 1) at_ n).at_ (rdT f L (d + 1) at_ n).n (ks ++ [(rdT f L (d + 1) at_ n).t])
end
/-- Where reading ends, and behind how many nodes. -/
theorem rd_bounds : ∀ (f : Nat), (∀ L d at_ n, at_ ≤ L.length → n ≤ 400 → at_ ≤ (rdT f L d at_ n).at_ ∧ (rdT f L d at_ n).at_ ≤ L.length ∧ n ≤ (rdT f L d at_ n).n ∧ (rdT f L d at_ n).n ≤ 400 ∧ ((rdT f L d at_ n).e = 0 → at_ < (rdT f L d at_ n).at_)
      ∧ ((rdT f L d at_ n).e = 0 ∨ (rdT f L d at_ n).e = 10 ∨ (rdT f L d at_ n).e = 11 ∨ (rdT f L d at_ n).e = 13 ∨ (rdT f L d at_ n).e = 15)) ∧
    (∀ L d at_ n ks, at_ ≤ L.length → n ≤ 400 → at_ ≤ (rdK f L d at_ n ks).at_ ∧ (rdK f L d at_ n ks).at_ ≤ L.length ∧ n ≤ (rdK f L d at_ n ks).n ∧ (rdK f L d at_ n ks).n ≤ 400 ∧ ((rdK f L d at_ n ks).e = 0 → at_ < (rdK f L d at_ n ks).at_)
      ∧ ((rdK f L d at_ n ks).e = 0 ∨ (rdK f L d at_ n ks).e = 10 ∨ (rdK f L d at_ n ks).e = 11 ∨ (rdK f L d at_ n ks).e = 13 ∨ (rdK f L d at_ n ks).e = 15)) := by
  intro f
  induction f with
  | zero =>
    refine ⟨fun L d at_ n h1 h2 => ?_, fun L d at_ n ks h1 h2 => ?_⟩
    · rw [rdT]; exact ⟨Nat.le_refl _, h1, Nat.le_refl _, h2, fun h => by simp at h, by simp⟩
    · rw [rdK]; exact ⟨Nat.le_refl _, h1, Nat.le_refl _, h2, fun h => by simp at h, by simp⟩
  | succ f ih =>
    refine ⟨fun L d at_ n h1 h2 => ?_, fun L d at_ n ks h1 h2 => ?_⟩
    · rw [rdT]
      rcases hL : L[at_]? with _ | t
      · exact ⟨Nat.le_refl _, h1, Nat.le_refl _, h2, fun h => by simp at h, by simp⟩
      · have hlt := (List.getElem?_eq_some_iff.1 hL).1
        simp only
        split
        · exact ⟨Nat.le_refl _, h1, Nat.le_refl _, h2, fun h => by simp at h, by simp⟩
        · split
          · exact ⟨Nat.le_refl _, h1, Nat.le_refl _, h2, fun h => by simp at h, by simp⟩
          · split
            · exact ⟨Nat.le_refl _, h1, Nat.le_refl _, h2, fun h => by simp at h, by simp⟩
            · split
              · obtain ⟨a, b, c, e, g, k⟩ := ih.2 L d (at_ + 1) (n + 1) [] (by omega) (by omega)
                exact ⟨by omega, b, by omega, e, fun h => by omega, k⟩
              · exact ⟨by simp, by simp; omega, by simp, by simp; omega, fun _ => by simp, by simp⟩
    · rw [rdK]
      split
      · rename_i hk
        have hlt : at_ < L.length := by
          rcases hL : L[at_]? with _ | t
          · rw [hL] at hk; simp at hk
          · exact (List.getElem?_eq_some_iff.1 hL).1
        exact ⟨by simp, by simp; omega, by simp, h2, fun _ => by simp, by simp⟩
      · obtain ⟨a, b, c, e, g, k⟩ := ih.1 L (d + 1) at_ n h1 h2
        split
        · rename_i he
          exact ⟨a, b, c, e, fun h => absurd h he, k⟩
        · rename_i he
          obtain ⟨a', b', c', e', g', k'⟩ := ih.2 L d (rdT f L (d + 1) at_ n).at_ (rdT f L (d + 1) at_ n).n (ks ++ [(rdT f L (d + 1) at_ n).t]) b e
          exact ⟨by omega, b', by omega, e', fun h => by have := g' h; omega, k'⟩
/-- The trees one behind the other. -/
def rdA : Nat → List Tok → Nat → List T → List T × Nat × Int
  | 0, _, at_, ts => (ts, at_, 0)
  | f + 1, L, at_, ts => if L.length ≤ at_ then (ts, at_, 0)
    else if (rdT (2 * L.length + 1) L 0 at_ 0).e ≠ 0 then ([], (rdT (2 * L.length + 1) L 0 at_ 0).at_, (rdT (2 * L.length + 1) L 0 at_ 0).e)
    else rdA f L (rdT (2 * L.length + 1) L 0 at_ 0).at_ (ts ++ [(rdT (2 * L.length + 1) L 0 at_ 0).t])
end M
end Go.Proofs.Ytceplnfjlncekaa
