/-
  Layer 11's laws: rows of trees and Sigs, of the call's own.
-/
import Derived.Test.YtgkofipifjfjhaaGreatDoorJSF
namespace Go.Proofs.YtgkofipifjfjhaaGreatDoor.Q
set_option linter.unusedSimpArgs false
set_option linter.unusedVariables false
open Go.RowKit

theorem Reps.put {w : World} : ∀ {a b : List M.T} {x y : List Value}, Reps w a x → Reps w b y → Reps w (a ++ b) (x ++ y)
 | [], b, x, y, h, h' => by obtain rfl : x = [] := h; simpa using h'
 | t :: r, b, x, y, h, h' => by
  obtain ⟨v, cs, rfl, h1, h2⟩ := h
  exact ⟨v, cs ++ y, rfl, h1, Reps.put h2 h'⟩
theorem Reps.size {w : World} : ∀ {ks : List M.T} {cs : List Value}, Reps w ks cs → cs.length = ks.length * 4
 | [], cs, h => by obtain rfl : cs = [] := h; rfl
 | t :: r, cs, h => by
  obtain ⟨v, cs', rfl, h1, h2⟩ := h
  simp [Reps.size h2]; omega
/-- A row literal of one tree, of the call's own. -/
theorem OwnKV.lit {B : Nat} {V w : World} {t : M.T} {kd : Value} (hk : Kids V t.kids kd) (h1 : kd.oneCell' = true) (hb : B ≤ w.heap.size) : OwnKV B V (w.alloc (.cells #[.bool t.list, .int .i64 t.tok.1, str t.tok.2, kd] 26)) (.slice (some ⟨w.heap.size, 0, none⟩) 1 1) [t] :=
 ⟨[.bool t.list, .int .i64 t.tok.1, str t.tok.2, kd], World.ownsRow_lit w #[.bool t.list, .int .i64 t.tok.1, str t.tok.2, kd] 1 hb (by unfold maxLen; omega) rfl, Reps.cons hk h1 (Reps.nil _)⟩
/-- Where the call of Term owes its term. -/
theorem term_givesS {t : M.T} {l : List M.Sg} {r : M.Tm × Int} (hr : M.rTerm M.barred l t = r) (htx : M.txtN t = true) {v : Value} {SA : Option Addr} {sn sc : Nat} {w : World} (h : IsT w t v) (hs : Sgs w l (.slice SA sn sc)) (hnm : ∀ s ∈ l, s.name.length ≤ 1000000000000) (ht : TabS w) : Calls Tryz.prog 17 #[v, .slice SA sn sc] w (GivesTmN w r) := hr ▸ Term_t t h htx hs hnm ht
end Go.Proofs.YtgkofipifjfjhaaGreatDoor.Q
