/-
  Layer 10, the reference: Sigs.
-/
import Derived.Test.YtkhmgdfhggejaaaGreatDoorWKNames
namespace Go.Proofs.YtkhmgdfhggejaaaGreatDoor.Q
set_option linter.unusedSimpArgs false
set_option linter.unusedVariables false
open Go.RowKit

namespace M
/-- A term's names. -/
def kSigs (t : Tm) : List Sg × Bool := ksigs t ([], true)
end M
theorem rkSigs_n (t : M.Tm) {v : Value} {w : World} (h : IsTm w t v) (hc : M.kcnt t ≤ 1000000) : Calls Tryz.prog 24 #[v] w (GivesSgs w (M.kSigs t)) := by
 obtain ⟨N, nn, nc, A, n, c, rfl, -, -, -, -, -, -⟩ := h.shape
 obtain ⟨op, hop⟩ : ∃ x, t.op = x := ⟨_, rfl⟩
 obtain ⟨g, hg⟩ : ∃ x, t.g = x := ⟨_, rfl⟩
 obtain ⟨nm, hnm⟩ : ∃ x, t.name = x := ⟨_, rfl⟩
 obtain ⟨so, hso⟩ : ∃ x, t.sort = x := ⟨_, rfl⟩
 rw [hop, hg, hnm, hso] at h ⊢
 obtain ⟨P0, hP⟩ : ∃ p, M.kSigs t = p := ⟨_, rfl⟩
 rw [hP]
 have H := hid (show Calls Tryz.prog 48 #[kv op g N nn nc nm so A n c, .slice none 0 0, .bool true] (kboxed w op g N nn nc nm so A n c) (GivesSgs (kboxed w op g N nn nc nm so A n c) P0) from hP ▸ sigs_n t (l := []) (ok := true) (h.up (Ext.alloc w _)) (Sgs.nil _) (by simp; omega))
 clear h hop hg hnm hso hP hc
 go_enter Tryz.func24, Tryz.ntmps24
 go_wp2_with fail
 refine H.out.mono ?_
 rintro e w' ⟨v9, rfl, hS, hb⟩
 have HS := hid hS
 have E := hid hb
 clear hb hS
 go_wp2_with fail
 refine bodyPost_ret (v := .tuple #[v9, .bool P0.2]) (by simp [results, Tryz.results24, go_sem]) rfl ?_
 exact ⟨v9, rfl, HS.out, (Ext.alloc w _).trans E.out⟩
end Go.Proofs.YtkhmgdfhggejaaaGreatDoor.Q

