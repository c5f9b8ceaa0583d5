/-
  Layer 9, the reference: a reader that fails.
-/
import Derived.Test.YtceplnfjlncekaaQTGhost
import Derived.Test.YtceplnfjlncekaaQTCount
namespace Go.Proofs.Ytceplnfjlncekaa
set_option linter.unusedSimpArgs false
set_option linter.unusedVariables false
open Go.RowKit

/-- A reader's box. -/
abbrev RBox (w : World) (g : Nat) (lv : Value) (at_ n e : Int) : Prop := Box w g #[lv, .int .i64 at_, .int .i64 n, .int .i64 e] 54
theorem Box.frz {w : World} {g : Nat} {cs : Array Value} {t : TypeId} (h : Box w g cs t) (o : Nat) : w.frozen? ⟨g, o, none⟩ = false := h.free o
set_option maxHeartbeats 4000000 in
theorem fails_n {w : World} {g : Nat} {lv : Value} {at_ n e : Int} (hB : RBox w g lv at_ n 0) : Calls Try.prog 40 #[.pointer (some ⟨g, 0, none⟩), .int .i64 e] w
 fun en w' => en = .returned (tv false (0, []) none 0 0) ∧ RBox w' g lv at_ n e ∧ Kept [g] w w' := by
 have b3 := hB.k 3
 have f3 := hB.free 3
 have hlt := hB.lt
 have HB := hid hB
 clear hB
 go_enter Try.func40, Try.ntmps40
 go_wp2
 refine bodyPost_ret (v := tv false (0, []) none 0 0) (by simp [results, Try.results40, go_sem]) rfl ⟨rfl, (HB.out.setAt 3 (.int .i64 e)).alloc _, (kept_setAt _).trans ((Ext.alloc _ _).kept _)⟩
end Go.Proofs.Ytceplnfjlncekaa
