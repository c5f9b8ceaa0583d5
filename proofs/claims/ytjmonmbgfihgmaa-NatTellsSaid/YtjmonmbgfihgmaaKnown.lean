/-
  Contract: 'known', the examples that each law of layer 1 asks ahead of all else: true.
-/
import Derived.Test.YtjmonmbgfihgmaaFace
namespace Go.Proofs.Ytjmonmbgfihgmaa
set_option linter.unusedSimpArgs false
set_option linter.unusedVariables false
open Go.RowKit

set_option maxHeartbeats 2000000 in
theorem known_any (w : World) : Calls Try.prog 41 #[] w fun e w' => e = .returned (.bool true) ∧ Ext w w' := by
  go_enter Try.func41, Try.ntmps41
  go_wp2_with fail
  refine (of_n 1000000007 (by omega) _).mono ?_
  rintro e wn ⟨vA, rfl, ax, hb⟩
  have E := hid hb
  have A := hid ax
  clear hb ax
  go_wp2_with fail
  refine (of_n 10 (by omega) _).mono ?_
  rintro e wn ⟨vB, rfl, bx, hb⟩
  replace A := hid (A.out.up hb)
  replace E := hid (E.out.trans hb)
  have B := hid bx
  clear hb bx
  go_wp2_with fail
  refine (div1_n A.out B.out (by omega) (by omega)).mono ?_
  rintro e wn ⟨vQ, vR, rfl, qx, rx, hb⟩
  replace A := hid (A.out.up hb)
  replace B := hid (B.out.up hb)
  replace E := hid (E.out.trans hb)
  have Q := hid qx
  have R := hid rx
  clear hb qx rx
  clear A B
  go_wp2_with fail
  refine (of_n 1000000001 (by omega) _).mono ?_
  rintro e wn ⟨vA, rfl, ax, hb⟩
  replace Q := hid (Q.out.up hb)
  replace R := hid (R.out.up hb)
  replace E := hid (E.out.trans hb)
  have A := hid ax
  clear hb ax
  go_wp2_with fail
  have hb := Ext.alloc wn (.cells #[.int .u32 1, .int .u32 1] 48)
  have lx := lit_l (w := wn) [1, 1] #[.int .u32 1, .int .u32 1] rfl (by simp) 2 rfl (by simp) (wn.heap.size) (by simp)
  replace Q := hid (Q.out.up hb)
  replace R := hid (R.out.up hb)
  replace A := hid (A.out.up hb)
  replace E := hid (E.out.trans hb)
  have L := hid lx
  clear hb lx
  refine (same_l A.out.1 L.out (by simp [M.limbs])).mono ?_
  rintro e wn ⟨rfl, hb⟩
  replace Q := hid (Q.out.up hb)
  replace R := hid (R.out.up hb)
  replace A := hid (A.out.up hb)
  replace L := hid (L.out.up hb)
  replace E := hid (E.out.trans hb)
  clear hb 
  clear A L
  go_wp2_with fail
  refine (of_n 3 (by omega) _).mono ?_
  rintro e wn ⟨vA, rfl, ax, hb⟩
  replace Q := hid (Q.out.up hb)
  replace R := hid (R.out.up hb)
  replace E := hid (E.out.trans hb)
  have A := hid ax
  clear hb ax
  go_wp2_with fail
  refine (of_n 2 (by omega) _).mono ?_
  rintro e wn ⟨vB, rfl, bx, hb⟩
  replace Q := hid (Q.out.up hb)
  replace R := hid (R.out.up hb)
  replace A := hid (A.out.up hb)
  replace E := hid (E.out.trans hb)
  have B := hid bx
  clear hb bx
  go_wp2_with fail
  refine (cmp_n A.out B.out (z := 1) (by decide)).mono ?_
  rintro e wn ⟨rfl, hb⟩
  replace Q := hid (Q.out.up hb)
  replace R := hid (R.out.up hb)
  replace A := hid (A.out.up hb)
  replace B := hid (B.out.up hb)
  replace E := hid (E.out.trans hb)
  clear hb 
  clear A B
  go_wp2_with fail
  refine (of_n 1000000000 (by omega) _).mono ?_
  rintro e wn ⟨vA, rfl, ax, hb⟩
  replace Q := hid (Q.out.up hb)
  replace R := hid (R.out.up hb)
  replace E := hid (E.out.trans hb)
  have A := hid ax
  clear hb ax
  go_wp2_with fail
  refine (of_n 1000000000 (by omega) _).mono ?_
  rintro e wn ⟨vB, rfl, bx, hb⟩
  replace Q := hid (Q.out.up hb)
  replace R := hid (R.out.up hb)
  replace A := hid (A.out.up hb)
  replace E := hid (E.out.trans hb)
  have B := hid bx
  clear hb bx
  go_wp2_with fail
  refine (mul_n A.out B.out (by omega) (by omega) (by omega)).mono ?_
  rintro e wn ⟨vC, rfl, cx, hb⟩
  replace Q := hid (Q.out.up hb)
  replace R := hid (R.out.up hb)
  replace A := hid (A.out.up hb)
  replace B := hid (B.out.up hb)
  replace E := hid (E.out.trans hb)
  have C := hid cx
  clear hb cx
  clear A B
  go_wp2_with fail
  have hb := Ext.alloc wn (.cells #[.int .u32 0, .int .u32 0, .int .u32 1] 48)
  have lx := lit_l (w := wn) [0, 0, 1] #[.int .u32 0, .int .u32 0, .int .u32 1] rfl (by simp) 3 rfl (by simp) (wn.heap.size) (by simp)
  replace Q := hid (Q.out.up hb)
  replace R := hid (R.out.up hb)
  replace C := hid (C.out.up hb)
  replace E := hid (E.out.trans hb)
  have L := hid lx
  clear hb lx
  refine (same_l C.out.1 L.out (by simp [M.limbs])).mono ?_
  rintro e wn ⟨rfl, hb⟩
  replace Q := hid (Q.out.up hb)
  replace R := hid (R.out.up hb)
  replace C := hid (C.out.up hb)
  replace L := hid (L.out.up hb)
  replace E := hid (E.out.trans hb)
  clear hb 
  clear C L
  go_wp2_with fail
  have hb := Ext.alloc wn (.cells #[.int .u32 100000000] 48)
  have lx := lit_l (w := wn) [100000000] #[.int .u32 100000000] rfl (by simp) 1 rfl (by simp) (wn.heap.size) (by simp)
  replace Q := hid (Q.out.up hb)
  replace R := hid (R.out.up hb)
  replace E := hid (E.out.trans hb)
  have L := hid lx
  clear hb lx
  refine (same_l Q.out.1 L.out (by simp [M.limbs])).mono ?_
  rintro e wn ⟨rfl, hb⟩
  replace Q := hid (Q.out.up hb)
  replace R := hid (R.out.up hb)
  replace L := hid (L.out.up hb)
  replace E := hid (E.out.trans hb)
  clear hb 
  clear Q L
  go_wp2_with fail
  have hb := Ext.alloc wn (.cells #[.int .u32 7] 48)
  have lx := lit_l (w := wn) [7] #[.int .u32 7] rfl (by simp) 1 rfl (by simp) (wn.heap.size) (by simp)
  replace R := hid (R.out.up hb)
  replace E := hid (E.out.trans hb)
  have L := hid lx
  clear hb lx
  refine (same_l R.out.1 L.out (by simp [M.limbs])).mono ?_
  rintro e wn ⟨rfl, hb⟩
  replace R := hid (R.out.up hb)
  replace L := hid (L.out.up hb)
  replace E := hid (E.out.trans hb)
  clear hb 
  clear R L
  go_wp2_with fail
  have hb := Ext.alloc wn (.cells #[.int .u32 1] 48)
  have lx := lit_l (w := wn) [1] #[.int .u32 1] rfl (by simp) 1 rfl (by simp) (wn.heap.size) (by simp)
  replace E := hid (E.out.trans hb)
  have L := hid lx
  clear hb lx
  refine (isNat_l L.out (b := true) (by simp [M.isNat, M.small])).mono ?_
  rintro e wq ⟨rfl, rfl⟩
  clear L
  go_wp2_with fail
  have hb := Ext.alloc (wn.alloc (.cells #[.int .u32 1] 48)) (.cells #[.int .u32 1, .int .u32 0] 48)
  have lx := lit_l (w := (wn.alloc (.cells #[.int .u32 1] 48))) [1, 0] #[.int .u32 1, .int .u32 0] rfl (by simp) 2 rfl (by simp) (wn.heap.size + 1) (by simp)
  replace E := hid (E.out.trans hb)
  have L := hid lx
  clear hb lx
  refine (isNat_l L.out (b := false) (by simp [M.isNat, M.small])).mono ?_
  rintro e wq ⟨rfl, rfl⟩
  clear L
  go_wp2_with fail
  refine (of_n 4 (by omega) _).mono ?_
  rintro e wn ⟨vA, rfl, ax, hb⟩
  replace E := hid (E.out.trans hb)
  have A := hid ax
  clear hb ax
  go_wp2_with fail
  refine (even_n A.out (b := true) (by decide)).mono ?_
  rintro e wq ⟨rfl, rfl⟩
  clear A
  go_wp2_with fail
  refine (of_n 2 (by omega) _).mono ?_
  rintro e wn ⟨vA, rfl, ax, hb⟩
  replace E := hid (E.out.trans hb)
  have A := hid ax
  clear hb ax
  go_wp2_with fail
  refine (of_n 3 (by omega) _).mono ?_
  rintro e wn ⟨vB, rfl, bx, hb⟩
  replace A := hid (A.out.up hb)
  replace E := hid (E.out.trans hb)
  have B := hid bx
  clear hb bx
  go_wp2_with fail
  refine (sub_n A.out B.out (by omega)).mono ?_
  rintro e wn ⟨vC, rfl, cx, hb⟩
  replace A := hid (A.out.up hb)
  replace B := hid (B.out.up hb)
  replace E := hid (E.out.trans hb)
  have C := hid cx
  clear hb cx
  clear A B
  obtain ⟨A, n, c, e, hn, _⟩ := C.out.1
  subst e
  have h0 : n = 0 := by rw [hn]; simp [M.limbs]
  subst h0
  clear C hn
  go_wp2
  go_ret
  exact ⟨rfl, E.out⟩
end Go.Proofs.Ytjmonmbgfihgmaa
