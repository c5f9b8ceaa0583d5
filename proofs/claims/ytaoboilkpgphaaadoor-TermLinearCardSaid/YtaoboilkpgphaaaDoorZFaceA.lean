/-
  Contracts of package whole's face, over what values are worth.
-/
import Derived.Test.YtaoboilkpgphaaaDoorJZ
namespace Go.Proofs.YtaoboilkpgphaaaDoor
open Go.RowKit
set_option linter.unusedSimpArgs false
set_option linter.unusedVariables false

set_option maxHeartbeats 1000000 in
theorem sign_w {w : World} {u : Value} {Z : Int} {j : Nat} (hu : Worth w u Z j) :
 Calls Tryd.prog 74 #[u] w (fun e w' => e = .returned (.int .i64 Z.sign) ∧ Ext w w') := by
 obtain ⟨g, A, n, c, rfl⟩ := hu.shape
 have R := hid hu
 clear hu
 go_enter Tryd.func74, Tryd.ntmps74
 go_upto_region 1 with (fail)
 obtain ⟨E, B1⟩ := open1 w #[.bool g, .slice A n c] 24
 replace R := hid (R.out.up E.out)
 refine wp_region_S [(0, 0), (1, 1), (2, 0), (3, 0), (4, 0)] fun wd hb => ?_
 replace E := hid (E.out.trans hb)
 replace B1 := hid (B1.out.up hb)
 replace R := hid (R.out.up hb)
 clear hb
 refine WE.q 3 (.agg #[.bool g, .slice A n c]) rfl (fun w' hk => by have c0 := (B1.out.up hk).k 0; have c1 := (B1.out.up hk).k 1; go_simp) ?_
 simp only [Act.put, pA, pB, pC]
 refine WE.call (d := some 4) rfl rfl (by rfl) (f := 91) (args := #[(.agg #[.bool g, .slice A n c])]) (by go_simp) ?_
 refine (read_w R.out).mono ?_
 rintro e wn ⟨vx, rfl, hx, hb⟩
 obtain ⟨s1, A1, n1, c1, rfl, hs1, hr1⟩ := hx.form
 clear hx
 refine ⟨_, rfl, hb, ?_⟩
 replace E := hid (E.out.trans hb)
 have HS1 := hid hs1
 clear hb hs1 hr1
 refine WE.q 5 (.agg #[.int .i64 s1]) rfl (fun w' hk => by have hf : ∀ w, (Instr.field 109 (.agg #[.int .i64 s1, .slice A1 n1 c1]) 0).run Tryd.prog w = .ok (.agg #[.int .i64 s1]) w := (fun w => by kernel_rfl); go_simp) ?_
 refine WE.q 6 (.int .i64 s1) rfl (fun w' hk => by have hf : ∀ w, (Instr.field 107 (.agg #[.int .i64 s1]) 0).run Tryd.prog w = .ok (.int .i64 s1) w := (fun w => by kernel_rfl); go_simp) ?_
 refine WE.p 2 (.int .i64 s1) ?_
 simp only [Act.put, pA, pB, pC]
 refine WE.done ?_
 go_wp2
 go_ret
 exact ⟨ret_int HS1.out, E.out⟩

end Go.Proofs.YtaoboilkpgphaaaDoor
