/-
  Contracts of package whole's face, over what values are worth.
-/
import Derived.Test.YtgkofipifjfjhaaGreatDoorJZ
import Derived.ProofKit
import Derived.OpenShut
import Derived.Carry
import Derived.Lib.SmallJoins
namespace Go.Proofs.YtgkofipifjfjhaaGreatDoor
open Go.RowKit
set_option linter.unusedSimpArgs false
set_option linter.unusedVariables false

set_option maxHeartbeats 1000000 in
theorem sign_w {w : World} {u : Value} {Z : Int} {j : Nat} (hu : Worth w u Z j) :
 Calls Tryz.prog 170 #[u] w (fun e w' => e = .returned (.int .i64 Z.sign) ∧ Ext w w') := by
 obtain ⟨g, A, n, c, rfl⟩ := hu.shape
 have R := hid hu
 clear hu
 go_enter Tryz.func170, Tryz.ntmps170
 go_upto_region 1 with (fail)
 obtain ⟨E, B1⟩ := open1 w #[.bool g, .slice A n c] 30
 replace R := hid (R.out.up E.out)
 refine wp_region_S [(0, 0), (1, 1), (2, 0), (3, 0), (4, 0)] fun wd hb => ?_
 replace E := hid (E.out.trans hb)
 replace B1 := hid (B1.out.up hb)
 replace R := hid (R.out.up hb)
 clear hb
 refine WE.q 3 (.agg #[.bool g, .slice A n c]) rfl (fun w' hk => by have c0 := (B1.out.up hk).k 0; have c1 := (B1.out.up hk).k 1; go_simp) ?_
 simp only [Act.put, pA, pB, pC]
 refine WE.call (d := some 4) rfl rfl (by rfl) (f := 194) (args := #[(.agg #[.bool g, .slice A n c])]) (by go_simp) ?_
 refine (read_w R.out).mono ?_
 rintro e wn ⟨vx, rfl, hx, hb⟩
 obtain ⟨s1, A1, n1, c1, rfl, hs1, hr1⟩ := hx.form
 clear hx
 refine ⟨_, rfl, hb, ?_⟩
 replace E := hid (E.out.trans hb)
 have HS1 := hid hs1
 clear hb hs1 hr1
 refine WE.q 5 (.agg #[.int .i64 s1]) rfl (fun w' hk => by have hf : ∀ w, (Instr.field 208 (.agg #[.int .i64 s1, .slice A1 n1 c1]) 0).run Tryz.prog w = .ok (.agg #[.int .i64 s1]) w := (fun w => by kernel_rfl); go_simp) ?_
 refine WE.q 6 (.int .i64 s1) rfl (fun w' hk => by have hf : ∀ w, (Instr.field 206 (.agg #[.int .i64 s1]) 0).run Tryz.prog w = .ok (.int .i64 s1) w := (fun w => by kernel_rfl); go_simp) ?_
 refine WE.p 2 (.int .i64 s1) ?_
 simp only [Act.put, pA, pB, pC]
 refine WE.done ?_
 go_wp2
 go_ret
 exact ⟨ret_int HS1.out, E.out⟩

set_option maxHeartbeats 1000000 in
theorem abs_w {w : World} {u : Value} {Z : Int} {j : Nat} (hu : Worth w u Z j) (hj : j ≤ 100000000) :
 Calls Tryz.prog 169 #[u] w (GivesZ w (Z.natAbs : Int) j) := by
 obtain ⟨g, A, n, c, rfl⟩ := hu.shape
 have R := hid hu
 clear hu
 have HJ := hid hj
 clear hj
 go_enter Tryz.func169, Tryz.ntmps169
 go_upto_region 1 with (fail)
 obtain ⟨E, B1, B2⟩ := open2 w #[.bool g, .slice A n c] 30 #[.bool false, .slice none 0 0] 30
 replace R := hid (R.out.up E.out)
 refine wp_region_S [(0, 0), (1, 1), (2, 1), (3, 1), (4, 4)] fun wd hb => ?_
 replace E := hid (E.out.trans hb)
 replace B1 := hid (B1.out.up hb)
 replace B2 := hid (B2.out.up hb)
 replace R := hid (R.out.up hb)
 clear hb
 refine WE.q 3 (.agg #[.bool g, .slice A n c]) rfl (fun w' hk => by have c0 := (B1.out.up hk).k 0; have c1 := (B1.out.up hk).k 1; go_simp) ?_
 simp only [Act.put, pA, pB, pC]
 refine WE.call (d := some 4) rfl rfl (by rfl) (f := 194) (args := #[(.agg #[.bool g, .slice A n c])]) (by go_simp) ?_
 refine (read_w R.out).mono ?_
 rintro e wn ⟨vx, rfl, hx, hb⟩
 obtain ⟨s1, A1, n1, c1, rfl, hs1, hr1⟩ := hx.form
 clear hx
 refine ⟨_, rfl, hb, ?_⟩
 replace E := hid (E.out.trans hb)
 replace B2 := hid (B2.out.up hb)
 have HS1 := hid hs1
 have R1 := hid hr1
 clear hb hs1 hr1
 simp only [Act.put, pA, pB, pC]
 refine WE.call (d := some 5) rfl rfl (by rfl) (f := 228) (args := #[(.agg #[.int .i64 s1, .slice A1 n1 c1])]) (by go_simp) ?_
 refine (absolute_i (InZ.mk HS1.out R1.out)).mono ?_
 rintro e wn ⟨vx, rfl, hx, hb⟩
 obtain ⟨s2, A2, n2, c2, rfl, hs2, hr2⟩ := hx.form
 clear hx
 refine ⟨_, rfl, hb, ?_⟩
 replace E := hid (E.out.trans hb)
 replace B2 := hid (B2.out.up hb)
 have HS2 := hid hs2
 have R2 := hid hr2
 clear hb hs2 hr2
 simp only [Act.put, pA, pB, pC]
 refine WE.call (d := some 6) rfl rfl (by rfl) (f := 227) (args := #[(.agg #[.int .i64 s2, .slice A2 n2 c2])]) (by go_simp) ?_
 refine (copied_i (InZ.mk HS2.out R2.out) HJ.out).mono ?_
 rintro e wn ⟨vx, rfl, hx, hb⟩
 obtain ⟨g3, A3, n3, c3, rfl, hs3, hr3⟩ := hx.form
 clear hx
 refine ⟨_, rfl, hb, ?_⟩
 replace E := hid (E.out.trans hb)
 replace B2 := hid (B2.out.up hb)
 have HS3 := hid hs3
 have R3 := hid hr3
 clear hb hs3 hr3
 simp only [Act.put, pA, pB, pC]
 refine WE.store2 (g := (w.heap.size + 1)) (x := .bool g3) (y := .slice A3 n3 c3) (t := 30) rfl rfl (by rfl) (fun w hb => ?_) B2.out (by rfl) fun ws hk hs => ?_
 ·have c0 := hb.k 0; have f0 := hb.free 0; have c1 := hb.k 1; have f1 := hb.free 1; go_simp
 intro hbx
 replace E := hid (E.out.keptG hk (by simp))
 replace B2 := hid hbx
 replace R3 := hid (R3.out.kz hs)
 clear hk hs hbx
 refine WE.done ?_
 have r0 := B2.out.cell (o := 0) (v := .bool g3) rfl
 have r1 := B2.out.cell (o := 1) (v := .slice A3 n3 c3) rfl
 go_wp2
 exact bodyPost_ret (v := .agg #[.bool g3, .slice A3 n3 c3]) (by simp [results, Tryz.results169, go_sem, r0, r1]) rfl ⟨_, rfl, IsZ.mk HS3.out R3.out, E.out⟩

end Go.Proofs.YtgkofipifjfjhaaGreatDoor

/-
  Contracts of package whole's face, over what values are worth.
-/
namespace Go.Proofs.YtgkofipifjfjhaaGreatDoor
open Go.RowKit
set_option linter.unusedSimpArgs false
set_option linter.unusedVariables false

end Go.Proofs.YtgkofipifjfjhaaGreatDoor

/-
  Contracts of package whole's face, over what values are worth.
-/
namespace Go.Proofs.YtgkofipifjfjhaaGreatDoor
open Go.RowKit
set_option linter.unusedSimpArgs false
set_option linter.unusedVariables false

end Go.Proofs.YtgkofipifjfjhaaGreatDoor

/-
  Contracts of package whole's face, over what values are worth.
-/
namespace Go.Proofs.YtgkofipifjfjhaaGreatDoor
open Go.RowKit
set_option linter.unusedSimpArgs false
set_option linter.unusedVariables false

end Go.Proofs.YtgkofipifjfjhaaGreatDoor

/-
  Contracts of package whole's face, over what values are worth.
-/
namespace Go.Proofs.YtgkofipifjfjhaaGreatDoor
open Go.RowKit
set_option linter.unusedSimpArgs false
set_option linter.unusedVariables false

end Go.Proofs.YtgkofipifjfjhaaGreatDoor

/-
  Contract of whole.Small: as a number of 64 bits, and whether it fits.
-/
namespace Go.Proofs.YtgkofipifjfjhaaGreatDoor
open Go.RowKit
set_option linter.unusedSimpArgs false
set_option linter.unusedVariables false

namespace M
def most (Z : Int) : Nat := if Z < 0 then 9223372036854775808 else 9223372036854775807
def fits (Z : Int) : Prop := -9223372036854775808 ≤ Z ∧ Z ≤ 9223372036854775807
end M

end Go.Proofs.YtgkofipifjfjhaaGreatDoor

/-
  What each law of layer 2 shares: an argument that is an integer opened, and the small contracts of package mullionlaw2.
-/
namespace Go.Proofs.YtgkofipifjfjhaaGreatDoor
set_option linter.unusedSimpArgs false
set_option linter.unusedVariables false
open Go.ChangeShapes Go.WideShapes Go.ChangeAt Go.RowKit

theorem own : ownKnob Tryz.prog.godebug = none := by kernel_rfl
theorem laidOut : laidOutB Tryz.prog = true := by kernel_rfl
section
variable {H : Type} {enc : TypeId × Value → H} {W W' : World}

theorem args_stay {sp' : Nat → Bool} : ∀ {ts : List TypeId} {vs : List Value} {ds : List (DataW H)} {ps : List MemPlace}, (∀ t ∈ ts, Tryz.prog.readableRec t = true ∧ t < Tryz.prog.types.size) →
 DataW.TrodAll enc Tryz.prog W 0 (fun _ => true) true ts vs ds ps → Below W.heap.size W W' → (∀ p ∈ ps, p.block < W.heap.size) → (∀ p ∈ ps, sp' p.block = true) → DataW.TrodAll enc Tryz.prog W' 0 sp' true ts vs ds ps
 | [], [], [], _, _, h, _, _, _ => h
 | t :: ts, v :: vs, d :: ds, ps, hts, ⟨p, q, h1, h2, he⟩, hb, hlt, hs => by
  subst he
  refine ⟨p, q, WideElems.Trod_stays laidOut (hts t (by simp)).1 (hts t (by simp)).2 h1 (fun x hx => hb.same (hlt x (List.mem_append_left _ hx))) (fun x hx => hs x (List.mem_append_left _ hx)), ?_, rfl⟩
  exact args_stay (fun t' ht => hts t' (List.mem_cons_of_mem _ ht)) h2 hb (fun x hx => hlt x (List.mem_append_right _ hx)) (fun x hx => hs x (List.mem_append_right _ hx))

/-- A law that says true and only made memory: its post. -/
theorem law_post {f : Func} {s : ChangeSpec} {args : Array Value} {ds gs : List (DataW H)} {before : List MemPlace}
 (hW : DataW.Whole enc Tryz.prog f.params.toList s.vars false W args.toList ds gs before) (hs : s.vars = []) (hspec : s.fn H (ds ++ gs) = { results := [.lit (.bool true)], args := ds })
 (hrt : f.resultTypes = #[4]) (hall : (f.params.toList.all fun t => Tryz.prog.readableRec t && decide (t < Tryz.prog.types.size)) = true) (hb : Ext W W') :
 s.post enc Tryz.prog f false true false false W args (.bool true) W' := by
 have hts : ∀ t ∈ f.params.toList, Tryz.prog.readableRec t = true ∧ t < Tryz.prog.types.size := fun t ht => by simpa using List.all_eq_true.1 hall t ht
 have hW' := hW
 obtain ⟨p, q, hA, hV, hpq, hfz, hnd⟩ := hW
 rw [hs] at hV
 have hlt : ∀ x ∈ p, x.block < W.heap.size := fun x hx => hW'.lt x (by rw [hpq]; exact List.mem_append_left _ hx)
 obtain ⟨rfl, rfl⟩ := trodVars_none hV
 refine ⟨ds, [], before, [], p, [], hW', ?_, ?_, ?_, ?_, fun h => by cases h⟩
 ·rw [hspec, hrt]
  exact trodAll_mk1 (shut_bool Tryz.underlying4 true)
 ·rw [hspec]
  exact args_stay hts hA hb hlt (fun x hx => by simpa using hlt x hx)
 ·rw [hspec, hs]; rfl
 ·refine World.keptBut_mono (fun x hx => ⟨hx, .inr (.inl ?_)⟩) (hb.below.frame (· ∈ before))
  rw [hpq, List.append_nil] at hx
  exact hx
end

theorem IsZ.shape {w : World} {v : Value} {Z : Int} {k : Nat} (h : IsZ w v Z k) : ∃ g A n c, v = .agg #[.bool g, .slice A n c] := by
 obtain ⟨A, n, c, e, _⟩ := h
 exact ⟨_, A, n, c, e⟩
theorem sign_e {w : World} {u : Value} {Z : Int} {j : Nat} (hu : Worth w u Z j) {s : Int} (hs : Z.sign = s) : Calls Tryz.prog 170 #[u] w (fun e w' => e = .returned (.int .i64 s) ∧ Ext w w') := hs ▸ sign_w hu
theorem worth_of {w : World} {g : Bool} {A : Option Addr} {n c : Nat} {l : List Nat} (hm : Num w w.heap.size (.slice A n c) l) {k : Nat} (hk : l.length ≤ k) {x : Int} (hx : x = M.zv g l) : Worth w (.agg #[.bool g, .slice A n c]) x k :=
 ⟨g, A, n, c, l, rfl, hm, hk, hx.symm⟩
end Go.Proofs.YtgkofipifjfjhaaGreatDoor

