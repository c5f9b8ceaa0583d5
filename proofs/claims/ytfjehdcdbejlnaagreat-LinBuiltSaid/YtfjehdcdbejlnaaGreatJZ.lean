/-
  Contracts of package whole: a number of 64 bits as an integer; rounding down.
-/
import Derived.Test.YtfjehdcdbejlnaaGreatZInner
namespace Go.Proofs.YtfjehdcdbejlnaaGreat
open Go.RowKit
set_option linter.unusedSimpArgs false
set_option linter.unusedVariables false

def GivesI2 (w : World) (X : Int) (j : Nat) (Y : Int) (k : Nat) (e : Ending) (w' : World) : Prop := ∃ u v, e = .returned (.tuple #[u, v]) ∧ InZ w' u X j ∧ InZ w' v Y k ∧ Ext w w'
def GivesZ2 (w : World) (X : Int) (j : Nat) (Y : Int) (k : Nat) (e : Ending) (w' : World) : Prop := ∃ u v, e = .returned (.tuple #[u, v]) ∧ IsZ w' u X j ∧ IsZ w' v Y k ∧ Ext w w'

set_option maxHeartbeats 1000000 in
theorem of_neg {n : Int} (hn : n < 0) (h1 : -9223372036854775808 ≤ n) (h2 : n ≤ 9223372036854775807) (w : World) :
    Calls Tryz.prog 48 #[.int .i64 n] w (GivesZ w n 3) := by
  obtain ⟨m, hm⟩ : ∃ m : Nat, m = n.natAbs := ⟨_, rfl⟩
  have HM := hid hm
  have HN := hid hn
  have HB := hid h1
  have HB2 := hid h2
  have hl : n < 0 := hn
  obtain ⟨p, hp⟩ : ∃ p : Int, IntKind.u64.wrap n = p := ⟨_, rfl⟩
  have hq : IntKind.u64.wrap (-p) = (m : Int) := by rw [← hp, IntKind.wrap_u64, IntKind.wrap_u64]; omega
  clear hm hn h1 h2
  go_enter Tryz.func48, Tryz.ntmps48
  go_upto_region 1 with (fail)
  have E := hid ((Ext.refl w).alloc' (.cells #[.bool false, .slice none 0 0] 25))
  have B1 : Hid (Box (w.alloc (.cells #[.bool false, .slice none 0 0] 25)) (w.heap.size) #[.bool false, .slice none 0 0] 25) := hid (Box.at_ (w := w) #[.bool false, .slice none 0 0] 25 (by simp))
  refine wp_region_T [(0, 0), (1, 0)] (by kernel_rfl) fun wd hb => ?_
  replace E := hid (E.out.trans hb)
  replace B1 := hid (B1.out.up hb)
  clear hb
  refine WE.pure (d := some 3) rfl rfl (by rfl) (v := (.int .i64 n)) (fun w' hk => ?_) ?_
  · go_simp
  simp only [Act.put, pA, pB, pC]
  refine WE.pure (d := some 4) rfl rfl (by rfl) (v := (.bool true)) (fun w' hk => ?_) ?_
  · go_simp
  simp only [Act.put, pA, pB, pC]
  refine WE.done ?_
  go_upto_region 2 with (fail)
  refine wp_region_T [(0, 0), (1, 0), (2, 0), (3, 1), (4, 0), (5, 4)] (by kernel_rfl) fun wd hb => ?_
  replace E := hid (E.out.trans hb)
  replace B1 := hid (B1.out.up hb)
  clear hb
  refine WE.pure (d := some 5) rfl rfl (by rfl) (v := (.int .i64 n)) (fun w' hk => ?_) ?_
  · go_simp
  simp only [Act.put, pA, pB, pC]
  refine WE.pure (d := some 6) rfl rfl (by rfl) (v := (.int .u64 p)) (fun w' hk => ?_) ?_
  · go_simp
  simp only [Act.put, pA, pB, pC]
  refine WE.pure (d := some 7) rfl rfl (by rfl) (v := (.int .u64 (m : Int))) (fun w' hk => ?_) ?_
  · go_simp
  simp only [Act.put, pA, pB, pC]
  refine WE.call (d := some 8) rfl rfl (by rfl) (f := 70) (args := #[(.int .u64 (m : Int))]) (by go_simp) ?_
  refine (of_n m (by have := HM.out; have := HB.out; have := HB2.out; omega) _).mono ?_
  rintro e wn ⟨vx, rfl, hx, hb⟩
  obtain ⟨A1, n1, c1, rfl⟩ := hx.1.slice
  refine ⟨_, rfl, hb, ?_⟩
  replace E := hid (E.out.trans hb)
  replace B1 := hid (B1.out.up hb)
  have R1 := hid hx
  clear hb hx
  simp only [Act.put, pA, pB, pC]
  refine WE.pure (d := some 9) rfl rfl (by rfl) (v := (.agg #[.bool true, .slice A1 n1 c1])) (fun w' hk => ?_) ?_
  · go_simp
  simp only [Act.put, pA, pB, pC]
  refine WE.store2 (g := (w.heap.size)) (x := .bool true) (y := .slice A1 n1 c1) (t := 25) rfl rfl (by rfl) (fun w hb => ?_) B1.out (by rfl) fun ws hk hs => ?_
  · have c0 := hb.cell (o := 0) (v := .bool false) rfl; have f0 := hb.free 0; have c1 := hb.cell (o := 1) (v := .slice none 0 0) rfl; have f1 := hb.free 1; go_simp
  intro hbx
  replace E := hid (E.out.keptG hk (by simp))
  replace B1 := hid hbx
  replace R1 := hid (R1.out.kz hs)
  clear hk hs hbx
  refine WE.done ?_
  have r0 := B1.out.cell (o := 0) (v := .bool true) rfl
  have r1 := B1.out.cell (o := 1) (v := .slice A1 n1 c1) rfl
  go_wp2
  exact bodyPost_ret (v := .agg #[.bool true, .slice A1 n1 c1]) (by simp [results, Tryz.results48, go_sem, r0, r1]) rfl ⟨_, rfl, IsZ.mk (by simpa using HN.out) (by rw [← HM.out]; exact R1.out), E.out⟩

set_option maxHeartbeats 1000000 in
theorem of_pos {n : Int} (hn : 0 ≤ n) (h1 : -9223372036854775808 ≤ n) (h2 : n ≤ 9223372036854775807) (w : World) :
    Calls Tryz.prog 48 #[.int .i64 n] w (GivesZ w n 3) := by
  obtain ⟨m, hm⟩ : ∃ m : Nat, m = n.natAbs := ⟨_, rfl⟩
  have HM := hid hm
  have HN := hid hn
  have HB := hid h1
  have HB2 := hid h2
  have hl : decide (n < 0) = false := by simpa using hn
  have hp : IntKind.u64.wrap n = (m : Int) := by rw [IntKind.wrap_u64]; omega
  clear hm hn h1 h2
  go_enter Tryz.func48, Tryz.ntmps48
  go_upto_region 1 with (fail)
  have E := hid ((Ext.refl w).alloc' (.cells #[.bool false, .slice none 0 0] 25))
  have B1 : Hid (Box (w.alloc (.cells #[.bool false, .slice none 0 0] 25)) (w.heap.size) #[.bool false, .slice none 0 0] 25) := hid (Box.at_ (w := w) #[.bool false, .slice none 0 0] 25 (by simp))
  refine wp_region_T [(0, 0), (1, 0)] (by kernel_rfl) fun wd hb => ?_
  replace E := hid (E.out.trans hb)
  replace B1 := hid (B1.out.up hb)
  clear hb
  refine WE.pure (d := some 3) rfl rfl (by rfl) (v := (.int .i64 n)) (fun w' hk => ?_) ?_
  · go_simp
  simp only [Act.put, pA, pB, pC]
  refine WE.pure (d := some 4) rfl rfl (by rfl) (v := (.bool false)) (fun w' hk => ?_) ?_
  · go_simp
  simp only [Act.put, pA, pB, pC]
  refine WE.done ?_
  go_upto_region 3 with (fail)
  refine wp_region_T [(0, 0), (1, 0), (2, 1), (3, 0), (4, 4)] (by kernel_rfl) fun wd hb => ?_
  replace E := hid (E.out.trans hb)
  replace B1 := hid (B1.out.up hb)
  clear hb
  refine WE.pure (d := some 10) rfl rfl (by rfl) (v := (.int .i64 n)) (fun w' hk => ?_) ?_
  · go_simp
  simp only [Act.put, pA, pB, pC]
  refine WE.pure (d := some 11) rfl rfl (by rfl) (v := (.int .u64 (m : Int))) (fun w' hk => ?_) ?_
  · go_simp
  simp only [Act.put, pA, pB, pC]
  refine WE.call (d := some 12) rfl rfl (by rfl) (f := 70) (args := #[(.int .u64 (m : Int))]) (by go_simp) ?_
  refine (of_n m (by have := HM.out; have := HB.out; have := HB2.out; omega) _).mono ?_
  rintro e wn ⟨vx, rfl, hx, hb⟩
  obtain ⟨A1, n1, c1, rfl⟩ := hx.1.slice
  refine ⟨_, rfl, hb, ?_⟩
  replace E := hid (E.out.trans hb)
  replace B1 := hid (B1.out.up hb)
  have R1 := hid hx
  clear hb hx
  simp only [Act.put, pA, pB, pC]
  refine WE.pure (d := some 13) rfl rfl (by rfl) (v := (.agg #[.bool false, .slice A1 n1 c1])) (fun w' hk => ?_) ?_
  · go_simp
  simp only [Act.put, pA, pB, pC]
  refine WE.store2 (g := (w.heap.size)) (x := .bool false) (y := .slice A1 n1 c1) (t := 25) rfl rfl (by rfl) (fun w hb => ?_) B1.out (by rfl) fun ws hk hs => ?_
  · have c0 := hb.cell (o := 0) (v := .bool false) rfl; have f0 := hb.free 0; have c1 := hb.cell (o := 1) (v := .slice none 0 0) rfl; have f1 := hb.free 1; go_simp
  intro hbx
  replace E := hid (E.out.keptG hk (by simp))
  replace B1 := hid hbx
  replace R1 := hid (R1.out.kz hs)
  clear hk hs hbx
  refine WE.done ?_
  have r0 := B1.out.cell (o := 0) (v := .bool false) rfl
  have r1 := B1.out.cell (o := 1) (v := .slice A1 n1 c1) rfl
  go_wp2
  exact bodyPost_ret (v := .agg #[.bool false, .slice A1 n1 c1]) (by simp [results, Tryz.results48, go_sem, r0, r1]) rfl ⟨_, rfl, IsZ.mk (by simpa using HN.out) (by rw [← HM.out]; exact R1.out), E.out⟩

theorem of_z {n : Int} (h1 : -9223372036854775808 ≤ n) (h2 : n ≤ 9223372036854775807) (w : World) : Calls Tryz.prog 48 #[.int .i64 n] w (GivesZ w n 3) := by
  rcases (by omega : n < 0 ∨ 0 ≤ n) with h | h
  · exact of_neg h h1 h2 w
  · exact of_pos h h1 h2 w

end Go.Proofs.YtfjehdcdbejlnaaGreat

/-
  The shape of what is worth a number; Euclid's parts.
-/
namespace Go.Proofs.YtfjehdcdbejlnaaGreat
set_option linter.unusedSimpArgs false
set_option linter.unusedVariables false
open Go.RowKit
namespace M
theorem euclid_parts (a b : Int) : (a.fdiv b.natAbs).natAbs = (a / b).natAbs ∧ ((a / b).natAbs ≠ 0 → (a.fdiv b.natAbs).sign * b.sign = (a / b).sign) := by
  rw [(euclid_of a b).1]
  rcases sign_cases b with ⟨hb, eb⟩ | ⟨hb, eb⟩ | ⟨hb, eb⟩
  · rw [eb]
    exact ⟨by rw [Int.natAbs_mul]; simp, fun _ => by rw [Int.sign_mul]; rfl⟩
  · subst hb; simp
  · rw [eb]
    exact ⟨by rw [Int.natAbs_mul]; simp, fun _ => by rw [Int.sign_mul]; rfl⟩
end M
theorem Worth.shape {w : World} {v : Value} {Z : Int} {k : Nat} (h : Worth w v Z k) : ∃ g A n c, v = .agg #[.bool g, .slice A n c] := by
  obtain ⟨g, A, n, c, _, e, _⟩ := h
  exact ⟨g, A, n, c, e⟩
theorem Worth.wide {w : World} {v : Value} {Z : Int} {j k : Nat} (h : Worth w v Z j) (hk : j ≤ k) : Worth w v Z k := by
  obtain ⟨g, A, n, c, l, h1, h2, h3, h4⟩ := h; exact ⟨g, A, n, c, l, h1, h2, Nat.le_trans h3 hk, h4⟩
end Go.Proofs.YtfjehdcdbejlnaaGreat

