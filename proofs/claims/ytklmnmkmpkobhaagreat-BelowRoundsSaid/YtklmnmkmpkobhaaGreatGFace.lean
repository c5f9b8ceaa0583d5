/-
  Contracts of package gcd's Of, All, Lcm.
-/
import Derived.Test.YtklmnmkmpkobhaaGreatJG
import Derived.Test.YtklmnmkmpkobhaaGreatZFaceC
import Derived.Test.YtklmnmkmpkobhaaGreatZFaceD
import Derived.Test.YtklmnmkmpkobhaaGreatHeldX
namespace Go.Proofs.YtklmnmkmpkobhaaGreat
open Go.RowKit
set_option linter.unusedSimpArgs false
set_option linter.unusedVariables false

theorem IsZ.short {w : World} {v : Value} {Z : Int} {j k : Nat} (h : IsZ w v Z j) (hZ : Z.natAbs < 1000000000 ^ k) : IsZ w v Z k := by
 obtain ⟨A, n, c, h1, h2, _⟩ := h
 exact ⟨A, n, c, h1, h2, M.limbs_length_le hZ⟩
theorem IsZ.len {w : World} {v : Value} {Z : Int} {k : Nat} (h : IsZ w v Z k) : Z.natAbs < 1000000000 ^ k := by
 obtain ⟨A, n, c, _, h2, h3⟩ := h
 exact Nat.lt_of_lt_of_le (M.limbs_len_lt _) (Nat.pow_le_pow_right (by omega) h3)
theorem Worth.len {w : World} {v : Value} {Z : Int} {k : Nat} (h : Worth w v Z k) : Z.natAbs < 1000000000 ^ k := by
 obtain ⟨g, A, n, c, l, _, _, h3, rfl⟩ := h
 have h4 := M.limbs_zv_len g l
 exact Nat.lt_of_lt_of_le (M.limbs_len_lt _) (Nat.pow_le_pow_right (by omega) (Nat.le_trans h4 h3))
theorem Box.list2 {w : World} {g : Nat} {t : TypeId} {g1 g2 : Bool} {A1 A2 : Option Addr} {n1 c1 n2 c2 : Nat} {l1 l2 : List Nat} (h : Box w g #[.bool g1, .slice A1 n1 c1, .bool g2, .slice A2 n2 c2] t)
 (h1 : Num w w.heap.size (.slice A1 n1 c1) l1) (h2 : Num w w.heap.size (.slice A2 n2 c2) l2) : ZList w (.slice (some ⟨g, 0, none⟩) 2 2) [(g1, l1), (g2, l2)] := by
 refine ⟨_, 2, 2, rfl, rfl, Nat.le_refl _, by unfold maxLen; omega, fun k x hx => ⟨_, rfl, h.lt, ?_⟩⟩
 rcases k with _ | _ | k
 ·simp at hx; subst hx
  exact ⟨A1, n1, c1, h.cell (o := 0) rfl, h.cell (o := 1) rfl, h1⟩
 ·simp at hx; subst hx
  exact ⟨A2, n2, c2, h.cell (o := 2) rfl, h.cell (o := 3) rfl, h2⟩
 ·simp at hx
theorem M.gl_two (x y : Bool × List Nat) : M.gl [x, y] = Int.gcd (M.zv x.1 x.2) (M.zv y.1 y.2) := by
 show Nat.gcd _ (Nat.gcd _ 0) = _
 rw [Nat.gcd_zero_right, Nat.gcd_comm]; rfl

set_option maxHeartbeats 1000000 in
theorem gAll_w {w : World} {v : Value} {ls : List (Bool × List Nat)} {K : Nat} (hl : ZList w v ls) (hs : ∀ x ∈ ls, x.2.length ≤ K) (hK : K ≤ 1000000) :
 Calls Tryz.prog 67 #[v] w (GivesZ w (M.gl ls : Int) K) := by
 obtain ⟨A, n, c, rfl⟩ := hl.shape
 have HL := hid hl
 have HS := hid hs
 have HK := hid hK
 clear hl hs hK
 go_enter Tryz.func67, Tryz.ntmps67
 go_upto_region 1 with (fail)
 obtain ⟨E, B1⟩ := open1 w #[.bool false, .slice none 0 0] 25
 replace HL := hid (HL.out.up E.out)
 refine wp_region_S [(0, 0), (1, 1), (2, 4)] fun wd hb => ?_
 replace E := hid (E.out.trans hb)
 replace B1 := hid (B1.out.up hb)
 replace HL := hid (HL.out.up hb)
 clear hb
 refine WE.p 3 (.slice A n c) ?_
 refine WE.call (d := some 4) rfl rfl (by rfl) (f := 98) (args := #[(.slice A n c)]) (by go_simp) ?_
 refine (common_w HL.out HS.out HK.out).mono ?_
 rintro e wn ⟨vx, rfl, hx, hb⟩
 obtain ⟨g3, A3, n3, c3, rfl, hs3, hr3⟩ := hx.form
 clear hx
 refine ⟨_, rfl, hb, ?_⟩
 replace E := hid (E.out.trans hb)
 replace B1 := hid (B1.out.up hb)
 have HS3 := hid hs3
 have R3 := hid hr3
 clear hb hs3 hr3
 simp only [Act.put, pA, pB, pC]
 clear HL
 refine WE.store2 (g := (w.heap.size)) (x := .bool g3) (y := .slice A3 n3 c3) (t := 25) rfl rfl (by rfl) (fun w hb => ?_) B1.out (by rfl) fun ws hk hs => ?_
 ·have c0 := hb.k 0; have f0 := hb.free 0; have c1 := hb.k 1; have f1 := hb.free 1; go_simp
 intro hbx
 replace E := hid (E.out.keptG hk (by simp))
 replace B1 := hid hbx
 replace R3 := hid (R3.out.kz hs)
 clear hk hs hbx
 refine WE.done ?_
 have r0 := B1.out.cell (o := 0) (v := .bool g3) rfl
 have r1 := B1.out.cell (o := 1) (v := .slice A3 n3 c3) rfl
 go_wp2
 exact bodyPost_ret (v := .agg #[.bool g3, .slice A3 n3 c3]) (by simp [results, Tryz.results67, go_sem, r0, r1]) rfl ⟨_, rfl, IsZ.mk HS3.out R3.out, E.out⟩

theorem lcm_parts (a b : Int) : ((a.natAbs : Int)).fdiv ((Int.gcd a b : Nat) : Int) * (b.natAbs : Int) = (Int.lcm a b : Nat) := by
 rw [← Int.ofNat_fdiv, ← Int.natCast_mul]
 congr 1
 show a.natAbs / Nat.gcd a.natAbs b.natAbs * b.natAbs = a.natAbs * b.natAbs / Nat.gcd a.natAbs b.natAbs
 rw [Nat.mul_comm, ← Nat.mul_div_assoc _ (Nat.gcd_dvd_left _ _), Nat.mul_comm]

end Go.Proofs.YtklmnmkmpkobhaaGreat
