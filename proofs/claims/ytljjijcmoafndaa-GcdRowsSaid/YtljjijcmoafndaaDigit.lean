/-
  Contract: one digit of a quotient: b taken away as often as it is in what is left.
-/
import Derived.Test.YtljjijcmoafndaaGuess
import Derived.Laws.CopyOwn
namespace Go.Proofs.Ytljjijcmoafndaa
set_option linter.unusedSimpArgs false
set_option linter.unusedVariables false
open Go.RowKit

def Digit (w : World) (g : Nat) (pre s post : List Nat) (b : Nat) (e : Ending) (w' : World) : Prop :=
  ∃ s' : List Nat, e = .returned (.int .u32 ((M.val s / b : Nat) : Int)) ∧ Blk w' g (pre ++ s' ++ post) ∧ s'.length = s.length ∧ M.small s' = true ∧ M.val s' = M.val s % b ∧ Only g w w'

theorem ret_u32 {a b : Nat} (h : a = b) : Ending.returned (.int .u32 (a : Int)) = Ending.returned (.int .u32 (b : Int)) := by rw [h]

theorem digit_any (w : World) (g o k cp : Nat) (v : Value) (m pre s post : List Nat) {C : Nat} (hv : Num w C v m) (hC : C ≤ g) (hm : Hid (M.isNat m = true)) (hn : k + 2 = m.length) (hk9 : k ≤ 10000000) (ho9 : o ≤ 10000000) (hcp : k + 3 ≤ cp) (hcp9 : cp ≤ 100000000)
    (hblk : Blk w g (pre ++ s ++ post)) (ho : Hid (pre.length = o)) (hsl : Hid (s.length = k + 3)) (hss : Hid (M.small s = true)) (hlt : Hid (M.val s < M.val m * 1000000000)) :
    Calls Try.prog 88 #[.slice (some ⟨g, o, none⟩) (k + 3) cp, v] w (Digit w g pre s post (M.val m)) := by
  have HV := hid hv
  have HBL := hid hblk
  have HN := hid hn
  obtain ⟨A', n', c', rfl, hn', hc', hm', hs', hr'⟩ := hv
  obtain rfl : n' = k + 2 := by omega
  obtain ⟨ad, rfl, had, hcells⟩ := hr'.at_ (k := k) (by omega)
  have hms := (M.isNat_iff.1 hm.out).1
  have hml := (M.isNat_iff.1 hm.out).2
  have hss' := M.small_iff.1 hss.out
  have hms' := M.small_iff.1 hms
  obtain ⟨x0, e0⟩ : ∃ x, s[k]? = some x := ⟨_, List.getElem?_eq_getElem (by rw [hsl.out]; omega)⟩
  obtain ⟨x1, e1⟩ : ∃ x, s[k + 1]? = some x := ⟨_, List.getElem?_eq_getElem (by rw [hsl.out]; omega)⟩
  obtain ⟨x2, e2⟩ : ∃ x, s[k + 2]? = some x := ⟨_, List.getElem?_eq_getElem (by rw [hsl.out]; omega)⟩
  obtain ⟨y0, f0⟩ : ∃ x, m[k]? = some x := ⟨_, List.getElem?_eq_getElem (by omega)⟩
  obtain ⟨y1, f1⟩ : ∃ x, m[k + 1]? = some x := ⟨_, List.getElem?_eq_getElem (by omega)⟩
  have h0 := hss' x0 (List.mem_of_getElem? e0)
  have h1 := hss' x1 (List.mem_of_getElem? e1)
  have h2 := hss' x2 (List.mem_of_getElem? e2)
  have g0 := hms' y0 (List.mem_of_getElem? f0)
  have g1 := hms' y1 (List.mem_of_getElem? f1)
  have hy1 : 1 ≤ y1 := by
    rw [List.getLast?_eq_getElem?, ← hn, show k + 2 - 1 = k + 1 by omega, f1] at hml
    rcases Nat.eq_zero_or_pos y1 with h | h
    · subst h; exact absurd rfl hml
    · exact h
  have hX := M.val_three e0 e1 e2 hsl.out
  have hY := M.val_two f0 f1 hn.symm
  have hVs := M.top_split s k (by rw [hsl.out]; omega)
  have hVm := M.top_split m k (by omega)
  have hl1 := M.val_lt (M.small_take hss.out k)
  have hl2 := M.val_lt (M.small_take hms k)
  rw [List.length_take, Nat.min_eq_left (by rw [hsl.out]; omega)] at hl1
  rw [List.length_take, Nat.min_eq_left (by omega)] at hl2
  obtain ⟨t, ht⟩ : ∃ t, t = (x2 * 1000000000000000000 + x1 * 1000000000 + x0) / (y1 * 1000000000 + y0) := ⟨_, rfl⟩
  obtain ⟨q, hq⟩ : ∃ q, q = M.val s / M.val m := ⟨_, rfl⟩
  rw [hX] at hVs
  rw [hY] at hVm
  obtain ⟨hqt, htq, htB, hxy⟩ := M.guess_ok hVs hVm hl1 hl2 (by omega) hlt.out hq ht
  have hbpos : 0 < M.val m := M.val_pos (by intro e; rw [e] at hn; simp at hn) hml
  have hbP : M.val m ≤ 1000000000 ^ s.length := by
    have h3 := M.val_lt hms
    have h4 : 1000000000 ^ m.length ≤ 1000000000 ^ s.length := Nat.pow_le_pow_right (by omega) (by rw [hsl.out]; omega)
    exact Nat.le_trans (Nat.le_of_lt h3) h4
  have hG := guess_any w g o k cp c' ad x0 x1 x2 y0 y1 (by omega) (by omega) hcp hc' (by omega) (by unfold maxLen at hm'; omega)
    (by have := HBL.out.cell (i := o + k) (x := x0) (by rw [M.mid_get ho.out (by rw [hsl.out]; omega)]; exact e0); exact this)
    (by have := HBL.out.cell (i := o + (k + 1)) (x := x1) (by rw [M.mid_get ho.out (by rw [hsl.out]; omega)]; exact e1); exact this)
    (by have := HBL.out.cell (i := o + (k + 2)) (x := x2) (by rw [M.mid_get ho.out (by rw [hsl.out]; omega)]; exact e2); exact this)
    (hcells k y0 f0) (by rw [add_next]; exact hcells (k + 1) y1 f1) (by omega) (by omega) (by omega) (by omega) (by omega) hy1 hxy
  rw [← ht] at hG
  have HGG := hid hG
  have HQT := hid (And.intro hqt htq)
  have HT := hid (show (t : Int) ≤ 1000000000 by omega)
  have HQ := hid hq
  have HBP := hid (And.intro hbpos hbP)
  have HMS := hid hms
  clear hn hn' hc' hm' hs' hr' had hcells hml hss' hms' e0 e1 e2 f0 f1 h0 h1 h2 g0 g1 hy1 hX hY hVs hVm hl1 hl2 ht hq hqt htq htB hxy hbpos hbP hG hms hblk
  unfold Digit
  rw [← HQ.out]
  go_enter Try.func88, Try.ntmps88
  go_wp2_with fail
  refine HGG.out.mono ?_
  rintro e w' ⟨rfl, d, rfl⟩
  have hbd := below_drewN (Below.refl C w) d
  have HO1 := hid ((Only.refl g w).drewN d)
  have ht9 := HT.out
  go_wp2_with fail
  refine (takeAway_any (w.drewN d) g o (k + 2) cp t _ m pre s post (HV.out.keep hbd (Nat.le_refl _)) hC HMS.out HN.out (by omega) (by omega) HT.out HBL.out ho.out hsl.out hss.out).mono ?_
  rintro e w2 ⟨s1, c, rfl, hb1, hl1, hs1, hv1, ho1⟩
  have HB1 := hid hb1
  have HL1 := hid hl1
  have HS1 := hid hs1
  have HV1 := hid hv1
  have HO2 := hid (HO1.out.trans ho1)
  have hbC : Below C w w2 := HO2.out.below hC HBL.out.lt
  have HVW := hid (HV.out.keep hbC (Nat.le_refl _))
  clear hb1 hl1 hs1 hv1 ho1 hbd hbC
  by_cases hc0 : 0 < c
  · have hcd : decide (0 < c) = true := by simpa using hc0
    have HC := hid hc0
    clear hc0
    go_wp2_with fail
    refine (putBack_any w2 g o (k + 2) cp _ m pre s1 post HVW.out hC HMS.out HN.out (by omega) (by omega) HB1.out ho.out (HL1.out.trans hsl.out) HS1.out).mono ?_
    rintro e w3 ⟨s2, c2, rfl, hb2, hl2, hs2, hc2, hv2, ho2⟩
    have hfin := M.digit_one HV1.out HC.out (by have := M.val_lt HS1.out; rwa [HL1.out] at this) HQT.out.2 HQT.out.1 HQ.out HBP.out.1 HBP.out.2 (by rw [← HL1.out]; exact hv2) (by have := M.val_lt hs2; rwa [hl2, HL1.out] at this) hc2
    have HF := hid hfin
    have HB2 := hid hb2
    have HS2 := hid hs2
    have HL2 := hid (hl2.trans HL1.out)
    have HO3 := hid (HO2.out.trans ho2)
    have hq9 : (q : Int) ≤ 1000000000 := by omega
    have htq1 : (t : Int) - 1 = (q : Int) := by omega
    clear hfin hb2 hs2 hl2 hc2 hv2 ho2
    go_wp2
    go_ret
    exact ⟨s2, rfl, HB2.out, HL2.out, HS2.out, HF.out.2, HO3.out⟩
  · have hcd : decide (0 < c) = false := by simpa using hc0
    obtain rfl : c = 0 := by omega
    have hfin := M.digit_zero (by have := HV1.out; rwa [Nat.mul_zero, Nat.add_zero] at this) HQ.out HQT.out.1 HBP.out.1
    have HF := hid hfin
    obtain rfl : t = q := hfin.1
    clear hfin hc0
    go_wp2
    go_ret
    exact ⟨s1, rfl, HB1.out, HL1.out, HS1.out, HF.out.2, HO2.out⟩
end Go.Proofs.Ytljjijcmoafndaa
