/-
  Layer 10, mathematics: products and quotients of two terms: what is told of them.
-/
import Derived.Test.YtaoboilkpgphaaaDoorKLSoundM
import Derived.Test.YtaoboilkpgphaaaDoorJKC
namespace Go.Proofs.YtaoboilkpgphaaaDoor.Q
set_option linter.unusedSimpArgs false
set_option linter.unusedVariables false
namespace M
/-- The term of a name without kids. -/
def xI : Tm := .mk 4 false [] [120] 2 []
/-- A number's negative. -/
def numN (Z : Int) : Tm := .mk 14 false [] [] 2 [knumT Z]
def kNo (t : Tm) (c : Nat) : Prop := kIs t = true ∧ t.sort = 2 ∧ kcnt t ≤ c
theorem kmake_two {op : Int} (ho : op = 15 ∨ op = 16 ∨ op = 17) {a b : Tm} (ha : kNo a 120) (hb : kNo b 120) : (kmake op [a, b]).2 = klin op [a, b] := by
 obtain ⟨a1, a2, a3⟩ := ha
 obtain ⟨b1, b2, b3⟩ := hb
 have h1 : ¬ (op < 5 ∨ 22 < op) := by omega
 have h2 : kargs op [a, b].length = true := by
  unfold kargs
  rw [if_neg (by omega), if_pos (by omega)]
  rfl
 have h3 : kIss [a, b] = true := by unfold kIss; simp [a1, b1]
 have h4 : kcheck op [a, b] = klin op [a, b] := by
  unfold kcheck
  have hs : ksorted op [a, b] = true := by
   unfold ksorted
   rw [if_neg (by omega), if_neg (by omega), if_neg (by omega)]
   unfold kall; simp [a2, b2]
  rw [if_neg (by rw [hs]; decide)]
  by_cases hl : klin op [a, b] = 0
  ·rw [if_neg (by simpa using hl), if_neg (by simp [kcnts]; omega), hl]
  ·rw [if_pos hl]
 unfold kmake
 rw [if_neg h1, if_neg (by rw [h2]; decide), if_neg (by rw [h3]; decide), h4]
 by_cases hl : klin op [a, b] = 0
 ·rw [if_neg (by simpa using hl), hl]
 ·rw [if_pos hl]
theorem isZ_limbs (Z : Int) : M.isZ (decide (Z < 0)) (M.limbs Z.natAbs) = true := M.isZ_of Z
theorem zv_limbs (Z : Int) : M.zv (decide (Z < 0)) (M.limbs Z.natAbs) = Z := M.zv_of Z
theorem knumT_is (Z : Int) : kNo (knumT Z) 1 := by
 refine ⟨?_, rfl, by simp [knumT, kcnt, kcnts]⟩
 unfold kIs knumT
 rw [kis, Bool.and_eq_true]
 refine ⟨by simp [kcnt, kcnts], ?_⟩
 unfold khead
 rw [if_pos rfl, isZ_limbs]
 rfl
theorem knumT_num (Z : Int) : knum (knumT Z) = some Z := by
 unfold knum
 rw [if_pos (show (knumT Z).op = 1 from rfl)]
 show some (M.zv (decide (Z < 0)) (M.limbs Z.natAbs)) = some Z
 rw [zv_limbs]
theorem numN_make (Z : Int) : kmake 14 [knumT Z] = (numN Z, 0) := by
 obtain ⟨h1, h2, h3⟩ := knumT_is Z
 unfold kmake
 have hs : ksorted 14 [knumT Z] = true := by unfold ksorted kall; simp [h2]
 have hi : kIss [knumT Z] = true := by unfold kIss; simp [h1]
 have hc : kcheck 14 [knumT Z] = 0 := by
  unfold kcheck
  rw [hs, if_neg (by decide)]
  have : klin 14 [knumT Z] = 0 := rfl
  rw [this, if_neg (by decide), if_neg (by simp [kcnts]; omega)]
 rw [if_neg (by decide), if_neg (show ¬ kargs 14 [knumT Z].length = false by show ¬ kargs 14 1 = false; decide), hi, if_neg (by decide), hc, if_neg (by decide)]
 rfl
theorem numN_is (Z : Int) : kNo (numN Z) 2 := by
 have h := kmake_ok (op := 14) (l := [knumT Z]) (by rw [numN_make])
 refine ⟨?_, rfl, by simp [numN, knumT, kcnt, kcnts]⟩
 have := kIs_made h.2.1 h.2.2.1 h.2.2.2.1 h.2.2.2.2
 exact this
theorem numN_num (Z : Int) : knum (numN Z) = some (-Z) := by
 unfold knum
 rw [if_neg (show ¬ (numN Z).op = 1 by show ¬ (14 : Int) = 1; decide), if_pos (show (numN Z).op = 14 from rfl)]
 show (if (knumT Z).op = 1 then some (-(knumT Z).zv) else none) = _
 rw [if_pos (show (knumT Z).op = 1 from rfl)]
 show some (-(M.zv (decide (Z < 0)) (M.limbs Z.natAbs))) = _
 rw [zv_limbs]
theorem xI_is : kNo xI 1 := by
 refine ⟨?_, rfl, by simp [xI, kcnt, kcnts]⟩
 unfold kIs
 rw [Bool.and_eq_true]
 refine ⟨by simp [xI, kcnt, kcnts], ?_⟩
 decide
theorem xI_num : knum xI = none := rfl
theorem kNo.le {t : Tm} {c d : Nat} (h : kNo t c) (hc : c ≤ d) : kNo t d := ⟨h.1, h.2.1, Nat.le_trans h.2.2 hc⟩
theorem code_mul {k t : Tm} {z : Int} (hk : kNo k 2) (ht : kNo t 120) (hz : knum k = some z) : (kmake 15 [k, t]).2 = 0 ∧ (kmake 15 [t, k]).2 = 0 := by
 rw [kmake_two (.inl rfl) (hk.le (by omega)) ht, kmake_two (.inl rfl) ht (hk.le (by omega))]
 constructor
 ·show (if (knum k).isNone && (knum t).isNone then (19 : Int) else 0) = 0
  rw [hz]; rfl
 ·show (if (knum t).isNone && (knum k).isNone then (19 : Int) else 0) = 0
  rw [hz, if_neg (by simp)]
theorem code_x {t : Tm} (ht : kNo t 120) : (kmake 15 [xI, t]).2 = if (knum t).isSome = true then 0 else 19 := by
 rw [kmake_two (.inl rfl) (xI_is.le (by omega)) ht]
 show (if (knum xI).isNone && (knum t).isNone then (19 : Int) else 0) = _
 rw [xI_num]
 cases knum t <;> rfl
theorem code_div {k t : Tm} {z : Int} (hk : kNo k 2) (ht : kNo t 120) (hz : knum k = some z) : (kmake 16 [t, k]).2 = if z = 0 then 12 else 0 := by
 rw [kmake_two (.inr (.inl rfl)) ht (hk.le (by omega))]
 show (match knum k with | none => (19 : Int) | some z => if z = 0 then 12 else 0) = _
 rw [hz]
theorem code_mod {t : Tm} (ht : kNo t 120) : (kmake 17 [t, xI]).2 = 19 := by
 rw [kmake_two (.inr (.inr rfl)) ht (xI_is.le (by omega))]
 rfl
end M
end Go.Proofs.YtaoboilkpgphaaaDoor.Q
