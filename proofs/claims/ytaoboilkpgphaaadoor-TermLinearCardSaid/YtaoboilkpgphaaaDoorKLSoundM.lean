/-
  Layer 10, mathematics: what is made is a term; spoilt it is none.
-/
import Derived.Test.YtaoboilkpgphaaaDoorJTB
namespace Go.Proofs.YtaoboilkpgphaaaDoor.Q
set_option linter.unusedSimpArgs false
set_option linter.unusedVariables false
namespace M
theorem kmake_ne {op : Int} {l : List Tm} (h : (kmake op l).2 ≠ 0) : (kmake op l).1 = K0 := by
 unfold kmake at h ⊢
 repeat' split
 all_goals first | rfl | skip
 rename_i h1 h2 h3 h4
 rw [if_neg h1, if_neg h2, if_neg h3, if_neg h4] at h
 exact absurd rfl h
theorem kmake_ok {op : Int} {l : List Tm} (h : (kmake op l).2 = 0) : kmake op l = (.mk op false [] [] (kres op l) l, 0) ∧ (5 ≤ op ∧ op ≤ 22) ∧ kargs op l.length = true ∧ kIss l = true ∧ kcheck op l = 0 := by
 unfold kmake at h ⊢
 by_cases h1 : op < 5 ∨ 22 < op
 ·rw [if_pos h1] at h; exact absurd h (by decide)
 by_cases h2 : kargs op l.length = false
 ·rw [if_neg h1, if_pos h2] at h; exact absurd h (by decide)
 by_cases h3 : kIss l = false
 ·rw [if_neg h1, if_neg h2, if_pos h3] at h; exact absurd h (by decide)
 by_cases h4 : kcheck op l ≠ 0
 ·rw [if_neg h1, if_neg h2, if_neg h3, if_pos h4] at h; exact absurd h h4
 rw [if_neg h1, if_neg h2, if_neg h3, if_neg h4]
 exact ⟨rfl, by omega, by simpa using h2, by simpa using h3, by simpa using h4⟩
theorem kIss_kiss : ∀ {l : List Tm}, kIss l = true → kiss l = true
 | [], _ => rfl
 | t :: r, h => by
  unfold kIss at h
  rw [List.all_cons, Bool.and_eq_true] at h
  have h1 := h.1
  unfold kIs at h1
  rw [Bool.and_eq_true] at h1
  rw [kiss, h1.2, kIss_kiss (l := r) h.2]; rfl
theorem kcheck_cnt {op : Int} {l : List Tm} (h : kcheck op l = 0) : kcnts l ≤ 399 := by
 unfold kcheck at h
 split at h
 ·exact absurd h (by decide)
 split at h
 ·rename_i h1; exact absurd h h1
 split at h
 ·exact absurd h (by decide)
 ·omega
theorem khead_made {op : Int} (ho : 5 ≤ op ∧ op ≤ 22) (g : Bool) (ls : List Nat) (nm : List UInt8) (s : Int) (l : List Tm) : khead op g ls nm s l = ((M.isZ g ls && decide (M.zv g ls = 0)) && (nm.isEmpty && (decide (5 ≤ op ∧ op ≤ 22) && (kargs op l.length && (decide (kcheck op l = 0) && decide (s = kres op l)))))) := by
 unfold khead
 rw [if_neg (by omega), if_neg (by omega), if_neg (by omega)]
theorem kIs_made {op : Int} {l : List Tm} (ho : 5 ≤ op ∧ op ≤ 22) (ha : kargs op l.length = true) (hi : kIss l = true) (hc : kcheck op l = 0) : kIs (.mk op false [] [] (kres op l) l) = true := by
 have h1 := kcheck_cnt hc
 unfold kIs
 rw [Bool.and_eq_true, decide_eq_true_iff, kcnt, kis, khead_made ho, kIss_kiss hi, ha, hc]
 refine ⟨by omega, ?_⟩
 simp [ho, nil0_eq]
theorem kres_or {op : Int} {l : List Tm} (ha : kargs op l.length = true) (hi : kIss l = true) : kres op l = 1 ∨ kres op l = 2 := by
 unfold kres
 split
 ·exact .inr rfl
 split
 ·rename_i h12
  subst h12
  have h3 : l.length = 3 := by
   unfold kargs at ha
   simpa using ha
  match l, h3 with
  | [x, y, z], _ =>
   show y.sort = 1 ∨ y.sort = 2
   have := kIss_kiss hi
   simp only [kiss, Bool.and_eq_true] at this
   exact kis_sort y this.2.1
 ·exact .inl rfl
theorem kIs_false {op : Int} {g : Bool} {ls : List Nat} {nm : List UInt8} {s : Int} {l : List Tm} (h : khead op g ls nm s l = false ∨ kiss l = false) : kIs (.mk op g ls nm s l) = false := by
 unfold kIs
 rw [kis]
 rcases h with h | h <;> simp [h]
theorem spoilt_sort {op : Int} {l : List Tm} (ho : 5 ≤ op ∧ op ≤ 22) {s : Int} (hs : s = kres op l) (h12 : s = 1 ∨ s = 2) : kIs (.mk op false [] [] (3 - s) l) = false := by
 refine kIs_false (.inl ?_)
 rw [khead_made ho, ← hs, decide_eq_false (show ¬ (3 - s = s) by omega)]
 simp
theorem spoilt_name {op : Int} {l : List Tm} (ho : 5 ≤ op ∧ op ≤ 22) {s : Int} {c : UInt8} {r : List UInt8} : kIs (.mk op false [] (c :: r) s l) = false := by
 refine kIs_false (.inl ?_)
 rw [khead_made ho]
 simp
theorem spoilt_N {op : Int} {l : List Tm} (ho : 5 ≤ op ∧ op ≤ 22) {s : Int} {g : Bool} {ls : List Nat} (hz : M.zv g ls ≠ 0) : kIs (.mk op g ls [] s l) = false := by
 refine kIs_false (.inl ?_)
 rw [khead_made ho, decide_eq_false hz]
 simp
theorem kis_K0 : kis K0 = false := by rw [K0, kis]; simp [khead]
theorem spoilt_kids {op : Int} {g : Bool} {ls : List Nat} {nm : List UInt8} {l : List Tm} {s : Int} : kIs (.mk op g ls nm s (l ++ [K0])) = false := by
 refine kIs_false (.inr ?_)
 rw [kiss_app, kiss, kis_K0]; simp
theorem ksame_ne {t u : Tm} (h : t ≠ u) : ksame t u = false := by
 rcases hq : ksame t u with _ | _
 ·rfl
 ·exact absurd ((ksame_iff t u).1 hq) h
end M
end Go.Proofs.YtaoboilkpgphaaaDoor.Q
