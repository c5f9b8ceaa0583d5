/-
  Contract: the sum of however many naturals; two naturals together.
-/
import Derived.Test.YtljjijcmoafndaaCmp
namespace Go.Proofs.Ytljjijcmoafndaa
set_option linter.unusedSimpArgs false
set_option linter.unusedVariables false
open Go.RowKit

/-- The rows that a variadic call was handed: block g holds them one behind the other. -/
def Many (w : World) (C g : Nat) (ls : List (List Nat)) : Prop := g < C ∧ ∀ (j : Nat) l, ls[j]? = some l → ∃ v, w.cell? ⟨g, j, none⟩ = some v ∧ Num w C v l
theorem Many.keep {w w' : World} {C g : Nat} {ls : List (List Nat)} (h : Many w C g ls) (hb : Below C w w') : Many w' C g ls :=
  ⟨h.1, fun j l hl => by
    obtain ⟨v, h1, h2⟩ := h.2 j l hl
    exact ⟨v, by rw [hb.cell (p := ⟨g, j, none⟩) h.1]; exact h1, h2.keep hb (Nat.le_refl _)⟩⟩
theorem Many.get {w : World} {C g : Nat} {ls : List (List Nat)} (h : Many w C g ls) {j : Nat} (hj : j < ls.length) :
    ∃ l A n c, Hid (ls[j]? = some l) ∧ w.cell? ⟨g, j, none⟩ = some (.slice A n c) ∧ Hid (n = l.length) ∧ Hid (n ≤ maxLen) ∧ Hid (∀ x ∈ l, x < 4294967296) ∧ Hid (Row w C A l) := by
  obtain ⟨v, h1, A, n, c, rfl, hn, hc, hm, hs, hr⟩ := h.2 j _ (List.getElem?_eq_getElem hj)
  exact ⟨_, A, n, c, List.getElem?_eq_getElem hj, h1, hn, by unfold Hid; omega, hs, hr⟩

theorem sum_any (w : World) (g r : Nat) (ls : List (List Nat)) {C : Nat} (hr : Hid (r = ls.length)) (hr1 : r ≤ 1000) (hC : Hid (C ≤ w.heap.size)) (hm : Hid (Many w C g ls))
    (hl : Hid (M.longest ls ≤ 100000000)) (hs : Hid (∀ l ∈ ls, l.getLast? ≠ some 0)) (hK : Hid ((M.limbs (M.tot ls 0)).length ≤ 900000000)) :
    Calls Try.prog 83 #[.slice (some ⟨g, 0, none⟩) r r] w (Gives w (M.limbs (M.tot ls 0))) := by
  go_enter Try.func83, Try.ntmps83
  go_wp2
  go_loop [3, 13] (fun s j => ∃ k m : Nat, k ≤ r ∧ j = .int .i64 k ∧ s = .int .i64 m ∧ m = M.longest (ls.take k)) (fun _ j => r - (intOf j).toNat)
  case atStart => exact ⟨0, 0, Nat.zero_le _, rfl, rfl, rfl⟩
  case round =>
    obtain ⟨k, m, hk, rfl, rfl, hmm⟩ := hrel
    have HMM := hid hmm
    have hm9 : m ≤ 100000000 := by rw [hmm]; exact Nat.le_trans (M.longest_take_le _ _) hl.out
    clear hmm
    by_cases hlt : k < r
    · obtain ⟨l, A, n, c, HL, hcell, HN, HM, HS, HR⟩ := hm.out.get (j := k) (by rw [← hr.out]; exact hlt)
      have hn9 : n ≤ 9223372036854775807 := by have := HM.out; unfold maxLen at this; omega
      go_wp2
      go_round
      case rel =>
        refine ⟨k + 1, max m n, by omega, by go_num, ?_, ?_⟩
        · split <;> congr 1 <;> omega
        · rw [M.longest_take HL.out, ← HMM.out, HN.out]
      case measure => simp [intOf]; all_goals omega
    · have hmk : ∀ W : World, (Instr.makeSlice 22 (.int .i64 0) (.int .i64 ((m : Int) + 1))).run Try.prog W = .ok (.slice (some ⟨W.heap.size, 0, none⟩) 0 (m + 1)) (W.alloc (.cells (zeros (m + 1)) 56)) :=
        make_u32 _ _ 0 _ 0 (m + 1) rfl (by omega) (by omega) (by omega)
      have HM2 : Hid (m = M.longest ls) := by
        have := HMM.out
        rwa [List.take_of_length_le (by have := hr.out; omega)] at this
      clear HMM
      go_wp2
      clear hmk
      go_loopw [6, 7, 8] (fun v cr i wr => ∃ (xs : List Nat) (c j : Nat), i = .int .i64 (j : Int) ∧ cr = .int .u64 (c : Int) ∧ c ≤ 10000 ∧ j = xs.length ∧ Own w.heap.size wr v xs ∧ Below w.heap.size w wr ∧
          M.limbs (M.tot ls 0) = xs ++ M.limbs (c + M.tot ls j)) (fun _ cr i _ => (m - (intOf i).toNat) * 100000 + (intOf cr).toNat)
      case atStart => exact ⟨[], 0, 0, rfl, rfl, by omega, rfl, Own.made w _ _ _ (Nat.le_refl _) (by unfold maxLen; omega) (zeros_size _), (Below.refl _ _).alloc (Nat.le_refl _) _, by simp⟩
      case round =>
        obtain ⟨xs, c, j, rfl, rfl, hc, hj, hown, hbel, he⟩ := hrel
        have HJ := hid hj
        have HO := hid hown
        have HB := hid hbel
        have HE := hid he
        clear hj hown hbel he
        by_cases hgo : j < m ∨ 0 < c
        · have hsplit : j < m ∨ (¬ j < m ∧ 0 < c) := by omega
          clear hgo
          have HT : Hid (0 < c + M.tot ls j) := by
            rcases hsplit with h | h
            · have := M.tot_pos hs.out (i := j) (by have := HM2.out; omega)
              unfold Hid; omega
            · unfold Hid; omega
          have hj9 : j ≤ 900000000 := by
            have h1 := hK.out
            rw [HE.out, M.limbs_pos (by have := HT.out; omega), List.length_append, ← HJ.out] at h1
            omega
          have HMW := hid (hm.out.keep (HB.out.mono hC.out))
          have HCL := hid (M.col_take_le (ls := ls) (fun l hl x hx => by
            obtain ⟨t, ht, rfl⟩ := List.mem_iff_getElem.1 hl
            obtain ⟨v, _, A, n, c, rfl, hn, _, _, hs, _⟩ := hm.out.2 t _ (List.getElem?_eq_getElem ht)
            exact hs x hx))
          obtain ⟨wo, rfl⟩ : ∃ wo : World, wo = wr := ⟨_, rfl⟩
          rcases hsplit with h1 | ⟨h1, h2⟩
          all_goals
            go_wp2
            go_loop [7, 36] (fun cr t => ∃ (q k2 : Nat), q ≤ r ∧ t = .int .i64 (q : Int) ∧ cr = .int .u64 (k2 : Int) ∧ k2 = c + M.col (ls.take q) j) (fun _ t => r - (intOf t).toNat)
            case atStart => exact ⟨0, c, Nat.zero_le _, rfl, rfl, by simp [M.col]⟩
            case round =>
              obtain ⟨q, k2, hq, rfl, rfl, hk2⟩ := hrel
              have HK2 := hid hk2
              have hk9 : k2 ≤ 5000000000000 := by
                have h1 := HCL.out q j
                have h2 := hr.out
                rw [← h2] at h1
                have h3 : r * 4294967295 ≤ 1000 * 4294967295 := Nat.mul_le_mul_right _ hr1
                omega
              clear hk2
              by_cases hlt2 : q < r
              · obtain ⟨l, A, n, c', HL, hcell, HN, HMX, HS, HR⟩ := HMW.out.get (j := q) (by rw [← hr.out]; exact hlt2)
                have hn9 : n ≤ 9223372036854775807 := by have := HMX.out; unfold maxLen at this; omega
                by_cases hjn : j < n
                · obtain ⟨ad, x, rfl, _, HX, hcx⟩ := HR.out.get (k := j) (by rw [← HN.out]; exact hjn)
                  have hx9 := HS.out x (List.mem_of_getElem? HX.out)
                  go_wp2
                  go_round
                  case rel =>
                    refine ⟨q + 1, k2 + x, by omega, by go_num, by go_num, ?_⟩
                    rw [M.col_take HL.out, HK2.out, List.getD_eq_getElem?_getD, HX.out]
                    simp [Nat.add_assoc]
                  case measure => simp [intOf]; all_goals omega
                · go_wp2
                  go_round
                  case rel =>
                    refine ⟨q + 1, k2, by omega, by go_num, rfl, ?_⟩
                    rw [M.col_take HL.out, HK2.out, List.getD_eq_getElem?_getD, List.getElem?_eq_none (by rw [← HN.out]; omega)]
                    simp
                  case measure => simp [intOf]; all_goals omega
              · have hqr : q = r := by omega
                subst hqr
                have HK3 : Hid (k2 = c + M.col ls j) := by
                  have := HK2.out
                  rwa [List.take_of_length_le (by rw [← hr.out]; exact Nat.le_refl _)] at this
                go_wp2_with (at_builtin; go_loud (refine wpList_app1 rfl (.tmp 52) (.tmp 56) rfl w.heap.size _ xs rfl (HO.out.alloc _) wo.heap.size (k2 % 1000000000) rfl (by simp [go_sem]) (by omega) (by have := HJ.out; omega) (by have := HB.out.size; simp; omega) ?_))
                intro v' w' hown' hgrow
                have HO' := hid hown'
                have HG := hid hgrow
                have HD := hid (M.tot_step ls j)
                have HZ : Hid (¬ j < m → M.tot ls j = 0) := fun h => M.tot_done (by have := HM2.out; omega)
                clear hown' hgrow
                go_wp2
                go_roundw
                case rel =>
                  refine ⟨xs ++ [k2 % 1000000000], k2 / 1000000000, j + 1, by go_num, by go_num, by omega, by rw [List.length_append, ← HJ.out]; rfl, HO'.out, ?_, M.sum_step HE.out HT.out HK3.out⟩
                  have hz := HB.out.size
                  exact (HB.out.alloc (by omega) _).trans ((HO.out.alloc _).below HG.out (Nat.le_refl _) (by simp; omega))
                case measure =>
                  have a1 := HK3.out
                  have a2 := HD.out
                  have a3 := HZ.out
                  simp [intOf]
                  omega
        · have h1 : ¬ j < m := by omega
          have h2 : c = 0 := by omega
          subst h2
          clear hgo
          go_wp2
          go_ret
          refine ⟨_, rfl, ?_, HB.out⟩
          have h3 := HE.out
          rw [M.tot_done (i := j) (by have := HM2.out; omega), Nat.add_zero, M.limbs_zero, List.append_nil] at h3
          rw [h3]
          exact HO.out.num

theorem many2 {w : World} {C : Nat} {u v : Value} {l m : List Nat} (hu : Num w C u l) (hv : Num w C v m) (hC : C ≤ w.heap.size) (t : TypeId) :
    Many (w.alloc (.cells #[u, v] t)) (w.heap.size + 1) w.heap.size [l, m] := by
  have hb : Below C w (w.alloc (.cells #[u, v] t)) := (Below.refl _ _).alloc hC _
  refine ⟨by omega, fun j x hj => ?_⟩
  match j, hj with
  | 0, hj => simp at hj; subst hj; exact ⟨u, by rw [World.cell?_alloc_at _ _ _ _ rfl]; rfl, hu.keep hb (by omega)⟩
  | 1, hj => simp at hj; subst hj; exact ⟨v, by rw [World.cell?_alloc_at _ _ _ _ rfl]; rfl, hv.keep hb (by omega)⟩

theorem longest2 (l m : List Nat) : M.longest [l, m] = max l.length m.length := by simp [M.longest]
theorem last2 {l m : List Nat} (hl : l.getLast? ≠ some 0) (hm : m.getLast? ≠ some 0) : ∀ x ∈ [l, m], x.getLast? ≠ some 0 := by
  intro x hx; simp at hx; rcases hx with rfl | rfl <;> assumption
theorem len2 (l m : List Nat) : (M.limbs (M.nv l + M.nv m)).length ≤ max l.length m.length + 1 := M.limbs_add_length _ _ (M.nv_lt l) (M.nv_lt m)

theorem add_any (w : World) (u v : Value) (l m : List Nat) (hu : Num w w.heap.size u l) (hv : Num w w.heap.size v m) (hl : Hid (l.length ≤ 100000000)) (hm : Hid (m.length ≤ 100000000)) :
    Calls Try.prog 73 #[u, v] w (Gives w (M.limbs (M.nv l + M.nv m))) := by
  have HU := hid hu
  have HV := hid hv
  clear hu hv
  go_enter Try.func73, Try.ntmps73
  go_wp2_with fail
  refine (natural_any w u l HU.out).mono ?_
  rintro e w' ⟨⟨u', rfl, hu'⟩, rfl⟩
  have HU' := hid hu'
  clear hu'
  go_wp2_with fail
  refine (natural_any w v m HV.out).mono ?_
  rintro e w' ⟨⟨v', rfl, hv'⟩, rfl⟩
  have HV' := hid hv'
  clear hv'
  have HM := hid (many2 HU'.out HV'.out (Nat.le_refl _) 22)
  obtain ⟨A, n, c, rfl⟩ := HU'.out.slice
  obtain ⟨A', n', c', rfl⟩ := HV'.out.slice
  go_wp2_with fail
  have e : M.tot [M.nat l, M.nat m] 0 = M.nv l + M.nv m := by rw [M.tot_two, M.val_nat, M.val_nat]
  have h1 := M.nat_length l
  have h2 := M.nat_length m
  refine (sum_any _ _ 2 [M.nat l, M.nat m] (C := w.heap.size + 1) rfl (by omega) (by unfold Hid; simp) HM
    (by unfold Hid; rw [longest2]; have := hl.out; have := hm.out; omega) (last2 (M.last_nat l) (M.last_nat m)) (by unfold Hid; rw [e]; have := len2 l m; have := hl.out; have := hm.out; omega)).mono ?_
  rw [e]
  rintro e w' ⟨v, rfl, hv, hb⟩
  have HV2 := hid hv
  have HB := hid hb
  clear hv hb
  go_wp2
  go_ret
  exact ⟨_, rfl, HV2.out, ((Below.refl _ _).alloc (Nat.le_refl _) _).trans (HB.out.mono (by simp))⟩
end Go.Proofs.Ytljjijcmoafndaa
