/-
  The reference's numerals.
-/
import Derived.Test.YthlafkbldlmmaaaDoorTText
import Derived.Test.YthlafkbldlmmaaaDoorTRow
namespace Go.Proofs.YthlafkbldlmmaaaDoor
open Go.RowKit
set_option linter.unusedSimpArgs false
set_option linter.unusedVariables false
namespace M
theorem numeral_all' {l : List UInt8} (h : numeral l = true) : l.all digit = true := by
  cases l with
  | nil => rfl
  | cons b r =>
    by_cases hb : b.toNat = 48
    · simp only [numeral, if_pos hb] at h
      have : r = [] := by simpa using h
      subst this
      simp [digit, hb]
    · simp only [numeral, if_neg hb] at h; exact h
theorem numeral_none {l : List UInt8} (h : l.all digit = false) : numeral l = false := by
  rw [Bool.eq_false_iff]; intro hn; rw [numeral_all' hn] at h; cases h
theorem numeral_end (b : UInt8) (r : List UInt8) (h : (b :: r).all digit = true) : numeral (b :: r) = ((b :: r) == [48] || !(b == 48)) := by
  by_cases hb : b = 48
  · subst hb
    cases r with
    | nil => rfl
    | cons c q => rfl
  · have h2 : b.toNat ≠ 48 := fun e => hb (UInt8.toNat_inj.1 e)
    simp only [numeral, if_neg h2]
    rw [h]
    simp [hb]
end M
set_option maxHeartbeats 1000000 in
theorem rNumeral_p (b : UInt8) (r : List UInt8) (w : World) (hr : r.length ≤ 1000000000000) : Calls Tryd.prog 16 #[str (b :: r)] w fun e w' => e = .returned (.bool (M.numeral (b :: r))) ∧ w' = w := by
  obtain ⟨l, hl⟩ : ∃ l, l = b :: r := ⟨_, rfl⟩
  obtain ⟨n, hn⟩ : ∃ n, n = l.length := ⟨_, rfl⟩
  have hn9 : n ≤ 1000000000001 := by rw [hn, hl]; simp; omega
  have hn0 : 0 < n := by rw [hn, hl]; simp
  have hsz : ((r.length : Int) + 1) = (n : Int) := by rw [hn, hl]; simp
  obtain ⟨v, hv⟩ : ∃ v, v = M.numeral l := ⟨_, rfl⟩
  rw [show M.numeral (b :: r) = v by rw [hv, hl]]
  have HL := hid hl
  have HN := hid hn
  have HV := hid hv
  clear hl hn hr hv
  go_enter Tryd.func16, Tryd.ntmps16
  go_wp2
  go_loop [3] (fun i => ∃ k : Nat, k ≤ n ∧ i = .int .i64 (k : Int) ∧ Hid ((l.take k).all M.digit = true)) (fun i => n - (intOf i).toNat)
  case atStart => exact ⟨0, Nat.zero_le _, rfl, rfl⟩
  case round =>
    obtain ⟨k, hk, rfl, ht⟩ := hrel
    rcases Nat.lt_or_ge k n with hlt | hge
    · obtain ⟨c, hc⟩ : ∃ c, l[k]? = some c := ⟨_, List.getElem?_eq_getElem (by rw [← HN.out]; exact hlt)⟩
      have HC := hid hc
      have hidx := idx_str 9 Tryd.underlying9 (b :: r) k c rfl (by rw [← HL.out]; exact hc)
      have hlt' : (k : Int) < (n : Int) := by omega
      clear hc
      rcases (by omega : c.toNat < 48 ∨ 57 < c.toNat ∨ (48 ≤ c.toNat ∧ c.toNat ≤ 57)) with h | h | h
      · have h1 : ((c.toNat : Int) < 48) := by omega
        go_wp2
        go_ret
        have hv' := HV.out.trans (M.numeral_none (all_no HC.out (by unfold M.digit; simp; omega)))
        rw [hv']
        exact ⟨rfl, rfl⟩
      · have h1 : decide ((c.toNat : Int) < 48) = false := by simp; omega
        have h2 : (57 < (c.toNat : Int)) := by omega
        go_wp2
        go_ret
        have hv' := HV.out.trans (M.numeral_none (all_no HC.out (by unfold M.digit; simp; omega)))
        rw [hv']
        exact ⟨rfl, rfl⟩
      · have h1 : decide ((c.toNat : Int) < 48) = false := by simp; omega
        have h2 : decide (57 < (c.toNat : Int)) = false := by simp; omega
        have HH := hid h
        clear h
        go_wp2
        go_round
        case rel => exact ⟨k + 1, by omega, by simp, all_take HC.out ht.out (by have := HH.out; unfold M.digit; simp; omega)⟩
        case measure => simp [intOf]; all_goals omega
    · obtain rfl : k = n := by omega
      have hidx := idx_str 9 Tryd.underlying9 (b :: r) 0 b (z := 0) rfl rfl
      have ha := ht.out
      rw [HN.out, List.take_length, HL.out] at ha
      have hv' := HV.out.trans ((congrArg M.numeral HL.out).trans (M.numeral_end b r ha))
      have HE := hid hv'
      have hpos : (0 : Int) < (k : Int) := by omega
      clear hv' ha
      obtain ⟨z1, hz1⟩ : ∃ z1 : Bool, ((b :: r) == [48]) = z1 := ⟨_, rfl⟩
      obtain ⟨z2, hz2⟩ : ∃ z2 : Bool, (b == 48) = z2 := ⟨_, rfl⟩
      rw [hz1, hz2] at HE
      have hz3 : ((b.toNat : Int) == 48) = z2 := by
        rw [← hz2, Bool.eq_iff_iff]; simp only [beq_iff_eq]
        constructor
        · intro h; exact UInt8.toNat_inj.1 (by simpa using (by omega : b.toNat = 48))
        · intro h; subst h; rfl
      have hz4 : (b == 48 && r == []) = z1 := by rw [← hz1]; rfl
      have hz5 : ((b.toNat : Int) != 48) = !z2 := by rw [← hz3]; rfl
      cases z1
      · cases z2
        · go_wp2
          go_ret
          exact ⟨by rw [HE.out]; first | rfl | (show Ending.returned (Value.bool ((b.toNat : Int) != 48)) = _; rw [hz5]; rfl), rfl⟩
        · go_wp2
          go_ret
          exact ⟨by rw [HE.out]; first | rfl | (show Ending.returned (Value.bool ((b.toNat : Int) != 48)) = _; rw [hz5]; rfl), rfl⟩
      · go_wp2
        go_ret
        exact ⟨by rw [HE.out]; first | rfl | (show Ending.returned (Value.bool ((b.toNat : Int) != 48)) = _; rw [hz5]; rfl), rfl⟩
theorem rNumeral_nil (w : World) : Calls Tryd.prog 16 #[str []] w fun e w' => e = .returned (.bool false) ∧ w' = w := by
  go_enter Tryd.func16, Tryd.ntmps16
  go_wp2
  go_loop [3] (fun i => i = .int .i64 0) (fun i => 0)
  case atStart => rfl
  case round =>
    obtain rfl := hrel
    go_wp2
    go_ret
    exact ⟨rfl, rfl⟩
theorem rNumeral_n (l : List UInt8) (w : World) (hl : l.length ≤ 1000000000000) : Calls Tryd.prog 16 #[str l] w fun e w' => e = .returned (.bool (M.numeral l)) ∧ w' = w := by
  rcases l with _ | ⟨b, r⟩
  · exact rNumeral_nil w
  · exact rNumeral_p b r w (by simp at hl; omega)
end Go.Proofs.YthlafkbldlmmaaaDoor
