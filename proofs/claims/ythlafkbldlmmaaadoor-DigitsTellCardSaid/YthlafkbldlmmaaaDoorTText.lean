/-
  Contracts of package digits: Numeral.
-/
import Derived.Test.YthlafkbldlmmaaaDoorTNat
namespace Go.Proofs.YthlafkbldlmmaaaDoor
set_option linter.unusedSimpArgs false
set_option linter.unusedVariables false
open Go.RowKit
namespace M
def digit (b : UInt8) : Bool := decide (48 ≤ b.toNat) && decide (b.toNat ≤ 57)
def numeral (l : List UInt8) : Bool := match l with
  | [] => false
  | b :: r => if b.toNat = 48 then r.isEmpty else (b :: r).all digit
end M
theorem idx_str (t : TypeId) (ht : Tryd.prog.underlying t = some .string) (l : List UInt8) (i : Nat) (b : UInt8) {z : Int} (hz : z = (i : Int)) (hb : l[i]? = some b) (w : World) :
    (Instr.index t (str l) (.int .i64 z)).run Tryd.prog w = .ok (.int .u8 (b.toNat : Int)) w := by
  subst hz
  obtain ⟨hlt, he⟩ := List.getElem?_eq_some_iff.1 hb
  have hs : i < (⟨l.toArray⟩ : ByteArray).size := by rw [Lib.size_eq]; simpa using hlt
  rw [run_index_string w t _ .i64 _ ht, dif_pos ⟨by omega, by omega⟩]
  have e : ((i : Int)).toNat = i := by omega
  simp only [e]
  rw [Lib.getD_at ⟨l.toArray⟩ i hs]
  simp [hb]
theorem numeral_nil (w : World) : Calls Tryd.prog 15 #[str []] w fun e w' => e = .returned (.bool false) ∧ w' = w := by
  go_enter Tryd.func15, Tryd.ntmps15
  go_wp2
  go_ret
  exact ⟨rfl, rfl⟩
theorem numeral_0 (r : List UInt8) (w : World) : Calls Tryd.prog 15 #[str (48 :: r)] w fun e w' => e = .returned (.bool r.isEmpty) ∧ w' = w := by
  have hg : ∀ h : 0 < (⟨(48 :: r).toArray⟩ : ByteArray).size, (⟨(48 :: r).toArray⟩ : ByteArray)[0]'h = 48 := fun _ => rfl
  go_enter Tryd.func15, Tryd.ntmps15
  go_wp2
  go_ret
  exact ⟨rfl, rfl⟩
theorem all_take {l : List UInt8} {k : Nat} {b : UInt8} (h : l[k]? = some b) (ht : (l.take k).all M.digit = true) (hb : M.digit b = true) : (l.take (k + 1)).all M.digit = true := by
  rw [List.take_add_one, h, List.all_append, ht]; simp [hb]
theorem all_no {l : List UInt8} {k : Nat} {b : UInt8} (h : l[k]? = some b) (hb : M.digit b = false) : l.all M.digit = false := by
  rw [Bool.eq_false_iff]
  intro ha
  have := List.all_eq_true.1 ha b (List.mem_of_getElem? h)
  rw [hb] at this; cases this
set_option maxHeartbeats 1000000 in
theorem numeral_p (b : UInt8) (r : List UInt8) (w : World) (hr : r.length ≤ 1000000000000) (hb : b.toNat ≠ 48) : Calls Tryd.prog 15 #[str (b :: r)] w fun e w' => e = .returned (.bool ((b :: r).all M.digit)) ∧ w' = w := by
  have hg : ∀ h : 0 < (⟨(b :: r).toArray⟩ : ByteArray).size, (⟨(b :: r).toArray⟩ : ByteArray)[0]'h = b := fun _ => rfl
  have hq : ((b.toNat : Int) == 48) = false := by simp; omega
  have hq2 : (b == 48) = false := by rw [Bool.eq_false_iff]; intro h; rw [beq_iff_eq] at h; subst h; exact hb rfl
  obtain ⟨l, hl⟩ : ∃ l, l = b :: r := ⟨_, rfl⟩
  obtain ⟨n, hn⟩ : ∃ n, n = l.length := ⟨_, rfl⟩
  have hn9 : n ≤ 1000000000001 := by rw [hn, hl]; simp; omega
  have hsz : ((r.length : Int) + 1) = (n : Int) := by rw [hn, hl]; simp
  obtain ⟨v, hv⟩ : ∃ v, v = l.all M.digit := ⟨_, rfl⟩
  rw [show (b :: r).all M.digit = v by rw [hv, hl]]
  have HL := hid hl
  have HN := hid hn
  have HV := hid hv
  clear hl hn hr hb hv
  go_enter Tryd.func15, Tryd.ntmps15
  go_wp2
  go_loop [15] (fun i => ∃ k : Nat, k ≤ n ∧ i = .int .i64 (k : Int) ∧ Hid ((l.take k).all M.digit = true)) (fun i => n - (intOf i).toNat)
  case atStart => exact ⟨0, Nat.zero_le _, rfl, rfl⟩
  case round =>
    obtain ⟨k, hk, rfl, ht⟩ := hrel
    rcases Nat.lt_or_ge k n with hlt | hge
    · obtain ⟨c, hc⟩ : ∃ c, l[k]? = some c := ⟨_, List.getElem?_eq_getElem (by rw [← HN.out]; exact hlt)⟩
      have HC := hid hc
      have hidx := idx_str 9 Tryd.underlying9 (b :: r) k c rfl (by rw [← HL.out]; exact hc)
      have hlt' : (k : Int) < (n : Int) := by omega
      clear hc
      rcases (by omega : c.toNat < 48 ∨ 57 < c.toNat ∨ (48 ≤ c.toNat ∧ c.toNat ≤ 57)) with h | h | h
      · have h1 : ((c.toNat : Int) < 48) := by omega
        go_wp2
        go_ret
        have hv' := HV.out.trans (all_no HC.out (by unfold M.digit; simp; omega))
        rw [hv']
        exact ⟨rfl, rfl⟩
      · have h1 : decide ((c.toNat : Int) < 48) = false := by simp; omega
        have h2 : (57 < (c.toNat : Int)) := by omega
        go_wp2
        go_ret
        have hv' := HV.out.trans (all_no HC.out (by unfold M.digit; simp; omega))
        rw [hv']
        exact ⟨rfl, rfl⟩
      · have h1 : decide ((c.toNat : Int) < 48) = false := by simp; omega
        have h2 : decide (57 < (c.toNat : Int)) = false := by simp; omega
        have HH := hid h
        clear h
        go_wp2
        go_round
        case rel => exact ⟨k + 1, by omega, by simp, all_take HC.out ht.out (by have := HH.out; unfold M.digit; simp; omega)⟩
        case measure => simp [intOf]; all_goals omega
    · obtain rfl : k = n := by omega
      go_wp2
      go_ret
      have := ht.out
      rw [HN.out, List.take_length] at this
      have hv' := HV.out.trans this
      rw [hv']
      exact ⟨rfl, rfl⟩
theorem numeral_n (l : List UInt8) (w : World) (hl : l.length ≤ 1000000000000) : Calls Tryd.prog 15 #[str l] w fun e w' => e = .returned (.bool (M.numeral l)) ∧ w' = w := by
  rcases l with _ | ⟨b, r⟩
  · exact numeral_nil w
  · by_cases hb : b.toNat = 48
    · obtain rfl : b = 48 := UInt8.toNat_inj.1 hb
      have : M.numeral (48 :: r) = r.isEmpty := by simp [M.numeral]
      rw [this]; exact numeral_0 r w
    · have : M.numeral (b :: r) = (b :: r).all M.digit := by simp only [M.numeral, if_neg hb]
      rw [this]; exact numeral_p b r w (by simp at hl; omega) hb
end Go.Proofs.YthlafkbldlmmaaaDoor
