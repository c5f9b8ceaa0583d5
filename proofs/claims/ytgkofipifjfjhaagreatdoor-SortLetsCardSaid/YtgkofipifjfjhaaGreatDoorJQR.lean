/-
  Contracts of the reference: digit, sign, row, Symbol, word, Print.
-/
import Derived.Test.YtgkofipifjfjhaaGreatDoorJQB
import Derived.IntWalk
namespace Go.Proofs.YtgkofipifjfjhaaGreatDoor.Q
set_option linter.unusedSimpArgs false
set_option linter.unusedVariables false
open Go.RowKit

theorem rDigit_n (b : UInt8) (w : World) : Calls Tryz.prog 178 #[.int .u8 (b.toNat : Int)] w fun e w' => e = .returned (.bool (M.dig b)) ∧ w = w' := by
 have hd := M.dig_iff b
 rcases (by omega : b.toNat < 48 ∨ 57 < b.toNat ∨ (48 ≤ b.toNat ∧ b.toNat ≤ 57)) with h | h | h
 ·have HR := hid (show M.dig b = false by rw [hd]; simp; omega)
  have h1 : decide (48 ≤ (b.toNat : Int)) = false := by simp; omega
  clear hd
  go_enter Tryz.func178, Tryz.ntmps178
  go_wp2
  go_ret
  rw [HR.out]; exact ⟨rfl, rfl⟩
 ·have HR := hid (show M.dig b = false by rw [hd]; simp; omega)
  have h1 : (48 ≤ (b.toNat : Int)) := by omega
  have h2 : decide ((b.toNat : Int) ≤ 57) = false := by simp; omega
  clear hd
  go_enter Tryz.func178, Tryz.ntmps178
  go_wp2
  go_ret
  rw [HR.out]; exact ⟨rfl, rfl⟩
 ·have HR := hid (show M.dig b = true by rw [hd]; simp; omega)
  have h1 : (48 ≤ (b.toNat : Int)) := by omega
  have h2 : ((b.toNat : Int) ≤ 57) := by omega
  clear hd
  go_enter Tryz.func178, Tryz.ntmps178
  go_wp2
  go_ret
  rw [HR.out]; exact ⟨rfl, rfl⟩
set_option maxHeartbeats 1000000 in
theorem rSign_no (b : UInt8) (w : World) (h1 : M.dig b = false) (h2 : ¬ (97 ≤ b.toNat ∧ b.toNat ≤ 122)) (h3 : ¬ (65 ≤ b.toNat ∧ b.toNat ≤ 90)) : Calls Tryz.prog 177 #[.int .u8 (b.toNat : Int)] w fun e w' => e = .returned (.bool (M.sym b)) ∧ w = w' := by
 have HR := hid (show M.sym b = M.cMark.contains b by
  rw [← M.sign_sym]; unfold M.sign; rw [h1]
  have e1 : (decide (97 ≤ b.toNat) && decide (b.toNat ≤ 122)) = false := by rw [Bool.eq_false_iff]; simp only [ne_eq, Bool.and_eq_true, decide_eq_true_eq]; exact h2
  have e2 : (decide (65 ≤ b.toNat) && decide (b.toNat ≤ 90)) = false := by rw [Bool.eq_false_iff]; simp only [ne_eq, Bool.and_eq_true, decide_eq_true_eq]; exact h3
  rw [e1, e2]; rfl)
 have HD := hid (show ∀ w, Calls Tryz.prog 178 #[.int .u8 (b.toNat : Int)] w fun e w' => e = .returned (.bool false) ∧ w = w' from fun w => h1 ▸ rDigit_n b w)
 have f2 : ∃ q, decide (97 ≤ (b.toNat : Int)) = q ∧ (q = true → decide ((b.toNat : Int) ≤ 122) = false) := ⟨_, rfl, fun h => by simp at h ⊢; omega⟩
 have f3 : ∃ q, decide (65 ≤ (b.toNat : Int)) = q ∧ (q = true → decide ((b.toNat : Int) ≤ 90) = false) := ⟨_, rfl, fun h => by simp at h ⊢; omega⟩
 obtain ⟨q2, g2, k2⟩ := f2
 obtain ⟨q3, g3, k3⟩ := f3
 clear h1 h2 h3
 cases q2 <;> cases q3
 all_goals
  first | (have k2' := k2 rfl) | skip
  first | (have k3' := k3 rfl) | skip
  clear k2 k3
  go_enter Tryz.func177, Tryz.ntmps177
  go_wp2_with (go_at_call 178; refine (HD.out _).mono ?_; rintro e w' ⟨rfl, rfl⟩)
  go_loop [3] (fun i => ∃ k : Nat, k ≤ 17 ∧ i = .int .i64 (k : Int) ∧ Hid ((M.cMark.take k).contains b = false)) (fun i => 17 - (intOf i).toNat)
  case atStart => exact ⟨0, Nat.zero_le _, rfl, rfl⟩
  case round =>
   obtain ⟨k, hk, rfl, ht⟩ := hrel
   rcases Nat.lt_or_ge k 17 with hlt | hge
   ·obtain ⟨c, hc⟩ : ∃ c, M.cMark[k]? = some c := ⟨_, List.getElem?_eq_getElem (show k < M.cMark.length from hlt)⟩
    have hidx : ∀ w, (Instr.index 9 (.string ⟨#[126, 33, 64, 36, 37, 94, 38, 42, 95, 45, 43, 61, 60, 62, 46, 63, 47]⟩) (.int .i64 (k : Int))).run Tryz.prog w = .ok (.int .u8 (c.toNat : Int)) w := idx_str 9 Tryz.underlying9 M.cMark k c rfl hc
    have HK := hid hc
    have hlt' : (k : Int) < 17 := by omega
    have hst : (M.cMark.take (k + 1)).contains b = ((M.cMark.take k).contains b || b == c) := by
     rw [List.take_add_one, hc, Bool.eq_iff_iff]; simp [or_comm]
    have HS := hid hst
    clear hc hst
    by_cases hbc : c = b
    ·subst hbc
     have HM := hid (show M.cMark.contains c = true by simpa using List.mem_of_getElem? HK.out)
     go_wp2
     go_ret
     rw [HR.out, HM.out]; exact ⟨rfl, rfl⟩
    ·have hq : ((c.toNat : Int) == (b.toNat : Int)) = false := by
      simp; intro e; exact hbc (UInt8.toNat_inj.1 (by omega))
     have HQ := hid (show (b == c) = false by simpa using fun e : b = c => hbc e.symm)
     clear hbc
     go_wp2
     go_round
     case rel => exact ⟨k + 1, by omega, by simp, by show _ = _; rw [HS.out, ht.out, HQ.out]; rfl⟩
     case measure => simp [intOf]; omega
   ·obtain rfl : k = 17 := by omega
    have HM := hid (show M.cMark.contains b = false from ht.out)
    clear ht
    go_wp2
    go_ret
    rw [HR.out, HM.out]; exact ⟨rfl, rfl⟩
theorem rSign_n (b : UInt8) (w : World) : Calls Tryz.prog 177 #[.int .u8 (b.toNat : Int)] w fun e w' => e = .returned (.bool (M.sym b)) ∧ w = w' := by
 rcases h1 : M.dig b with _ | _
 ·by_cases h2 : 97 ≤ b.toNat ∧ b.toNat ≤ 122
  ·have HR := hid (show M.sym b = true by rw [← M.sign_sym]; unfold M.sign; simp [h2.1, h2.2])
   have HD := hid (show ∀ w, Calls Tryz.prog 178 #[.int .u8 (b.toNat : Int)] w fun e w' => e = .returned (.bool false) ∧ w = w' from fun w => h1 ▸ rDigit_n b w)
   have e1 : 97 ≤ (b.toNat : Int) := by omega
   have e2 : (b.toNat : Int) ≤ 122 := by omega
   clear h1 h2
   go_enter Tryz.func177, Tryz.ntmps177
   go_wp2_with (go_at_call 178; refine (HD.out _).mono ?_; rintro e w' ⟨rfl, rfl⟩)
   go_ret
   rw [HR.out]; exact ⟨rfl, rfl⟩
  ·by_cases h3 : 65 ≤ b.toNat ∧ b.toNat ≤ 90
   ·have HR := hid (show M.sym b = true by rw [← M.sign_sym]; unfold M.sign; simp [h3.1, h3.2])
    have HD := hid (show ∀ w, Calls Tryz.prog 178 #[.int .u8 (b.toNat : Int)] w fun e w' => e = .returned (.bool false) ∧ w = w' from fun w => h1 ▸ rDigit_n b w)
    have e1 : decide (97 ≤ (b.toNat : Int)) = false := by simp; omega
    have e3 : 65 ≤ (b.toNat : Int) := by omega
    have e4 : (b.toNat : Int) ≤ 90 := by omega
    clear h1 h2 h3
    go_enter Tryz.func177, Tryz.ntmps177
    go_wp2_with (go_at_call 178; refine (HD.out _).mono ?_; rintro e w' ⟨rfl, rfl⟩)
    go_ret
    rw [HR.out]; exact ⟨rfl, rfl⟩
   ·exact rSign_no b w h1 h2 h3
 ·have HR := hid (M.dig_sym h1)
  have HD := hid (show ∀ w, Calls Tryz.prog 178 #[.int .u8 (b.toNat : Int)] w fun e w' => e = .returned (.bool true) ∧ w = w' from fun w => h1 ▸ rDigit_n b w)
  clear h1
  go_enter Tryz.func177, Tryz.ntmps177
  go_wp2_with (go_at_call 178; refine (HD.out _).mono ?_; rintro e w' ⟨rfl, rfl⟩)
  go_ret
  rw [HR.out]; exact ⟨rfl, rfl⟩
theorem rWord_n (t : M.Tok) (hl : t.2.length ≤ 1000000000000) (w : World) : Calls Tryz.prog 126 #[tok t] w (GivesT w (M.word t)) := by
 obtain ⟨k, l⟩ := t
 replace hl : l.length ≤ 1000000000000 := hl
 have hsz : (⟨l.toArray⟩ : ByteArray).size = l.length := by rw [Lib.size_eq]
 show Calls Tryz.prog 126 #[.agg #[.int .i64 k, str l]] w (GivesT w (M.word (k, l)))
 by_cases h1 : k = 1
 ·subst h1
  go_enter Tryz.func126, Tryz.ntmps126
  go_wp2
  go_ret
  exact ⟨rfl, Ext.alloc _ _⟩
 ·by_cases h2 : k = 2
  ·subst h2
   go_enter Tryz.func126, Tryz.ntmps126
   go_wp2
   go_ret
   exact ⟨rfl, Ext.alloc _ _⟩
  ·have q1 : (k == 1) = false := by simpa using h1
   have q2 : (k == 2) = false := by simpa using h2
   by_cases h3 : k = 5
   ·subst h3
    go_enter Tryz.func126, Tryz.ntmps126
    go_wp2
    go_ret
    refine ⟨?_, Ext.alloc _ _⟩
    have e := app_str [58] l
    show Ending.returned (.string ((⟨#[58]⟩ : ByteArray) ++ ⟨l.toArray⟩)) = _
    rw [e]
    rfl
   ·have q3 : (k == 5) = false := by simpa using h3
    have HR := hid (show M.word (k, l) = l by simp [M.word, h1, h2, h3])
    clear h1 h2 h3
    go_enter Tryz.func126, Tryz.ntmps126
    go_wp2
    go_ret
    rw [HR.out]
    exact ⟨rfl, Ext.alloc _ _⟩
set_option maxHeartbeats 1000000 in
theorem rRow_n (s : List UInt8) (a : Nat) (w : World) (ha : a ≤ s.length) (hs : s.length ≤ 1000000000000) {m : Nat} (hm : a + ((s.drop a).takeWhile M.sym).length = m) :
 Calls Tryz.prog 229 #[str s, .int .i64 (a : Int)] w fun e w' => e = .returned (.int .i64 (m : Int)) ∧ w = w' := by
 have HM := hid hm
 obtain ⟨L, hL⟩ : ∃ L, L = s.length := ⟨_, rfl⟩
 have hL9 : L ≤ 1000000000000 := by omega
 have haL : a ≤ L := by omega
 have HL := hid hL
 have hsz : (s.length : Int) = (L : Int) := by rw [hL]
 clear hm hL hs ha
 go_enter Tryz.func229, Tryz.ntmps229
 go_wp2
 go_loop [1] (fun i => ∃ k : Nat, a ≤ k ∧ k ≤ L ∧ i = .int .i64 (k : Int) ∧ Hid (((s.drop a).take (k - a)).all M.sym = true)) (fun i => L - (intOf i).toNat)
 case atStart => exact ⟨a, Nat.le_refl _, haL, rfl, by show _ = _; rw [Nat.sub_self]; rfl⟩
 case round =>
  obtain ⟨k, hak, hk, rfl, ht⟩ := hrel
  rcases Nat.lt_or_ge k L with hlt | hge
  ·obtain ⟨c, hc⟩ : ∃ c, s[k]? = some c := ⟨_, List.getElem?_eq_getElem (by rw [← HL.out]; exact hlt)⟩
   have HK := hid (show (s.drop a)[k - a]? = some c by rw [List.getElem?_drop, show a + (k - a) = k by omega]; exact hc)
   have hidx := idx_str 9 Tryz.underlying9 s k c rfl hc
   have hlt' : (k : Int) < (L : Int) := by omega
   obtain ⟨q, hq⟩ : ∃ q, M.sym c = q := ⟨_, rfl⟩
   have HQ := hid hq
   have HA := hid (show ∀ w, Calls Tryz.prog 177 #[.int .u8 (c.toNat : Int)] w fun e w' => e = .returned (.bool q) ∧ w = w' from fun w => hq ▸ rSign_n c w)
   have HLD := hid (show (s.drop a).length = L - a by rw [List.length_drop, HL.out])
   clear hc hq
   cases q
   ·go_wp2_with (go_at_call 177; refine (HA.out _).mono ?_; rintro e w' ⟨rfl, rfl⟩)
    go_ret
    obtain rfl : k = m := by
     rw [← HM.out, (M.takeWhile_at (by rw [HLD.out]; omega) ht.out (.inr ⟨c, HK.out, HQ.out⟩)).1]; omega
    exact ⟨rfl, rfl⟩
   ·go_wp2_with (go_at_call 177; refine (HA.out _).mono ?_; rintro e w' ⟨rfl, rfl⟩)
    go_round
    case rel => exact ⟨k + 1, by omega, by omega, by simp, by show _ = _; rw [show k + 1 - a = (k - a) + 1 by omega]; exact M.all_snoc HK.out ht.out HQ.out⟩
    case measure => simp [intOf]; omega
  ·obtain rfl : k = L := by omega
   have HLD := hid (show (s.drop a).length = k - a by rw [List.length_drop, HL.out])
   go_wp2
   go_ret
   obtain rfl : k = m := by
    rw [← HM.out, (M.takeWhile_at (by rw [HLD.out]; exact Nat.le_refl _) ht.out (.inl HLD.out.symm)).1]; omega
   exact ⟨rfl, rfl⟩
theorem rSymbol_end (b : UInt8) (r : List UInt8) (ha : (b :: r).all M.sym = true) (hl : (b :: r).length ≤ 20) : M.isSym (b :: r) = !M.dig b := by
 unfold M.isSym
 rw [ha, List.headD_cons, decide_eq_true hl]; simp
set_option maxHeartbeats 2000000 in
theorem rSymbol_n (s : List UInt8) (hs : s.length ≤ 1000000000000) (w : World) : Calls Tryz.prog 131 #[str s] w fun e w' => e = .returned (.bool (M.isSym s)) ∧ w = w' := by
 obtain ⟨L, hL⟩ : ∃ L, L = s.length := ⟨_, rfl⟩
 have hL9 : L ≤ 1000000000000 := by omega
 have HL := hid hL
 have hsz : (s.length : Int) = (L : Int) := by rw [hL]
 clear hL hs
 go_enter Tryz.func131, Tryz.ntmps131
 go_wp2
 go_loop [3] (fun i => ∃ k : Nat, k ≤ L ∧ i = .int .i64 (k : Int) ∧ Hid ((s.take k).all M.sym = true)) (fun i => L - (intOf i).toNat)
 case atStart => exact ⟨0, Nat.zero_le _, rfl, rfl⟩
 case round =>
  obtain ⟨k, hk, rfl, ht⟩ := hrel
  rcases Nat.lt_or_ge k L with hlt | hge
  ·obtain ⟨c, hc⟩ : ∃ c, s[k]? = some c := ⟨_, List.getElem?_eq_getElem (by rw [← HL.out]; exact hlt)⟩
   have HK := hid hc
   have hidx := idx_str 9 Tryz.underlying9 s k c rfl hc
   have hlt' : (k : Int) < (L : Int) := by omega
   obtain ⟨q, hq⟩ : ∃ q, M.sym c = q := ⟨_, rfl⟩
   have HQ := hid hq
   have HA := hid (show ∀ w, Calls Tryz.prog 177 #[.int .u8 (c.toNat : Int)] w fun e w' => e = .returned (.bool q) ∧ w = w' from fun w => hq ▸ rSign_n c w)
   clear hc hq
   cases q
   ·have HR := hid (show M.isSym s = false by
     unfold M.isSym
     have : s.all M.sym = false := List.all_eq_false.2 ⟨c, List.mem_of_getElem? HK.out, by rw [HQ.out]; decide⟩
     rw [this]; simp)
    go_wp2_with (go_at_call 177; refine (HA.out _).mono ?_; rintro e w' ⟨rfl, rfl⟩)
    go_ret
    rw [HR.out]
    exact ⟨rfl, rfl⟩
   ·go_wp2_with (go_at_call 177; refine (HA.out _).mono ?_; rintro e w' ⟨rfl, rfl⟩)
    go_round
    case rel => exact ⟨k + 1, by omega, by simp, M.all_snoc HK.out ht.out HQ.out⟩
    case measure => simp [intOf]; omega
  ·obtain rfl : k = L := by omega
   rcases s with _ | ⟨b, r⟩
   ·obtain rfl : k = 0 := HL.out
    go_wp2
    go_ret
    exact ⟨rfl, rfl⟩
   ·have hall := ht.out
    rw [HL.out, List.take_length] at hall
    have HA := hid hall
    have hg : ∀ h : 0 < (⟨(b :: r).toArray⟩ : ByteArray).size, (⟨(b :: r).toArray⟩ : ByteArray)[0]'h = b := fun _ => rfl
    have hk1 : 1 ≤ k := by rw [HL.out]; simp
    have hk1' : 1 ≤ (k : Int) := by omega
    have hkr : ((r.length : Int) + 1) = (k : Int) := by rw [HL.out]; simp
    clear hall hsz
    rcases Nat.lt_or_ge 20 k with h20 | h20
    ·have HR := hid (show M.isSym (b :: r) = false by unfold M.isSym; rw [← HL.out]; simp; omega)
     have hq : decide ((k : Int) ≤ 20) = false := by simp; omega
     go_wp2
     go_ret
     rw [HR.out]
     exact ⟨rfl, rfl⟩
    ·have HR := hid (rSymbol_end b r HA.out (by rw [← HL.out]; exact h20))
     have hq : (k : Int) ≤ 20 := by omega
     go_wp2_with (go_at_call 178; refine (rDigit_n b _).mono ?_; rintro e w' ⟨rfl, rfl⟩)
     go_ret
     rw [HR.out]
     exact ⟨rfl, rfl⟩
end Go.Proofs.YtgkofipifjfjhaaGreatDoor.Q

/-
  Contracts of the reference: Print; the mathematics of one.
-/
namespace Go.Proofs.YtgkofipifjfjhaaGreatDoor.Q
set_option linter.unusedSimpArgs false
set_option linter.unusedVariables false
open Go.RowKit

namespace M
theorem takeWhile_same {p q : UInt8 → Bool} : ∀ {l : List UInt8}, (∀ b ∈ l.takeWhile p, q b = true) → (∀ c, l[(l.takeWhile p).length]? = some c → q c = false) → l.takeWhile q = l.takeWhile p
 | [], _, _ => rfl
 | b :: r, h1, h2 => by
  rw [List.takeWhile_cons, List.takeWhile_cons]
  rw [List.takeWhile_cons] at h1 h2
  by_cases hp : p b = true
  ·rw [if_pos hp] at h1 h2 ⊢
   rw [if_pos (h1 b (by simp)), takeWhile_same (p := p) (fun c hc => h1 c (by simp [hc])) (fun c hc => h2 c (by simpa using hc))]
  ·rw [if_neg hp] at h2 ⊢
   rw [if_neg (by rw [h2 b (by simp)]; decide)]
theorem takeWhile_mem {p : UInt8 → Bool} {l : List UInt8} {b : UInt8} (h : b ∈ l.takeWhile p) : p b = true := List.all_eq_true.1 List.all_takeWhile b h
theorem takeWhile_more {p q : UInt8 → Bool} : ∀ {l : List UInt8} {c : UInt8}, (∀ b ∈ l.takeWhile p, q b = true) → l[(l.takeWhile p).length]? = some c → q c = true → c ∈ l.takeWhile q ∧ (l.takeWhile p).length < (l.takeWhile q).length
 | [], c, _, h2, _ => by simp at h2
 | b :: r, c, h1, h2, h3 => by
  rw [List.takeWhile_cons] at h1 h2
  rw [List.takeWhile_cons, List.takeWhile_cons]
  by_cases hp : p b = true
  ·rw [if_pos hp] at h1 h2 ⊢
   rw [if_pos (h1 b (by simp))]
   have := takeWhile_more (p := p) (l := r) (fun c hc => h1 c (by simp [hc])) (by simpa using h2) h3
   simp [this.1, this.2]
  ·rw [if_neg hp] at h2 ⊢
   simp at h2
   subst h2
   rw [if_pos h3]
   simp
theorem next_not {p : UInt8 → Bool} : ∀ {l : List UInt8} {c : UInt8}, l[(l.takeWhile p).length]? = some c → p c = false
 | [], c, h => by simp at h
 | b :: r, c, h => by
  rw [List.takeWhile_cons] at h
  by_cases hp : p b = true
  ·rw [if_pos hp] at h; exact next_not (l := r) (by simpa using h)
  ·rw [if_neg hp] at h
   simp at h
   subst h
   simpa using hp
/-- What the reference tells of a word at a place. -/
def OneIs (l : List UInt8) (a : Nat) (t : Tok) (m : Nat) (ok : Bool) : Prop := (ok = true → first l = some (t, m - a) ∧ a ≤ m) ∧ (ok = false → first l = none)
theorem first_of {b : UInt8} {r : List UInt8} (h1 : b ≠ 40) (h2 : b ≠ 41) (h3 : b ≠ 58) : first (b :: r) = if isSym ((b :: r).takeWhile sym) = true then some ((4, (b :: r).takeWhile sym), ((b :: r).takeWhile sym).length) else if isNum ((b :: r).takeWhile sym) = true then some ((3, (b :: r).takeWhile sym), ((b :: r).takeWhile sym).length) else none := by
 rw [first, if_neg h1, if_neg h2, if_neg h3]
theorem isSym_head {b : UInt8} {r : List UInt8} (h : dig b = true) : isSym (b :: r) = false := by unfold isSym; rw [List.headD_cons, h]; simp
theorem isNum_head {b : UInt8} {r : List UInt8} (h : dig b = false) : isNum (b :: r) = false := by
 have hb : b ≠ 48 := by rintro rfl; exact absurd h (by decide)
 rw [isNum, if_neg hb, List.all_cons, h]; rfl
theorem dig_not {b : UInt8} (h : dig b = true) : b ≠ 40 ∧ b ≠ 41 ∧ b ≠ 58 := ⟨(sym_not (dig_sym h)).1, (sym_not (dig_sym h)).2.1, (sym_not (dig_sym h)).2.2.1⟩
/-- Digits, and no symbol's byte behind them. -/
theorem one_num {b : UInt8} {r u : List UInt8} {a : Nat} {ok : Bool} (hb : dig b = true) (hu : (b :: r).takeWhile dig = u) (hn : ∀ c, (b :: r)[u.length]? = some c → sym c = false) (hok : isNum u = ok) : OneIs (b :: r) a (3, u) (a + u.length) ok := by
 obtain ⟨n1, n2, n3⟩ := dig_not hb
 have hs : (b :: r).takeWhile sym = u := by
  rw [← hu]; exact takeWhile_same (fun x hx => dig_sym (takeWhile_mem hx)) (fun c hc => hn c (by rw [← hu]; exact hc))
 have hh : isSym u = false := by
  rw [← hu, List.takeWhile_cons, if_pos hb]; exact isSym_head hb
 have e := first_of (r := r) n1 n2 n3
 rw [hs, hh, hok] at e
 refine ⟨fun h => ⟨?_, by omega⟩, fun h => ?_⟩
 ·rw [e, h, show a + u.length - a = u.length by omega]; rfl
 ·rw [e, h]; rfl
/-- Digits, and a symbol's byte behind them. -/
theorem one_mix {b c : UInt8} {r u : List UInt8} {a m : Nat} {t : Tok} (hb : dig b = true) (hu : (b :: r).takeWhile dig = u) (hc : (b :: r)[u.length]? = some c) (hs : sym c = true) : OneIs (b :: r) a t m false := by
 obtain ⟨n1, n2, n3⟩ := dig_not hb
 subst hu
 have hd := next_not hc
 have hm := takeWhile_more (q := sym) (fun x hx => dig_sym (takeWhile_mem hx)) hc hs
 have hv : ∃ v, (b :: r).takeWhile sym = b :: v := ⟨_, by rw [List.takeWhile_cons, if_pos (dig_sym hb)]⟩
 obtain ⟨v, hv⟩ := hv
 have h1 : isSym (b :: v) = false := isSym_head hb
 have h2 : isNum (b :: v) = false := by
  rw [hv] at hm
  have hne : c ≠ b := by rintro rfl; rw [hb] at hd; cases hd
  have hcv : c ∈ v := by simpa [hne] using hm.1
  rw [isNum]
  split
  ·cases v
   ·simp at hcv
   ·rfl
  ·exact List.all_eq_false.2 ⟨c, by simp [hcv], by rw [hd]; decide⟩
 refine ⟨fun h => (by cases h), fun _ => ?_⟩
 rw [first_of n1 n2 n3, hv, h1, h2]; rfl
theorem one_key {r u : List UInt8} {a : Nat} {ok : Bool} (hu : r.takeWhile sym = u) (hok : isSym u = ok) : OneIs (58 :: r) a (5, u) (a + 1 + u.length) ok := by
 have e : first (58 :: r) = if isSym u = true then some ((5, u), 1 + u.length) else none := by
  rw [first, if_neg (by decide), if_neg (by decide), if_pos rfl, hu]
 rw [hok] at e
 refine ⟨fun h => ⟨?_, by omega⟩, fun h => ?_⟩
 ·rw [e, h, show a + 1 + u.length - a = 1 + u.length by omega]; rfl
 ·rw [e, h]; rfl
theorem one_sym {b : UInt8} {r u : List UInt8} {a : Nat} {ok : Bool} (h0 : dig b = false) (h1 : sym b = true) (hu : (b :: r).takeWhile sym = u) (hok : isSym u = ok) : OneIs (b :: r) a (4, u) (a + u.length) ok := by
 obtain ⟨n1, n2, n3, _⟩ := sym_not h1
 have hh : isNum u = false := by
  rw [← hu, List.takeWhile_cons, if_pos h1]; exact isNum_head h0
 have e := first_of (r := r) n1 n2 n3
 rw [hu, hh, hok] at e
 refine ⟨fun h => ⟨?_, by omega⟩, fun h => ?_⟩
 ·rw [e, h, show a + u.length - a = u.length by omega]; rfl
 ·rw [e, h]; rfl
theorem one_no {b : UInt8} {r : List UInt8} {a m : Nat} {t : Tok} (n1 : b ≠ 40) (n2 : b ≠ 41) (n3 : b ≠ 58) (h1 : sym b = false) : OneIs (b :: r) a t m false := by
 refine ⟨fun h => (by cases h), fun _ => ?_⟩
 have hv : (b :: r).takeWhile sym = [] := by rw [List.takeWhile_cons, h1]; rfl
 rw [first_of n1 n2 n3, hv]; rfl
theorem one_par {b : UInt8} {r : List UInt8} {a : Nat} : (b = 40 → OneIs (b :: r) a (1, []) (a + 1) true) ∧ (b = 41 → OneIs (b :: r) a (2, []) (a + 1) true) := by
 refine ⟨?_, ?_⟩
 ·rintro rfl
  exact ⟨fun _ => ⟨by rw [first, if_pos rfl, show a + 1 - a = 1 by omega], by omega⟩, fun h => by cases h⟩
 ·rintro rfl
  exact ⟨fun _ => ⟨by rw [first, if_neg (by decide), if_pos rfl, show a + 1 - a = 1 by omega], by omega⟩, fun h => by cases h⟩
end M
end Go.Proofs.YtgkofipifjfjhaaGreatDoor.Q

/-
  Contract of the reference: one.
-/
namespace Go.Proofs.YtgkofipifjfjhaaGreatDoor.Q
set_option linter.unusedSimpArgs false
set_option linter.unusedVariables false
open Go.RowKit

def GivesOne (w : World) (l : List UInt8) (a : Nat) (e : Ending) (w' : World) : Prop := ∃ (t : M.Tok) (m : Nat) (ok : Bool), e = .returned (.tuple #[.agg #[.int .i64 t.1, str t.2], .int .i64 (m : Int), .bool ok]) ∧ M.OneIs l a t m ok ∧ Ext w w'
theorem ext_run (s : List UInt8) (a m : Nat) (u : List UInt8) (h : (s.drop a).take m = u) : (⟨s.toArray⟩ : ByteArray).extract a (a + m) = ⟨u.toArray⟩ := by rw [ext_str, show a + m - a = m by omega, h]
theorem ne_byte {b c : UInt8} (h : b ≠ c) {n : Int} (hn : (c.toNat : Int) = n) : ((b.toNat : Int) == n) = false := by
 rw [beq_eq_false_iff_ne]; intro e; exact h (UInt8.toNat_inj.1 (by omega))
theorem takeWhile_get {p : UInt8 → Bool} : ∀ {l : List UInt8} {j : Nat}, j < (l.takeWhile p).length → ∃ x, l[j]? = some x ∧ p x = true
 | [], _, h => by simp at h
 | b :: r, j, h => by
  rw [List.takeWhile_cons] at h
  by_cases hp : p b = true
  ·rw [if_pos hp] at h
   cases j with
   | zero => exact ⟨b, rfl, hp⟩
   | succ j =>
    obtain ⟨x, h1, h2⟩ := takeWhile_get (p := p) (l := r) (j := j) (by simpa using h)
    exact ⟨x, by simpa using h1, h2⟩
  ·rw [if_neg hp] at h; simp at h
theorem run_take {p : UInt8 → Bool} {l u : List UInt8} (h : l.takeWhile p = u) : l.take u.length = u := by rw [← h]; exact (takeWhile_take p l).symm
set_option maxHeartbeats 2000000 in
theorem one_paren (s : List UInt8) (a : Nat) (b : UInt8) (r : List UInt8) (hd : s.drop a = b :: r) (hs : s.length ≤ 1000000) (w : World) (hp : b = 40 ∨ b = 41) : Calls Tryz.prog 172 #[str s, .int .i64 (a : Int)] w (GivesOne w (b :: r) a) := by
 have hb0 : s[a]? = some b := by have := congrArg (fun l => l[0]?) hd; simpa using this
 have hlt : a < s.length := (List.getElem?_eq_some_iff.1 hb0).1
 have hidx := idx_str 9 Tryz.underlying9 s a b rfl hb0
 have hrl : r.length + 1 = s.length - a := by rw [← List.length_cons (a := b), ← hd, List.length_drop]
 rcases hp with rfl | rfl
 ·have HO := hid (M.one_par.1 rfl : M.OneIs (40 :: r) a (1, []) (a + 1) true)
  clear hd hb0 hrl
  go_enter Tryz.func172, Tryz.ntmps172
  go_wp2
  refine bodyPost_ret (v := .tuple #[.agg #[.int .i64 1, str []], .int .i64 ((a + 1 : Nat) : Int), .bool true]) (by simp [results, Tryz.results172, go_sem]) rfl ⟨_, _, _, rfl, HO.out, ?_⟩
  exact Ext.alloc _ _
 ·have HO := hid (M.one_par.2 rfl : M.OneIs (41 :: r) a (2, []) (a + 1) true)
  clear hd hb0 hrl
  go_enter Tryz.func172, Tryz.ntmps172
  go_wp2
  refine bodyPost_ret (v := .tuple #[.agg #[.int .i64 2, str []], .int .i64 ((a + 1 : Nat) : Int), .bool true]) (by simp [results, Tryz.results172, go_sem]) rfl ⟨_, _, _, rfl, HO.out, ?_⟩
  exact Ext.alloc _ _
set_option maxHeartbeats 2000000 in
theorem one_colon (s : List UInt8) (a : Nat) (r : List UInt8) (hd : s.drop a = 58 :: r) (hs : s.length ≤ 1000000) (w : World) : Calls Tryz.prog 172 #[str s, .int .i64 (a : Int)] w (GivesOne w (58 :: r) a) := by
 have hb0 : s[a]? = some 58 := by have := congrArg (fun l => l[0]?) hd; simpa using this
 have hlt : a < s.length := (List.getElem?_eq_some_iff.1 hb0).1
 have hidx := idx_str 9 Tryz.underlying9 s a 58 rfl hb0
 have hrl : r.length + 1 = s.length - a := by rw [← List.length_cons (a := (58 : UInt8)), ← hd, List.length_drop]
 have hd1 : s.drop (a + 1) = r := by rw [← List.drop_drop, hd]; rfl
 obtain ⟨u, hu⟩ : ∃ u, r.takeWhile M.sym = u := ⟨_, rfl⟩
 obtain ⟨q, hq⟩ : ∃ q, M.isSym u = q := ⟨_, rfl⟩
 obtain ⟨m, hm⟩ : ∃ m, a + 1 + u.length = m := ⟨_, rfl⟩
 have hul : u.length ≤ r.length := by rw [← hu]; exact M.takeWhile_len _ _
 have hml : m ≤ s.length := by omega
 have ham : a + 1 ≤ m := by omega
 obtain ⟨p, hp⟩ : ∃ p, a + 1 = p := ⟨_, rfl⟩
 have hpm : p ≤ m := by omega
 have HX := hid (show (⟨s.toArray⟩ : ByteArray).extract p m = ⟨u.toArray⟩ by rw [← hm, ← hp]; exact ext_run s (a + 1) u.length u (by rw [hd1]; exact run_take hu))
 have HWR := hid (show IntKind.i64.wrap ((a : Int) + 1) = (p : Int) by rw [IntWalk.i64_in _ (by omega)]; omega)
 have HO := hid (hm ▸ M.one_key hu hq : M.OneIs (58 :: r) a (5, u) m q)
 have HD := hid (show ∀ w, Calls Tryz.prog 178 #[.int .u8 ((58 : UInt8).toNat : Int)] w fun e w' => e = .returned (.bool false) ∧ w = w' from fun w => rDigit_n 58 w)
 have HR := hid (show ∀ w, Calls Tryz.prog 229 #[str s, .int .i64 ((a + 1 : Nat) : Int)] w fun e w' => e = .returned (.int .i64 (m : Int)) ∧ w = w' from fun w => rRow_n s (a + 1) w (by omega) (by omega) (by rw [hd1, hu]; exact hm))
 have HS := hid (show ∀ w, Calls Tryz.prog 131 #[str u] w fun e w' => e = .returned (.bool q) ∧ w = w' from fun w => hq ▸ rSymbol_n u (by omega) w)
 clear hd hb0 hrl hd1 hu hq hm hp
 go_enter Tryz.func172, Tryz.ntmps172
 go_wp2_with (first | (go_at_call 178; refine (HD.out _).mono ?_; rintro e w' ⟨rfl, rfl⟩) | (go_at_call 229; refine (HR.out _).mono ?_; rintro e w' ⟨rfl, rfl⟩))
 have hwr := HWR.out
 have hx := HX.out
 go_region_with (go_at_call 131; refine (HS.out _).mono ?_; rintro e w' ⟨rfl, rfl⟩)
 go_wp2
 refine bodyPost_ret (v := .tuple #[.agg #[.int .i64 5, str u], .int .i64 (m : Int), .bool q]) (by simp [results, Tryz.results172, go_sem, Act.put]) (by simp [Act.put]) ⟨_, _, _, rfl, HO.out, ?_⟩
 exact (Ext.alloc _ _).drew'
set_option maxHeartbeats 2000000 in
theorem one_word (s : List UInt8) (a : Nat) (b : UInt8) (r : List UInt8) (hd : s.drop a = b :: r) (hs : s.length ≤ 1000000) (w : World) (n40 : b ≠ 40) (n41 : b ≠ 41) (n58 : b ≠ 58) (h0 : M.dig b = false) (h1 : M.sym b = true) : Calls Tryz.prog 172 #[str s, .int .i64 (a : Int)] w (GivesOne w (b :: r) a) := by
 have hb0 : s[a]? = some b := by have := congrArg (fun l => l[0]?) hd; simpa using this
 have hlt : a < s.length := (List.getElem?_eq_some_iff.1 hb0).1
 have hidx := idx_str 9 Tryz.underlying9 s a b rfl hb0
 have hrl : r.length + 1 = s.length - a := by rw [← List.length_cons (a := b), ← hd, List.length_drop]
 have q40 : ((b.toNat : Int) == 40) = false := ne_byte n40 rfl
 have q41 : ((b.toNat : Int) == 41) = false := ne_byte n41 rfl
 have q58 : ((b.toNat : Int) == 58) = false := ne_byte n58 rfl
 obtain ⟨u, hu⟩ : ∃ u, (b :: r).takeWhile M.sym = u := ⟨_, rfl⟩
 obtain ⟨q, hq⟩ : ∃ q, M.isSym u = q := ⟨_, rfl⟩
 obtain ⟨m, hm⟩ : ∃ m, a + u.length = m := ⟨_, rfl⟩
 have hul : u.length ≤ r.length + 1 := by rw [← hu]; exact M.takeWhile_len _ _
 have hml : m ≤ s.length := by omega
 have ham : a ≤ m := by omega
 have HX := hid (show (⟨s.toArray⟩ : ByteArray).extract a m = ⟨u.toArray⟩ by rw [← hm]; exact ext_run s a u.length u (by rw [hd]; exact run_take hu))
 have HO := hid (hm ▸ M.one_sym h0 h1 hu hq : M.OneIs (b :: r) a (4, u) m q)
 have HD := hid (show ∀ w, Calls Tryz.prog 178 #[.int .u8 (b.toNat : Int)] w fun e w' => e = .returned (.bool false) ∧ w = w' from fun w => h0 ▸ rDigit_n b w)
 have HG := hid (show ∀ w, Calls Tryz.prog 177 #[.int .u8 (b.toNat : Int)] w fun e w' => e = .returned (.bool true) ∧ w = w' from fun w => h1 ▸ rSign_n b w)
 have HR := hid (show ∀ w, Calls Tryz.prog 229 #[str s, .int .i64 (a : Int)] w fun e w' => e = .returned (.int .i64 (m : Int)) ∧ w = w' from fun w => rRow_n s a w (by omega) (by omega) (by rw [hd, hu]; exact hm))
 have HS := hid (show ∀ w, Calls Tryz.prog 131 #[str u] w fun e w' => e = .returned (.bool q) ∧ w = w' from fun w => hq ▸ rSymbol_n u (by omega) w)
 clear hd hb0 hrl hu hq hm h0 h1 n40 n41 n58
 go_enter Tryz.func172, Tryz.ntmps172
 go_wp2_with (first | (go_at_call 178; refine (HD.out _).mono ?_; rintro e w' ⟨rfl, rfl⟩) | (go_at_call 177; refine (HG.out _).mono ?_; rintro e w' ⟨rfl, rfl⟩) | (go_at_call 229; refine (HR.out _).mono ?_; rintro e w' ⟨rfl, rfl⟩))
 have hx := HX.out
 go_region_with (go_at_call 131; refine (HS.out _).mono ?_; rintro e w' ⟨rfl, rfl⟩)
 go_wp2
 refine bodyPost_ret (v := .tuple #[.agg #[.int .i64 4, str u], .int .i64 (m : Int), .bool q]) (by simp [results, Tryz.results172, go_sem, Act.put]) (by simp [Act.put]) ⟨_, _, _, rfl, HO.out, ?_⟩
 exact (Ext.alloc _ _).drew'
set_option maxHeartbeats 2000000 in
theorem one_none (s : List UInt8) (a : Nat) (b : UInt8) (r : List UInt8) (hd : s.drop a = b :: r) (hs : s.length ≤ 1000000) (w : World) (n40 : b ≠ 40) (n41 : b ≠ 41) (n58 : b ≠ 58) (h0 : M.dig b = false) (h1 : M.sym b = false) : Calls Tryz.prog 172 #[str s, .int .i64 (a : Int)] w (GivesOne w (b :: r) a) := by
 have hb0 : s[a]? = some b := by have := congrArg (fun l => l[0]?) hd; simpa using this
 have hlt : a < s.length := (List.getElem?_eq_some_iff.1 hb0).1
 have hidx := idx_str 9 Tryz.underlying9 s a b rfl hb0
 have hrl : r.length + 1 = s.length - a := by rw [← List.length_cons (a := b), ← hd, List.length_drop]
 have q40 : ((b.toNat : Int) == 40) = false := ne_byte n40 rfl
 have q41 : ((b.toNat : Int) == 41) = false := ne_byte n41 rfl
 have q58 : ((b.toNat : Int) == 58) = false := ne_byte n58 rfl
 have HO := hid (M.one_no n40 n41 n58 h1 : M.OneIs (b :: r) a (0, []) a false)
 have HD := hid (show ∀ w, Calls Tryz.prog 178 #[.int .u8 (b.toNat : Int)] w fun e w' => e = .returned (.bool false) ∧ w = w' from fun w => h0 ▸ rDigit_n b w)
 have HG := hid (show ∀ w, Calls Tryz.prog 177 #[.int .u8 (b.toNat : Int)] w fun e w' => e = .returned (.bool false) ∧ w = w' from fun w => h1 ▸ rSign_n b w)
 clear hd hb0 hrl h0 h1 n40 n41 n58
 go_enter Tryz.func172, Tryz.ntmps172
 go_wp2_with (first | (go_at_call 178; refine (HD.out _).mono ?_; rintro e w' ⟨rfl, rfl⟩) | (go_at_call 177; refine (HG.out _).mono ?_; rintro e w' ⟨rfl, rfl⟩))
 refine bodyPost_ret (v := .tuple #[.agg #[.int .i64 0, str []], .int .i64 (a : Int), .bool false]) (by simp [results, Tryz.results172, go_sem]) rfl ⟨_, _, _, rfl, HO.out, ?_⟩
 first | exact Ext.alloc _ _ | exact ((Ext.alloc _ _).set' (Nat.le_refl _) _).set' (Nat.le_refl _) _
end Go.Proofs.YtgkofipifjfjhaaGreatDoor.Q

/-
  Contract of the reference: one, at a digit.
-/
namespace Go.Proofs.YtgkofipifjfjhaaGreatDoor.Q
set_option linter.unusedSimpArgs false
set_option linter.unusedVariables false
open Go.RowKit

set_option maxHeartbeats 2000000 in
theorem one_digAE (s : List UInt8) (a : Nat) (b : UInt8) (r : List UInt8) (hd : s.drop a = b :: r) (hs : s.length ≤ 1000000) (w : World) (h0 : M.dig b = true) (u' : List UInt8) (hu : (b :: r).takeWhile M.dig = b :: u') (n48 : b ≠ 48) (hE : a + (b :: u').length = s.length) : Calls Tryz.prog 172 #[str s, .int .i64 (a : Int)] w (GivesOne w (b :: r) a) := by
 have hb0 : s[a]? = some b := by have := congrArg (fun l => l[0]?) hd; simpa using this
 have hlt : a < s.length := (List.getElem?_eq_some_iff.1 hb0).1
 have hidx := idx_str 9 Tryz.underlying9 s a b rfl hb0
 have hrl : r.length + 1 = s.length - a := by rw [← List.length_cons (a := b), ← hd, List.length_drop]
 obtain ⟨n40, n41, n58⟩ := M.dig_not h0
 have q40 : ((b.toNat : Int) == 40) = false := ne_byte n40 rfl
 have q41 : ((b.toNat : Int) == 41) = false := ne_byte n41 rfl
 have q58 : ((b.toNat : Int) == 58) = false := ne_byte n58 rfl
 have hg : ∀ h : 0 < (⟨(b :: u').toArray⟩ : ByteArray).size, (⟨(b :: u').toArray⟩ : ByteArray)[0]'h = b := fun _ => rfl
 have q48 : ((b.toNat : Int) == 48) = false := ne_byte n48 rfl
 have q48b : (b == 48) = false := by simpa using n48
 have q48c : ((b.toNat : Int) != 48) = true := by rw [bne, q48]; rfl
 obtain ⟨m, hm⟩ : ∃ m, a + (b :: u').length = m := ⟨_, rfl⟩
 have hul : (b :: u').length ≤ r.length + 1 := by rw [← hu]; exact M.takeWhile_len _ _
 have hml : m ≤ s.length := by omega
 have ham : a < m := by rw [← hm]; simp
 have hx : (⟨s.toArray⟩ : ByteArray).extract a m = ⟨(b :: u').toArray⟩ := by rw [← hm]; exact ext_run s a _ _ (by rw [hd]; exact run_take hu)
 have HO := hid (hm ▸ M.one_num h0 hu (fun c hc => by have := (List.getElem?_eq_some_iff.1 hc).1; simp at this hE; omega) (by rw [M.isNum, if_neg n48, ← hu, List.all_eq_true]; exact fun x hx => M.takeWhile_mem hx) : M.OneIs (b :: r) a (3, (b :: u')) m true)
 have HDG := hid (show ∀ w, Calls Tryz.prog 178 #[.int .u8 (b.toNat : Int)] w fun e w' => e = .returned (.bool true) ∧ w = w' from fun w => h0 ▸ rDigit_n _ w)
 have HIN := hid (show ∀ k, a ≤ k → k < m → ∃ x, s[k]? = some x ∧ M.dig x = true from fun k hk1 hk2 => by
  have hlt2 : k - a < ((b :: r).takeWhile M.dig).length := by rw [hu]; omega
  obtain ⟨x, h5, h6⟩ := takeWhile_get hlt2
  rw [← hd, List.getElem?_drop, show a + (k - a) = k by omega] at h5
  exact ⟨x, h5, h6⟩)
 have hmE : m = s.length := by rw [← hm]; exact hE
 obtain ⟨L, hL⟩ : ∃ L, L = s.length := ⟨_, rfl⟩
 have hsz : (s.length : Int) = (L : Int) := by rw [hL]
 obtain rfl : m = L := by omega
 have hm9 : m ≤ 1000000 := by omega
 clear hE hmE hL hs
 clear hd hb0 hrl h0 n40 n41 n58 hu hm n48
 go_enter Tryz.func172, Tryz.ntmps172
 go_wp2_with (go_at_call 178; refine (HDG.out _).mono ?_; rintro e w' ⟨rfl, rfl⟩)
 go_loop [8] (fun i => ∃ k : Nat, a ≤ k ∧ k ≤ m ∧ i = .int .i64 (k : Int)) (fun i => m - (intOf i).toNat)
 case atStart => exact ⟨a, Nat.le_refl _, by omega, rfl⟩
 case round =>
  obtain ⟨k, hak, hk, rfl⟩ := hrel
  rcases Nat.lt_or_ge k m with hkm | hkm
  ·obtain ⟨x, hx3, hdx⟩ := HIN.out k hak hkm
   have hidk := idx_str 9 Tryz.underlying9 s k x rfl hx3
   have HX3 := hid (show ∀ w, Calls Tryz.prog 178 #[.int .u8 (x.toNat : Int)] w fun e w' => e = .returned (.bool true) ∧ w = w' from fun w => hdx ▸ rDigit_n x w)
   have hks : (k : Int) < (m : Int) := by omega
   clear hx3 hdx
   go_wp2_with (go_at_call 178; refine (HX3.out _).mono ?_; rintro e w' ⟨rfl, rfl⟩)
   go_round
   case rel => exact ⟨k + 1, by omega, by omega, by simp⟩
   case measure => simp [intOf]; omega
  ·obtain rfl : k = m := by omega
   go_wp2
   refine bodyPost_ret (v := .tuple #[.agg #[.int .i64 3, str (b :: u')], .int .i64 (k : Int), .bool true]) (by simp [results, Tryz.results172, go_sem]) rfl ⟨_, _, _, rfl, HO.out, ?_⟩
   first | exact Ext.alloc _ _ | exact ((Ext.alloc _ _).set' (Nat.le_refl _) _).set' (Nat.le_refl _) _
set_option maxHeartbeats 2000000 in
theorem one_digAS (s : List UInt8) (a : Nat) (b : UInt8) (r : List UInt8) (hd : s.drop a = b :: r) (hs : s.length ≤ 1000000) (w : World) (h0 : M.dig b = true) (u' : List UInt8) (hu : (b :: r).takeWhile M.dig = b :: u') (n48 : b ≠ 48) (c : UInt8) (hc : (b :: r)[(b :: u').length]? = some c) (hsc : M.sym c = true) : Calls Tryz.prog 172 #[str s, .int .i64 (a : Int)] w (GivesOne w (b :: r) a) := by
 have hb0 : s[a]? = some b := by have := congrArg (fun l => l[0]?) hd; simpa using this
 have hlt : a < s.length := (List.getElem?_eq_some_iff.1 hb0).1
 have hidx := idx_str 9 Tryz.underlying9 s a b rfl hb0
 have hrl : r.length + 1 = s.length - a := by rw [← List.length_cons (a := b), ← hd, List.length_drop]
 obtain ⟨n40, n41, n58⟩ := M.dig_not h0
 have q40 : ((b.toNat : Int) == 40) = false := ne_byte n40 rfl
 have q41 : ((b.toNat : Int) == 41) = false := ne_byte n41 rfl
 have q58 : ((b.toNat : Int) == 58) = false := ne_byte n58 rfl
 have hg : ∀ h : 0 < (⟨(b :: u').toArray⟩ : ByteArray).size, (⟨(b :: u').toArray⟩ : ByteArray)[0]'h = b := fun _ => rfl
 have q48 : ((b.toNat : Int) == 48) = false := ne_byte n48 rfl
 have q48b : (b == 48) = false := by simpa using n48
 have q48c : ((b.toNat : Int) != 48) = true := by rw [bne, q48]; rfl
 obtain ⟨m, hm⟩ : ∃ m, a + (b :: u').length = m := ⟨_, rfl⟩
 have hul : (b :: u').length ≤ r.length + 1 := by rw [← hu]; exact M.takeWhile_len _ _
 have hml : m ≤ s.length := by omega
 have ham : a < m := by rw [← hm]; simp
 have hx : (⟨s.toArray⟩ : ByteArray).extract a m = ⟨(b :: u').toArray⟩ := by rw [← hm]; exact ext_run s a _ _ (by rw [hd]; exact run_take hu)
 have HO := hid (hm ▸ M.one_mix h0 hu hc hsc : M.OneIs (b :: r) a (3, (b :: u')) m false)
 have HDG := hid (show ∀ w, Calls Tryz.prog 178 #[.int .u8 (b.toNat : Int)] w fun e w' => e = .returned (.bool true) ∧ w = w' from fun w => h0 ▸ rDigit_n _ w)
 have HIN := hid (show ∀ k, a ≤ k → k < m → ∃ x, s[k]? = some x ∧ M.dig x = true from fun k hk1 hk2 => by
  have hlt2 : k - a < ((b :: r).takeWhile M.dig).length := by rw [hu]; omega
  obtain ⟨x, h5, h6⟩ := takeWhile_get hlt2
  rw [← hd, List.getElem?_drop, show a + (k - a) = k by omega] at h5
  exact ⟨x, h5, h6⟩)
 have hcm : s[m]? = some c := by rw [← hm, ← List.getElem?_drop, hd]; exact hc
 have hmE : m < s.length := (List.getElem?_eq_some_iff.1 hcm).1
 have hidm := idx_str 9 Tryz.underlying9 s m c rfl hcm
 have HDC := hid (show ∀ w, Calls Tryz.prog 178 #[.int .u8 (c.toNat : Int)] w fun e w' => e = .returned (.bool false) ∧ w = w' from fun w => (M.next_not (p := M.dig) (l := b :: r) (c := c) (by rw [hu]; exact hc)) ▸ rDigit_n c w)
 have HSC := hid (show ∀ w, Calls Tryz.prog 177 #[.int .u8 (c.toNat : Int)] w fun e w' => e = .returned (.bool true) ∧ w = w' from fun w => hsc ▸ rSign_n c w)
 obtain ⟨L, hL⟩ : ∃ L, L = s.length := ⟨_, rfl⟩
 have hsz : (s.length : Int) = (L : Int) := by rw [hL]
 have hmL : m < L := by omega
 have hL9 : L ≤ 1000000 := by omega
 clear hc hsc hcm hmE hL hs
 clear hd hb0 hrl h0 n40 n41 n58 hu hm n48
 go_enter Tryz.func172, Tryz.ntmps172
 go_wp2_with (go_at_call 178; refine (HDG.out _).mono ?_; rintro e w' ⟨rfl, rfl⟩)
 go_loop [8] (fun i => ∃ k : Nat, a ≤ k ∧ k ≤ m ∧ i = .int .i64 (k : Int)) (fun i => L - (intOf i).toNat)
 case atStart => exact ⟨a, Nat.le_refl _, by omega, rfl⟩
 case round =>
  obtain ⟨k, hak, hk, rfl⟩ := hrel
  rcases Nat.lt_or_ge k m with hkm | hkm
  ·obtain ⟨x, hx3, hdx⟩ := HIN.out k hak hkm
   have hidk := idx_str 9 Tryz.underlying9 s k x rfl hx3
   have HX3 := hid (show ∀ w, Calls Tryz.prog 178 #[.int .u8 (x.toNat : Int)] w fun e w' => e = .returned (.bool true) ∧ w = w' from fun w => hdx ▸ rDigit_n x w)
   have hks : (k : Int) < (L : Int) := by omega
   clear hx3 hdx
   go_wp2_with (go_at_call 178; refine (HX3.out _).mono ?_; rintro e w' ⟨rfl, rfl⟩)
   go_round
   case rel => exact ⟨k + 1, by omega, by omega, by simp⟩
   case measure => simp [intOf]; omega
  ·obtain rfl : k = m := by omega
   have hkL : k ≤ L := by omega
   have hkL2 : (k : Int) ≤ (L : Int) := by omega
   have hq1 : (k : Int) < (L : Int) := by omega
   have hq2 : ((k : Int) == (L : Int)) = false := by simp; omega
   go_wp2_with (first | (go_at_call 178; refine (HDC.out _).mono ?_; rintro e w' ⟨rfl, rfl⟩) | (go_at_call 177; refine (HSC.out _).mono ?_; rintro e w' ⟨rfl, rfl⟩))
   refine bodyPost_ret (v := .tuple #[.agg #[.int .i64 3, str (b :: u')], .int .i64 (k : Int), .bool false]) (by simp [results, Tryz.results172, go_sem]) rfl ⟨_, _, _, rfl, HO.out, ?_⟩
   first | exact Ext.alloc _ _ | exact ((Ext.alloc _ _).set' (Nat.le_refl _) _).set' (Nat.le_refl _) _
set_option maxHeartbeats 2000000 in
theorem one_digAN (s : List UInt8) (a : Nat) (b : UInt8) (r : List UInt8) (hd : s.drop a = b :: r) (hs : s.length ≤ 1000000) (w : World) (h0 : M.dig b = true) (u' : List UInt8) (hu : (b :: r).takeWhile M.dig = b :: u') (n48 : b ≠ 48) (c : UInt8) (hc : (b :: r)[(b :: u').length]? = some c) (hsc : M.sym c = false) : Calls Tryz.prog 172 #[str s, .int .i64 (a : Int)] w (GivesOne w (b :: r) a) := by
 have hb0 : s[a]? = some b := by have := congrArg (fun l => l[0]?) hd; simpa using this
 have hlt : a < s.length := (List.getElem?_eq_some_iff.1 hb0).1
 have hidx := idx_str 9 Tryz.underlying9 s a b rfl hb0
 have hrl : r.length + 1 = s.length - a := by rw [← List.length_cons (a := b), ← hd, List.length_drop]
 obtain ⟨n40, n41, n58⟩ := M.dig_not h0
 have q40 : ((b.toNat : Int) == 40) = false := ne_byte n40 rfl
 have q41 : ((b.toNat : Int) == 41) = false := ne_byte n41 rfl
 have q58 : ((b.toNat : Int) == 58) = false := ne_byte n58 rfl
 have hg : ∀ h : 0 < (⟨(b :: u').toArray⟩ : ByteArray).size, (⟨(b :: u').toArray⟩ : ByteArray)[0]'h = b := fun _ => rfl
 have q48 : ((b.toNat : Int) == 48) = false := ne_byte n48 rfl
 have q48b : (b == 48) = false := by simpa using n48
 have q48c : ((b.toNat : Int) != 48) = true := by rw [bne, q48]; rfl
 obtain ⟨m, hm⟩ : ∃ m, a + (b :: u').length = m := ⟨_, rfl⟩
 have hul : (b :: u').length ≤ r.length + 1 := by rw [← hu]; exact M.takeWhile_len _ _
 have hml : m ≤ s.length := by omega
 have ham : a < m := by rw [← hm]; simp
 have hx : (⟨s.toArray⟩ : ByteArray).extract a m = ⟨(b :: u').toArray⟩ := by rw [← hm]; exact ext_run s a _ _ (by rw [hd]; exact run_take hu)
 have HO := hid (hm ▸ M.one_num h0 hu (fun c' hc' => by rw [hc] at hc'; injection hc' with e; rw [← e]; exact hsc) (by rw [M.isNum, if_neg n48, ← hu, List.all_eq_true]; exact fun x hx => M.takeWhile_mem hx) : M.OneIs (b :: r) a (3, (b :: u')) m true)
 have HDG := hid (show ∀ w, Calls Tryz.prog 178 #[.int .u8 (b.toNat : Int)] w fun e w' => e = .returned (.bool true) ∧ w = w' from fun w => h0 ▸ rDigit_n _ w)
 have HIN := hid (show ∀ k, a ≤ k → k < m → ∃ x, s[k]? = some x ∧ M.dig x = true from fun k hk1 hk2 => by
  have hlt2 : k - a < ((b :: r).takeWhile M.dig).length := by rw [hu]; omega
  obtain ⟨x, h5, h6⟩ := takeWhile_get hlt2
  rw [← hd, List.getElem?_drop, show a + (k - a) = k by omega] at h5
  exact ⟨x, h5, h6⟩)
 have hcm : s[m]? = some c := by rw [← hm, ← List.getElem?_drop, hd]; exact hc
 have hmE : m < s.length := (List.getElem?_eq_some_iff.1 hcm).1
 have hidm := idx_str 9 Tryz.underlying9 s m c rfl hcm
 have HDC := hid (show ∀ w, Calls Tryz.prog 178 #[.int .u8 (c.toNat : Int)] w fun e w' => e = .returned (.bool false) ∧ w = w' from fun w => (M.next_not (p := M.dig) (l := b :: r) (c := c) (by rw [hu]; exact hc)) ▸ rDigit_n c w)
 have HSC := hid (show ∀ w, Calls Tryz.prog 177 #[.int .u8 (c.toNat : Int)] w fun e w' => e = .returned (.bool false) ∧ w = w' from fun w => hsc ▸ rSign_n c w)
 obtain ⟨L, hL⟩ : ∃ L, L = s.length := ⟨_, rfl⟩
 have hsz : (s.length : Int) = (L : Int) := by rw [hL]
 have hmL : m < L := by omega
 have hL9 : L ≤ 1000000 := by omega
 clear hc hsc hcm hmE hL hs
 clear hd hb0 hrl h0 n40 n41 n58 hu hm n48
 go_enter Tryz.func172, Tryz.ntmps172
 go_wp2_with (go_at_call 178; refine (HDG.out _).mono ?_; rintro e w' ⟨rfl, rfl⟩)
 go_loop [8] (fun i => ∃ k : Nat, a ≤ k ∧ k ≤ m ∧ i = .int .i64 (k : Int)) (fun i => L - (intOf i).toNat)
 case atStart => exact ⟨a, Nat.le_refl _, by omega, rfl⟩
 case round =>
  obtain ⟨k, hak, hk, rfl⟩ := hrel
  rcases Nat.lt_or_ge k m with hkm | hkm
  ·obtain ⟨x, hx3, hdx⟩ := HIN.out k hak hkm
   have hidk := idx_str 9 Tryz.underlying9 s k x rfl hx3
   have HX3 := hid (show ∀ w, Calls Tryz.prog 178 #[.int .u8 (x.toNat : Int)] w fun e w' => e = .returned (.bool true) ∧ w = w' from fun w => hdx ▸ rDigit_n x w)
   have hks : (k : Int) < (L : Int) := by omega
   clear hx3 hdx
   go_wp2_with (go_at_call 178; refine (HX3.out _).mono ?_; rintro e w' ⟨rfl, rfl⟩)
   go_round
   case rel => exact ⟨k + 1, by omega, by omega, by simp⟩
   case measure => simp [intOf]; omega
  ·obtain rfl : k = m := by omega
   have hkL : k ≤ L := by omega
   have hkL2 : (k : Int) ≤ (L : Int) := by omega
   have hq1 : (k : Int) < (L : Int) := by omega
   have hq2 : ((k : Int) == (L : Int)) = false := by simp; omega
   go_wp2_with (first | (go_at_call 178; refine (HDC.out _).mono ?_; rintro e w' ⟨rfl, rfl⟩) | (go_at_call 177; refine (HSC.out _).mono ?_; rintro e w' ⟨rfl, rfl⟩))
   refine bodyPost_ret (v := .tuple #[.agg #[.int .i64 3, str (b :: u')], .int .i64 (k : Int), .bool true]) (by simp [results, Tryz.results172, go_sem]) rfl ⟨_, _, _, rfl, HO.out, ?_⟩
   first | exact Ext.alloc _ _ | exact ((Ext.alloc _ _).set' (Nat.le_refl _) _).set' (Nat.le_refl _) _
set_option maxHeartbeats 2000000 in
theorem one_digBE (s : List UInt8) (a : Nat) (b : UInt8) (r : List UInt8) (hd : s.drop a = b :: r) (hs : s.length ≤ 1000000) (w : World) (h0 : M.dig b = true) (hb : b = 48) (hu : (b :: r).takeWhile M.dig = [48]) (hE : a + ([48] : List UInt8).length = s.length) : Calls Tryz.prog 172 #[str s, .int .i64 (a : Int)] w (GivesOne w (b :: r) a) := by
 have hb0 : s[a]? = some b := by have := congrArg (fun l => l[0]?) hd; simpa using this
 have hlt : a < s.length := (List.getElem?_eq_some_iff.1 hb0).1
 have hidx := idx_str 9 Tryz.underlying9 s a b rfl hb0
 have hrl : r.length + 1 = s.length - a := by rw [← List.length_cons (a := b), ← hd, List.length_drop]
 obtain ⟨n40, n41, n58⟩ := M.dig_not h0
 have q40 : ((b.toNat : Int) == 40) = false := ne_byte n40 rfl
 have q41 : ((b.toNat : Int) == 41) = false := ne_byte n41 rfl
 have q58 : ((b.toNat : Int) == 58) = false := ne_byte n58 rfl
 subst hb
 obtain ⟨m, hm⟩ : ∃ m, a + ([48] : List UInt8).length = m := ⟨_, rfl⟩
 have hul : ([48] : List UInt8).length ≤ r.length + 1 := by rw [← hu]; exact M.takeWhile_len _ _
 have hml : m ≤ s.length := by omega
 have ham : a < m := by rw [← hm]; simp
 have hx : (⟨s.toArray⟩ : ByteArray).extract a m = ⟨([48] : List UInt8).toArray⟩ := by rw [← hm]; exact ext_run s a _ _ (by rw [hd]; exact run_take hu)
 have HO := hid (hm ▸ M.one_num h0 hu (fun c hc => by have := (List.getElem?_eq_some_iff.1 hc).1; simp at this hE; omega) (rfl) : M.OneIs (48 :: r) a (3, ([48] : List UInt8)) m true)
 have HDG := hid (show ∀ w, Calls Tryz.prog 178 #[.int .u8 ((48 : UInt8).toNat : Int)] w fun e w' => e = .returned (.bool true) ∧ w = w' from fun w => h0 ▸ rDigit_n _ w)
 have HIN := hid (show ∀ k, a ≤ k → k < m → ∃ x, s[k]? = some x ∧ M.dig x = true from fun k hk1 hk2 => by
  have hlt2 : k - a < ((48 :: r).takeWhile M.dig).length := by rw [hu]; omega
  obtain ⟨x, h5, h6⟩ := takeWhile_get hlt2
  rw [← hd, List.getElem?_drop, show a + (k - a) = k by omega] at h5
  exact ⟨x, h5, h6⟩)
 have hmE : m = s.length := by rw [← hm]; exact hE
 obtain ⟨L, hL⟩ : ∃ L, L = s.length := ⟨_, rfl⟩
 have hsz : (s.length : Int) = (L : Int) := by rw [hL]
 obtain rfl : m = L := by omega
 have hm9 : m ≤ 1000000 := by omega
 clear hE hmE hL hs
 clear hd hb0 hrl h0 n40 n41 n58 hu hm
 go_enter Tryz.func172, Tryz.ntmps172
 go_wp2_with (go_at_call 178; refine (HDG.out _).mono ?_; rintro e w' ⟨rfl, rfl⟩)
 go_loop [8] (fun i => ∃ k : Nat, a ≤ k ∧ k ≤ m ∧ i = .int .i64 (k : Int)) (fun i => m - (intOf i).toNat)
 case atStart => exact ⟨a, Nat.le_refl _, by omega, rfl⟩
 case round =>
  obtain ⟨k, hak, hk, rfl⟩ := hrel
  rcases Nat.lt_or_ge k m with hkm | hkm
  ·obtain ⟨x, hx3, hdx⟩ := HIN.out k hak hkm
   have hidk := idx_str 9 Tryz.underlying9 s k x rfl hx3
   have HX3 := hid (show ∀ w, Calls Tryz.prog 178 #[.int .u8 (x.toNat : Int)] w fun e w' => e = .returned (.bool true) ∧ w = w' from fun w => hdx ▸ rDigit_n x w)
   have hks : (k : Int) < (m : Int) := by omega
   clear hx3 hdx
   go_wp2_with (go_at_call 178; refine (HX3.out _).mono ?_; rintro e w' ⟨rfl, rfl⟩)
   go_round
   case rel => exact ⟨k + 1, by omega, by omega, by simp⟩
   case measure => simp [intOf]; omega
  ·obtain rfl : k = m := by omega
   go_wp2
   refine bodyPost_ret (v := .tuple #[.agg #[.int .i64 3, str ([48] : List UInt8)], .int .i64 (k : Int), .bool true]) (by simp [results, Tryz.results172, go_sem]) rfl ⟨_, _, _, rfl, HO.out, ?_⟩
   first | exact Ext.alloc _ _ | exact ((Ext.alloc _ _).set' (Nat.le_refl _) _).set' (Nat.le_refl _) _
set_option maxHeartbeats 2000000 in
theorem one_digBS (s : List UInt8) (a : Nat) (b : UInt8) (r : List UInt8) (hd : s.drop a = b :: r) (hs : s.length ≤ 1000000) (w : World) (h0 : M.dig b = true) (hb : b = 48) (hu : (b :: r).takeWhile M.dig = [48]) (c : UInt8) (hc : (b :: r)[([48] : List UInt8).length]? = some c) (hsc : M.sym c = true) : Calls Tryz.prog 172 #[str s, .int .i64 (a : Int)] w (GivesOne w (b :: r) a) := by
 have hb0 : s[a]? = some b := by have := congrArg (fun l => l[0]?) hd; simpa using this
 have hlt : a < s.length := (List.getElem?_eq_some_iff.1 hb0).1
 have hidx := idx_str 9 Tryz.underlying9 s a b rfl hb0
 have hrl : r.length + 1 = s.length - a := by rw [← List.length_cons (a := b), ← hd, List.length_drop]
 obtain ⟨n40, n41, n58⟩ := M.dig_not h0
 have q40 : ((b.toNat : Int) == 40) = false := ne_byte n40 rfl
 have q41 : ((b.toNat : Int) == 41) = false := ne_byte n41 rfl
 have q58 : ((b.toNat : Int) == 58) = false := ne_byte n58 rfl
 subst hb
 obtain ⟨m, hm⟩ : ∃ m, a + ([48] : List UInt8).length = m := ⟨_, rfl⟩
 have hul : ([48] : List UInt8).length ≤ r.length + 1 := by rw [← hu]; exact M.takeWhile_len _ _
 have hml : m ≤ s.length := by omega
 have ham : a < m := by rw [← hm]; simp
 have hx : (⟨s.toArray⟩ : ByteArray).extract a m = ⟨([48] : List UInt8).toArray⟩ := by rw [← hm]; exact ext_run s a _ _ (by rw [hd]; exact run_take hu)
 have HO := hid (hm ▸ M.one_mix h0 hu hc hsc : M.OneIs (48 :: r) a (3, ([48] : List UInt8)) m false)
 have HDG := hid (show ∀ w, Calls Tryz.prog 178 #[.int .u8 ((48 : UInt8).toNat : Int)] w fun e w' => e = .returned (.bool true) ∧ w = w' from fun w => h0 ▸ rDigit_n _ w)
 have HIN := hid (show ∀ k, a ≤ k → k < m → ∃ x, s[k]? = some x ∧ M.dig x = true from fun k hk1 hk2 => by
  have hlt2 : k - a < ((48 :: r).takeWhile M.dig).length := by rw [hu]; omega
  obtain ⟨x, h5, h6⟩ := takeWhile_get hlt2
  rw [← hd, List.getElem?_drop, show a + (k - a) = k by omega] at h5
  exact ⟨x, h5, h6⟩)
 have hcm : s[m]? = some c := by rw [← hm, ← List.getElem?_drop, hd]; exact hc
 have hmE : m < s.length := (List.getElem?_eq_some_iff.1 hcm).1
 have hidm := idx_str 9 Tryz.underlying9 s m c rfl hcm
 have HDC := hid (show ∀ w, Calls Tryz.prog 178 #[.int .u8 (c.toNat : Int)] w fun e w' => e = .returned (.bool false) ∧ w = w' from fun w => (M.next_not (p := M.dig) (l := 48 :: r) (c := c) (by rw [hu]; exact hc)) ▸ rDigit_n c w)
 have HSC := hid (show ∀ w, Calls Tryz.prog 177 #[.int .u8 (c.toNat : Int)] w fun e w' => e = .returned (.bool true) ∧ w = w' from fun w => hsc ▸ rSign_n c w)
 obtain ⟨L, hL⟩ : ∃ L, L = s.length := ⟨_, rfl⟩
 have hsz : (s.length : Int) = (L : Int) := by rw [hL]
 have hmL : m < L := by omega
 have hL9 : L ≤ 1000000 := by omega
 clear hc hsc hcm hmE hL hs
 clear hd hb0 hrl h0 n40 n41 n58 hu hm
 go_enter Tryz.func172, Tryz.ntmps172
 go_wp2_with (go_at_call 178; refine (HDG.out _).mono ?_; rintro e w' ⟨rfl, rfl⟩)
 go_loop [8] (fun i => ∃ k : Nat, a ≤ k ∧ k ≤ m ∧ i = .int .i64 (k : Int)) (fun i => L - (intOf i).toNat)
 case atStart => exact ⟨a, Nat.le_refl _, by omega, rfl⟩
 case round =>
  obtain ⟨k, hak, hk, rfl⟩ := hrel
  rcases Nat.lt_or_ge k m with hkm | hkm
  ·obtain ⟨x, hx3, hdx⟩ := HIN.out k hak hkm
   have hidk := idx_str 9 Tryz.underlying9 s k x rfl hx3
   have HX3 := hid (show ∀ w, Calls Tryz.prog 178 #[.int .u8 (x.toNat : Int)] w fun e w' => e = .returned (.bool true) ∧ w = w' from fun w => hdx ▸ rDigit_n x w)
   have hks : (k : Int) < (L : Int) := by omega
   clear hx3 hdx
   go_wp2_with (go_at_call 178; refine (HX3.out _).mono ?_; rintro e w' ⟨rfl, rfl⟩)
   go_round
   case rel => exact ⟨k + 1, by omega, by omega, by simp⟩
   case measure => simp [intOf]; omega
  ·obtain rfl : k = m := by omega
   have hkL : k ≤ L := by omega
   have hkL2 : (k : Int) ≤ (L : Int) := by omega
   have hq1 : (k : Int) < (L : Int) := by omega
   have hq2 : ((k : Int) == (L : Int)) = false := by simp; omega
   go_wp2_with (first | (go_at_call 178; refine (HDC.out _).mono ?_; rintro e w' ⟨rfl, rfl⟩) | (go_at_call 177; refine (HSC.out _).mono ?_; rintro e w' ⟨rfl, rfl⟩))
   refine bodyPost_ret (v := .tuple #[.agg #[.int .i64 3, str ([48] : List UInt8)], .int .i64 (k : Int), .bool false]) (by simp [results, Tryz.results172, go_sem]) rfl ⟨_, _, _, rfl, HO.out, ?_⟩
   first | exact Ext.alloc _ _ | exact ((Ext.alloc _ _).set' (Nat.le_refl _) _).set' (Nat.le_refl _) _
set_option maxHeartbeats 2000000 in
theorem one_digBN (s : List UInt8) (a : Nat) (b : UInt8) (r : List UInt8) (hd : s.drop a = b :: r) (hs : s.length ≤ 1000000) (w : World) (h0 : M.dig b = true) (hb : b = 48) (hu : (b :: r).takeWhile M.dig = [48]) (c : UInt8) (hc : (b :: r)[([48] : List UInt8).length]? = some c) (hsc : M.sym c = false) : Calls Tryz.prog 172 #[str s, .int .i64 (a : Int)] w (GivesOne w (b :: r) a) := by
 have hb0 : s[a]? = some b := by have := congrArg (fun l => l[0]?) hd; simpa using this
 have hlt : a < s.length := (List.getElem?_eq_some_iff.1 hb0).1
 have hidx := idx_str 9 Tryz.underlying9 s a b rfl hb0
 have hrl : r.length + 1 = s.length - a := by rw [← List.length_cons (a := b), ← hd, List.length_drop]
 obtain ⟨n40, n41, n58⟩ := M.dig_not h0
 have q40 : ((b.toNat : Int) == 40) = false := ne_byte n40 rfl
 have q41 : ((b.toNat : Int) == 41) = false := ne_byte n41 rfl
 have q58 : ((b.toNat : Int) == 58) = false := ne_byte n58 rfl
 subst hb
 obtain ⟨m, hm⟩ : ∃ m, a + ([48] : List UInt8).length = m := ⟨_, rfl⟩
 have hul : ([48] : List UInt8).length ≤ r.length + 1 := by rw [← hu]; exact M.takeWhile_len _ _
 have hml : m ≤ s.length := by omega
 have ham : a < m := by rw [← hm]; simp
 have hx : (⟨s.toArray⟩ : ByteArray).extract a m = ⟨([48] : List UInt8).toArray⟩ := by rw [← hm]; exact ext_run s a _ _ (by rw [hd]; exact run_take hu)
 have HO := hid (hm ▸ M.one_num h0 hu (fun c' hc' => by rw [hc] at hc'; injection hc' with e; rw [← e]; exact hsc) (rfl) : M.OneIs (48 :: r) a (3, ([48] : List UInt8)) m true)
 have HDG := hid (show ∀ w, Calls Tryz.prog 178 #[.int .u8 ((48 : UInt8).toNat : Int)] w fun e w' => e = .returned (.bool true) ∧ w = w' from fun w => h0 ▸ rDigit_n _ w)
 have HIN := hid (show ∀ k, a ≤ k → k < m → ∃ x, s[k]? = some x ∧ M.dig x = true from fun k hk1 hk2 => by
  have hlt2 : k - a < ((48 :: r).takeWhile M.dig).length := by rw [hu]; omega
  obtain ⟨x, h5, h6⟩ := takeWhile_get hlt2
  rw [← hd, List.getElem?_drop, show a + (k - a) = k by omega] at h5
  exact ⟨x, h5, h6⟩)
 have hcm : s[m]? = some c := by rw [← hm, ← List.getElem?_drop, hd]; exact hc
 have hmE : m < s.length := (List.getElem?_eq_some_iff.1 hcm).1
 have hidm := idx_str 9 Tryz.underlying9 s m c rfl hcm
 have HDC := hid (show ∀ w, Calls Tryz.prog 178 #[.int .u8 (c.toNat : Int)] w fun e w' => e = .returned (.bool false) ∧ w = w' from fun w => (M.next_not (p := M.dig) (l := 48 :: r) (c := c) (by rw [hu]; exact hc)) ▸ rDigit_n c w)
 have HSC := hid (show ∀ w, Calls Tryz.prog 177 #[.int .u8 (c.toNat : Int)] w fun e w' => e = .returned (.bool false) ∧ w = w' from fun w => hsc ▸ rSign_n c w)
 obtain ⟨L, hL⟩ : ∃ L, L = s.length := ⟨_, rfl⟩
 have hsz : (s.length : Int) = (L : Int) := by rw [hL]
 have hmL : m < L := by omega
 have hL9 : L ≤ 1000000 := by omega
 clear hc hsc hcm hmE hL hs
 clear hd hb0 hrl h0 n40 n41 n58 hu hm
 go_enter Tryz.func172, Tryz.ntmps172
 go_wp2_with (go_at_call 178; refine (HDG.out _).mono ?_; rintro e w' ⟨rfl, rfl⟩)
 go_loop [8] (fun i => ∃ k : Nat, a ≤ k ∧ k ≤ m ∧ i = .int .i64 (k : Int)) (fun i => L - (intOf i).toNat)
 case atStart => exact ⟨a, Nat.le_refl _, by omega, rfl⟩
 case round =>
  obtain ⟨k, hak, hk, rfl⟩ := hrel
  rcases Nat.lt_or_ge k m with hkm | hkm
  ·obtain ⟨x, hx3, hdx⟩ := HIN.out k hak hkm
   have hidk := idx_str 9 Tryz.underlying9 s k x rfl hx3
   have HX3 := hid (show ∀ w, Calls Tryz.prog 178 #[.int .u8 (x.toNat : Int)] w fun e w' => e = .returned (.bool true) ∧ w = w' from fun w => hdx ▸ rDigit_n x w)
   have hks : (k : Int) < (L : Int) := by omega
   clear hx3 hdx
   go_wp2_with (go_at_call 178; refine (HX3.out _).mono ?_; rintro e w' ⟨rfl, rfl⟩)
   go_round
   case rel => exact ⟨k + 1, by omega, by omega, by simp⟩
   case measure => simp [intOf]; omega
  ·obtain rfl : k = m := by omega
   have hkL : k ≤ L := by omega
   have hkL2 : (k : Int) ≤ (L : Int) := by omega
   have hq1 : (k : Int) < (L : Int) := by omega
   have hq2 : ((k : Int) == (L : Int)) = false := by simp; omega
   go_wp2_with (first | (go_at_call 178; refine (HDC.out _).mono ?_; rintro e w' ⟨rfl, rfl⟩) | (go_at_call 177; refine (HSC.out _).mono ?_; rintro e w' ⟨rfl, rfl⟩))
   refine bodyPost_ret (v := .tuple #[.agg #[.int .i64 3, str ([48] : List UInt8)], .int .i64 (k : Int), .bool true]) (by simp [results, Tryz.results172, go_sem]) rfl ⟨_, _, _, rfl, HO.out, ?_⟩
   first | exact Ext.alloc _ _ | exact ((Ext.alloc _ _).set' (Nat.le_refl _) _).set' (Nat.le_refl _) _
set_option maxHeartbeats 2000000 in
theorem one_digCE (s : List UInt8) (a : Nat) (b : UInt8) (r : List UInt8) (hd : s.drop a = b :: r) (hs : s.length ≤ 1000000) (w : World) (h0 : M.dig b = true) (c3 : UInt8) (u' : List UInt8) (hb : b = 48) (hu : (b :: r).takeWhile M.dig = 48 :: c3 :: u') (hE : a + (48 :: c3 :: u').length = s.length) : Calls Tryz.prog 172 #[str s, .int .i64 (a : Int)] w (GivesOne w (b :: r) a) := by
 have hb0 : s[a]? = some b := by have := congrArg (fun l => l[0]?) hd; simpa using this
 have hlt : a < s.length := (List.getElem?_eq_some_iff.1 hb0).1
 have hidx := idx_str 9 Tryz.underlying9 s a b rfl hb0
 have hrl : r.length + 1 = s.length - a := by rw [← List.length_cons (a := b), ← hd, List.length_drop]
 obtain ⟨n40, n41, n58⟩ := M.dig_not h0
 have q40 : ((b.toNat : Int) == 40) = false := ne_byte n40 rfl
 have q41 : ((b.toNat : Int) == 41) = false := ne_byte n41 rfl
 have q58 : ((b.toNat : Int) == 58) = false := ne_byte n58 rfl
 subst hb
 have hg : ∀ h : 0 < (⟨(48 :: c3 :: u').toArray⟩ : ByteArray).size, (⟨(48 :: c3 :: u').toArray⟩ : ByteArray)[0]'h = 48 := fun _ => rfl
 obtain ⟨m, hm⟩ : ∃ m, a + (48 :: c3 :: u').length = m := ⟨_, rfl⟩
 have hul : (48 :: c3 :: u').length ≤ r.length + 1 := by rw [← hu]; exact M.takeWhile_len _ _
 have hml : m ≤ s.length := by omega
 have ham : a < m := by rw [← hm]; simp
 have hx : (⟨s.toArray⟩ : ByteArray).extract a m = ⟨(48 :: c3 :: u').toArray⟩ := by rw [← hm]; exact ext_run s a _ _ (by rw [hd]; exact run_take hu)
 have HO := hid (hm ▸ M.one_num h0 hu (fun c hc => by have := (List.getElem?_eq_some_iff.1 hc).1; simp at this hE; omega) (by simp [M.isNum]) : M.OneIs (48 :: r) a (3, (48 :: c3 :: u')) m false)
 have HDG := hid (show ∀ w, Calls Tryz.prog 178 #[.int .u8 ((48 : UInt8).toNat : Int)] w fun e w' => e = .returned (.bool true) ∧ w = w' from fun w => h0 ▸ rDigit_n _ w)
 have HIN := hid (show ∀ k, a ≤ k → k < m → ∃ x, s[k]? = some x ∧ M.dig x = true from fun k hk1 hk2 => by
  have hlt2 : k - a < ((48 :: r).takeWhile M.dig).length := by rw [hu]; omega
  obtain ⟨x, h5, h6⟩ := takeWhile_get hlt2
  rw [← hd, List.getElem?_drop, show a + (k - a) = k by omega] at h5
  exact ⟨x, h5, h6⟩)
 have hmE : m = s.length := by rw [← hm]; exact hE
 obtain ⟨L, hL⟩ : ∃ L, L = s.length := ⟨_, rfl⟩
 have hsz : (s.length : Int) = (L : Int) := by rw [hL]
 obtain rfl : m = L := by omega
 have hm9 : m ≤ 1000000 := by omega
 clear hE hmE hL hs
 clear hd hb0 hrl h0 n40 n41 n58 hu hm
 go_enter Tryz.func172, Tryz.ntmps172
 go_wp2_with (go_at_call 178; refine (HDG.out _).mono ?_; rintro e w' ⟨rfl, rfl⟩)
 go_loop [8] (fun i => ∃ k : Nat, a ≤ k ∧ k ≤ m ∧ i = .int .i64 (k : Int)) (fun i => m - (intOf i).toNat)
 case atStart => exact ⟨a, Nat.le_refl _, by omega, rfl⟩
 case round =>
  obtain ⟨k, hak, hk, rfl⟩ := hrel
  rcases Nat.lt_or_ge k m with hkm | hkm
  ·obtain ⟨x, hx3, hdx⟩ := HIN.out k hak hkm
   have hidk := idx_str 9 Tryz.underlying9 s k x rfl hx3
   have HX3 := hid (show ∀ w, Calls Tryz.prog 178 #[.int .u8 (x.toNat : Int)] w fun e w' => e = .returned (.bool true) ∧ w = w' from fun w => hdx ▸ rDigit_n x w)
   have hks : (k : Int) < (m : Int) := by omega
   clear hx3 hdx
   go_wp2_with (go_at_call 178; refine (HX3.out _).mono ?_; rintro e w' ⟨rfl, rfl⟩)
   go_round
   case rel => exact ⟨k + 1, by omega, by omega, by simp⟩
   case measure => simp [intOf]; omega
  ·obtain rfl : k = m := by omega
   go_wp2
   refine bodyPost_ret (v := .tuple #[.agg #[.int .i64 3, str (48 :: c3 :: u')], .int .i64 (k : Int), .bool false]) (by simp [results, Tryz.results172, go_sem]) rfl ⟨_, _, _, rfl, HO.out, ?_⟩
   first | exact Ext.alloc _ _ | exact ((Ext.alloc _ _).set' (Nat.le_refl _) _).set' (Nat.le_refl _) _
set_option maxHeartbeats 2000000 in
theorem one_digCS (s : List UInt8) (a : Nat) (b : UInt8) (r : List UInt8) (hd : s.drop a = b :: r) (hs : s.length ≤ 1000000) (w : World) (h0 : M.dig b = true) (c3 : UInt8) (u' : List UInt8) (hb : b = 48) (hu : (b :: r).takeWhile M.dig = 48 :: c3 :: u') (c : UInt8) (hc : (b :: r)[(48 :: c3 :: u').length]? = some c) (hsc : M.sym c = true) : Calls Tryz.prog 172 #[str s, .int .i64 (a : Int)] w (GivesOne w (b :: r) a) := by
 have hb0 : s[a]? = some b := by have := congrArg (fun l => l[0]?) hd; simpa using this
 have hlt : a < s.length := (List.getElem?_eq_some_iff.1 hb0).1
 have hidx := idx_str 9 Tryz.underlying9 s a b rfl hb0
 have hrl : r.length + 1 = s.length - a := by rw [← List.length_cons (a := b), ← hd, List.length_drop]
 obtain ⟨n40, n41, n58⟩ := M.dig_not h0
 have q40 : ((b.toNat : Int) == 40) = false := ne_byte n40 rfl
 have q41 : ((b.toNat : Int) == 41) = false := ne_byte n41 rfl
 have q58 : ((b.toNat : Int) == 58) = false := ne_byte n58 rfl
 subst hb
 have hg : ∀ h : 0 < (⟨(48 :: c3 :: u').toArray⟩ : ByteArray).size, (⟨(48 :: c3 :: u').toArray⟩ : ByteArray)[0]'h = 48 := fun _ => rfl
 obtain ⟨m, hm⟩ : ∃ m, a + (48 :: c3 :: u').length = m := ⟨_, rfl⟩
 have hul : (48 :: c3 :: u').length ≤ r.length + 1 := by rw [← hu]; exact M.takeWhile_len _ _
 have hml : m ≤ s.length := by omega
 have ham : a < m := by rw [← hm]; simp
 have hx : (⟨s.toArray⟩ : ByteArray).extract a m = ⟨(48 :: c3 :: u').toArray⟩ := by rw [← hm]; exact ext_run s a _ _ (by rw [hd]; exact run_take hu)
 have HO := hid (hm ▸ M.one_mix h0 hu hc hsc : M.OneIs (48 :: r) a (3, (48 :: c3 :: u')) m false)
 have HDG := hid (show ∀ w, Calls Tryz.prog 178 #[.int .u8 ((48 : UInt8).toNat : Int)] w fun e w' => e = .returned (.bool true) ∧ w = w' from fun w => h0 ▸ rDigit_n _ w)
 have HIN := hid (show ∀ k, a ≤ k → k < m → ∃ x, s[k]? = some x ∧ M.dig x = true from fun k hk1 hk2 => by
  have hlt2 : k - a < ((48 :: r).takeWhile M.dig).length := by rw [hu]; omega
  obtain ⟨x, h5, h6⟩ := takeWhile_get hlt2
  rw [← hd, List.getElem?_drop, show a + (k - a) = k by omega] at h5
  exact ⟨x, h5, h6⟩)
 have hcm : s[m]? = some c := by rw [← hm, ← List.getElem?_drop, hd]; exact hc
 have hmE : m < s.length := (List.getElem?_eq_some_iff.1 hcm).1
 have hidm := idx_str 9 Tryz.underlying9 s m c rfl hcm
 have HDC := hid (show ∀ w, Calls Tryz.prog 178 #[.int .u8 (c.toNat : Int)] w fun e w' => e = .returned (.bool false) ∧ w = w' from fun w => (M.next_not (p := M.dig) (l := 48 :: r) (c := c) (by rw [hu]; exact hc)) ▸ rDigit_n c w)
 have HSC := hid (show ∀ w, Calls Tryz.prog 177 #[.int .u8 (c.toNat : Int)] w fun e w' => e = .returned (.bool true) ∧ w = w' from fun w => hsc ▸ rSign_n c w)
 obtain ⟨L, hL⟩ : ∃ L, L = s.length := ⟨_, rfl⟩
 have hsz : (s.length : Int) = (L : Int) := by rw [hL]
 have hmL : m < L := by omega
 have hL9 : L ≤ 1000000 := by omega
 clear hc hsc hcm hmE hL hs
 clear hd hb0 hrl h0 n40 n41 n58 hu hm
 go_enter Tryz.func172, Tryz.ntmps172
 go_wp2_with (go_at_call 178; refine (HDG.out _).mono ?_; rintro e w' ⟨rfl, rfl⟩)
 go_loop [8] (fun i => ∃ k : Nat, a ≤ k ∧ k ≤ m ∧ i = .int .i64 (k : Int)) (fun i => L - (intOf i).toNat)
 case atStart => exact ⟨a, Nat.le_refl _, by omega, rfl⟩
 case round =>
  obtain ⟨k, hak, hk, rfl⟩ := hrel
  rcases Nat.lt_or_ge k m with hkm | hkm
  ·obtain ⟨x, hx3, hdx⟩ := HIN.out k hak hkm
   have hidk := idx_str 9 Tryz.underlying9 s k x rfl hx3
   have HX3 := hid (show ∀ w, Calls Tryz.prog 178 #[.int .u8 (x.toNat : Int)] w fun e w' => e = .returned (.bool true) ∧ w = w' from fun w => hdx ▸ rDigit_n x w)
   have hks : (k : Int) < (L : Int) := by omega
   clear hx3 hdx
   go_wp2_with (go_at_call 178; refine (HX3.out _).mono ?_; rintro e w' ⟨rfl, rfl⟩)
   go_round
   case rel => exact ⟨k + 1, by omega, by omega, by simp⟩
   case measure => simp [intOf]; omega
  ·obtain rfl : k = m := by omega
   have hkL : k ≤ L := by omega
   have hkL2 : (k : Int) ≤ (L : Int) := by omega
   have hq1 : (k : Int) < (L : Int) := by omega
   have hq2 : ((k : Int) == (L : Int)) = false := by simp; omega
   go_wp2_with (first | (go_at_call 178; refine (HDC.out _).mono ?_; rintro e w' ⟨rfl, rfl⟩) | (go_at_call 177; refine (HSC.out _).mono ?_; rintro e w' ⟨rfl, rfl⟩))
   refine bodyPost_ret (v := .tuple #[.agg #[.int .i64 3, str (48 :: c3 :: u')], .int .i64 (k : Int), .bool false]) (by simp [results, Tryz.results172, go_sem]) rfl ⟨_, _, _, rfl, HO.out, ?_⟩
   first | exact Ext.alloc _ _ | exact ((Ext.alloc _ _).set' (Nat.le_refl _) _).set' (Nat.le_refl _) _
set_option maxHeartbeats 2000000 in
theorem one_digCN (s : List UInt8) (a : Nat) (b : UInt8) (r : List UInt8) (hd : s.drop a = b :: r) (hs : s.length ≤ 1000000) (w : World) (h0 : M.dig b = true) (c3 : UInt8) (u' : List UInt8) (hb : b = 48) (hu : (b :: r).takeWhile M.dig = 48 :: c3 :: u') (c : UInt8) (hc : (b :: r)[(48 :: c3 :: u').length]? = some c) (hsc : M.sym c = false) : Calls Tryz.prog 172 #[str s, .int .i64 (a : Int)] w (GivesOne w (b :: r) a) := by
 have hb0 : s[a]? = some b := by have := congrArg (fun l => l[0]?) hd; simpa using this
 have hlt : a < s.length := (List.getElem?_eq_some_iff.1 hb0).1
 have hidx := idx_str 9 Tryz.underlying9 s a b rfl hb0
 have hrl : r.length + 1 = s.length - a := by rw [← List.length_cons (a := b), ← hd, List.length_drop]
 obtain ⟨n40, n41, n58⟩ := M.dig_not h0
 have q40 : ((b.toNat : Int) == 40) = false := ne_byte n40 rfl
 have q41 : ((b.toNat : Int) == 41) = false := ne_byte n41 rfl
 have q58 : ((b.toNat : Int) == 58) = false := ne_byte n58 rfl
 subst hb
 have hg : ∀ h : 0 < (⟨(48 :: c3 :: u').toArray⟩ : ByteArray).size, (⟨(48 :: c3 :: u').toArray⟩ : ByteArray)[0]'h = 48 := fun _ => rfl
 obtain ⟨m, hm⟩ : ∃ m, a + (48 :: c3 :: u').length = m := ⟨_, rfl⟩
 have hul : (48 :: c3 :: u').length ≤ r.length + 1 := by rw [← hu]; exact M.takeWhile_len _ _
 have hml : m ≤ s.length := by omega
 have ham : a < m := by rw [← hm]; simp
 have hx : (⟨s.toArray⟩ : ByteArray).extract a m = ⟨(48 :: c3 :: u').toArray⟩ := by rw [← hm]; exact ext_run s a _ _ (by rw [hd]; exact run_take hu)
 have HO := hid (hm ▸ M.one_num h0 hu (fun c' hc' => by rw [hc] at hc'; injection hc' with e; rw [← e]; exact hsc) (by simp [M.isNum]) : M.OneIs (48 :: r) a (3, (48 :: c3 :: u')) m false)
 have HDG := hid (show ∀ w, Calls Tryz.prog 178 #[.int .u8 ((48 : UInt8).toNat : Int)] w fun e w' => e = .returned (.bool true) ∧ w = w' from fun w => h0 ▸ rDigit_n _ w)
 have HIN := hid (show ∀ k, a ≤ k → k < m → ∃ x, s[k]? = some x ∧ M.dig x = true from fun k hk1 hk2 => by
  have hlt2 : k - a < ((48 :: r).takeWhile M.dig).length := by rw [hu]; omega
  obtain ⟨x, h5, h6⟩ := takeWhile_get hlt2
  rw [← hd, List.getElem?_drop, show a + (k - a) = k by omega] at h5
  exact ⟨x, h5, h6⟩)
 have hcm : s[m]? = some c := by rw [← hm, ← List.getElem?_drop, hd]; exact hc
 have hmE : m < s.length := (List.getElem?_eq_some_iff.1 hcm).1
 have hidm := idx_str 9 Tryz.underlying9 s m c rfl hcm
 have HDC := hid (show ∀ w, Calls Tryz.prog 178 #[.int .u8 (c.toNat : Int)] w fun e w' => e = .returned (.bool false) ∧ w = w' from fun w => (M.next_not (p := M.dig) (l := 48 :: r) (c := c) (by rw [hu]; exact hc)) ▸ rDigit_n c w)
 have HSC := hid (show ∀ w, Calls Tryz.prog 177 #[.int .u8 (c.toNat : Int)] w fun e w' => e = .returned (.bool false) ∧ w = w' from fun w => hsc ▸ rSign_n c w)
 obtain ⟨L, hL⟩ : ∃ L, L = s.length := ⟨_, rfl⟩
 have hsz : (s.length : Int) = (L : Int) := by rw [hL]
 have hmL : m < L := by omega
 have hL9 : L ≤ 1000000 := by omega
 clear hc hsc hcm hmE hL hs
 clear hd hb0 hrl h0 n40 n41 n58 hu hm
 go_enter Tryz.func172, Tryz.ntmps172
 go_wp2_with (go_at_call 178; refine (HDG.out _).mono ?_; rintro e w' ⟨rfl, rfl⟩)
 go_loop [8] (fun i => ∃ k : Nat, a ≤ k ∧ k ≤ m ∧ i = .int .i64 (k : Int)) (fun i => L - (intOf i).toNat)
 case atStart => exact ⟨a, Nat.le_refl _, by omega, rfl⟩
 case round =>
  obtain ⟨k, hak, hk, rfl⟩ := hrel
  rcases Nat.lt_or_ge k m with hkm | hkm
  ·obtain ⟨x, hx3, hdx⟩ := HIN.out k hak hkm
   have hidk := idx_str 9 Tryz.underlying9 s k x rfl hx3
   have HX3 := hid (show ∀ w, Calls Tryz.prog 178 #[.int .u8 (x.toNat : Int)] w fun e w' => e = .returned (.bool true) ∧ w = w' from fun w => hdx ▸ rDigit_n x w)
   have hks : (k : Int) < (L : Int) := by omega
   clear hx3 hdx
   go_wp2_with (go_at_call 178; refine (HX3.out _).mono ?_; rintro e w' ⟨rfl, rfl⟩)
   go_round
   case rel => exact ⟨k + 1, by omega, by omega, by simp⟩
   case measure => simp [intOf]; omega
  ·obtain rfl : k = m := by omega
   have hkL : k ≤ L := by omega
   have hkL2 : (k : Int) ≤ (L : Int) := by omega
   have hq1 : (k : Int) < (L : Int) := by omega
   have hq2 : ((k : Int) == (L : Int)) = false := by simp; omega
   go_wp2_with (first | (go_at_call 178; refine (HDC.out _).mono ?_; rintro e w' ⟨rfl, rfl⟩) | (go_at_call 177; refine (HSC.out _).mono ?_; rintro e w' ⟨rfl, rfl⟩))
   refine bodyPost_ret (v := .tuple #[.agg #[.int .i64 3, str (48 :: c3 :: u')], .int .i64 (k : Int), .bool false]) (by simp [results, Tryz.results172, go_sem]) rfl ⟨_, _, _, rfl, HO.out, ?_⟩
   first | exact Ext.alloc _ _ | exact ((Ext.alloc _ _).set' (Nat.le_refl _) _).set' (Nat.le_refl _) _
end Go.Proofs.YtgkofipifjfjhaaGreatDoor.Q

/-
  Contracts of the reference: one, Words.
-/
namespace Go.Proofs.YtgkofipifjfjhaaGreatDoor.Q
set_option linter.unusedSimpArgs false
set_option linter.unusedVariables false
open Go.RowKit

theorem one_n (s : List UInt8) (a : Nat) (b : UInt8) (r : List UInt8) (hd : s.drop a = b :: r) (hs : s.length ≤ 1000000) (w : World) : Calls Tryz.prog 172 #[str s, .int .i64 (a : Int)] w (GivesOne w (b :: r) a) := by
 by_cases h1 : b = 40
 ·exact one_paren s a b r hd hs w (.inl h1)
 by_cases h2 : b = 41
 ·exact one_paren s a b r hd hs w (.inr h2)
 by_cases h3 : b = 58
 ·subst h3
  exact one_colon s a r hd hs w
 have hrl : r.length + 1 = s.length - a := by rw [← List.length_cons (a := b), ← hd, List.length_drop]
 rcases h0 : M.dig b with _ | _
 ·rcases h4 : M.sym b with _ | _
  ·exact one_none s a b r hd hs w h1 h2 h3 h0 h4
  ·exact one_word s a b r hd hs w h1 h2 h3 h0 h4
 ·obtain ⟨u', hu⟩ : ∃ u', (b :: r).takeWhile M.dig = b :: u' := ⟨_, by rw [List.takeWhile_cons, if_pos h0]⟩
  have hul : (b :: u').length ≤ (b :: r).length := by rw [← hu]; exact M.takeWhile_len _ _
  by_cases h48 : b = 48
  ·rcases u' with _ | ⟨c3, u'⟩
   ·subst h48
    rcases Nat.lt_or_ge [(48 : UInt8)].length ((48 : UInt8) :: r).length with hlt | hge
    ·have hc := List.getElem?_eq_getElem hlt
     rcases hsc : M.sym ((48 :: r)[[(48 : UInt8)].length]) with _ | _
     ·exact one_digBN s a 48 r hd hs w h0 rfl hu _ hc hsc
     ·exact one_digBS s a 48 r hd hs w h0 rfl hu _ hc hsc
    ·exact one_digBE s a 48 r hd hs w h0 rfl hu (by simp only [List.length_cons, List.length_nil] at hge hul ⊢; omega)
   ·subst h48
    rcases Nat.lt_or_ge (48 :: c3 :: u').length ((48 : UInt8) :: r).length with hlt | hge
    ·have hc := List.getElem?_eq_getElem hlt
     rcases hsc : M.sym ((48 :: r)[(48 :: c3 :: u').length]) with _ | _
     ·exact one_digCN s a 48 r hd hs w h0 c3 u' rfl hu _ hc hsc
     ·exact one_digCS s a 48 r hd hs w h0 c3 u' rfl hu _ hc hsc
    ·exact one_digCE s a 48 r hd hs w h0 c3 u' rfl hu (by simp only [List.length_cons, List.length_nil] at hge hul ⊢; omega)
  ·rcases Nat.lt_or_ge (b :: u').length (b :: r).length with hlt | hge
   ·have hc := List.getElem?_eq_getElem hlt
    rcases hsc : M.sym ((b :: r)[(b :: u').length]) with _ | _
    ·exact one_digAN s a b r hd hs w h0 u' hu h48 _ hc hsc
    ·exact one_digAS s a b r hd hs w h0 u' hu h48 _ hc hsc
   ·exact one_digAE s a b r hd hs w h0 u' hu h48 (by simp only [List.length_cons, List.length_nil] at hge hul ⊢; omega)
namespace M
theorem WordsAt.same {s : List UInt8} {ts : List Tok} {k k' : Nat} (h : WordsAt s ts k) (hk : k ≤ k') (hl : k' ≤ s.length) (hs : skip (s.drop k) = skip (s.drop k')) : WordsAt s ts k' := by
 obtain ⟨h1, h2, h3⟩ := h
 rw [scan_of_skip hs] at h1
 exact ⟨h1, hl, by omega⟩
theorem drop_at {s r : List UInt8} {k : Nat} {b : UInt8} (hd : s.drop k = b :: r) : s.drop (k + 1) = r := by rw [← List.drop_drop, hd]; rfl
theorem WordsAt.blank {s r : List UInt8} {ts : List Tok} {k : Nat} {b : UInt8} (h : WordsAt s ts k) (hd : s.drop k = b :: r) (hb : blank b = true) : WordsAt s ts (k + 1) := by
 have hl : r.length + 1 = s.length - k := by rw [← List.length_cons (a := b), ← hd, List.length_drop]
 exact h.same (by omega) (by omega) (by rw [hd, skip_blank hb, drop_at hd])
theorem WordsAt.remark {s r : List UInt8} {ts : List Tok} {k m : Nat} (h : WordsAt s ts k) (hd : s.drop k = 59 :: r) (hm : ((59 :: r).takeWhile (fun b => b != 10)).length = m) : WordsAt s ts (k + m) ∧ 1 ≤ m ∧ k + m ≤ s.length := by
 have hl : r.length + 1 = s.length - k := by rw [← List.length_cons (a := (59 : UInt8)), ← hd, List.length_drop]
 have h1 : m ≤ r.length + 1 := by rw [← hm]; exact takeWhile_len _ (59 :: r)
 refine ⟨h.same (by omega) (by omega) ?_, ?_, by omega⟩
 ·rw [hd, skip_remark, skipT, ← List.drop_drop, hd, ← hm, ← dropWhile_drop, List.dropWhile_cons_of_pos (by decide)]
 ·rw [← hm, List.takeWhile_cons, if_pos (by decide)]; simp
end M
def RRound (s : List UInt8) (W : World) (o : Value) (ts : List M.Tok) (k : Nat) (wr : World) : Prop := M.WordsAt s ts k ∧ OwnT W.heap.size wr o ts ∧ Ext W wr
set_option maxHeartbeats 8000000 in
set_option maxRecDepth 100000 in
theorem rWords_n (s : List UInt8) (hs : s.length ≤ 1000000000000) (w : World) : Calls Tryz.prog 125 #[str s] w (GivesW w (M.wToks s) (M.wAt s) (M.wErr s)) := by
 rcases Nat.lt_or_ge 4000 s.length with hl | hl
 ·obtain ⟨h1, h2, h3⟩ := M.w_large hl
  rw [h1, h2, h3]
  have hq : (4000 < (s.length : Int)) := by omega
  clear h1 h2 h3
  go_enter Tryz.func125, Tryz.ntmps125
  go_wp2
  go_ret3
  exact ⟨.slice none 0 0, rfl, TList.nil _, Ext.refl _⟩
 ·have hq : ((s.length : Int) ≤ 4000) := by omega
  obtain ⟨L, hL⟩ : ∃ L, L = s.length := ⟨_, rfl⟩
  have HL := hid hL
  have hsz : (s.length : Int) = (L : Int) := by rw [hL]
  have hL4 : L ≤ 4000 := by omega
  have hL5 : (L : Int) ≤ 4000 := by omega
  have HW0 := hid (M.WordsAt.zero s)
  clear hL hq
  go_enter Tryz.func125, Tryz.ntmps125
  go_wp2
  go_loopw [5, 6] (fun o i wr => ∃ (ts : List M.Tok) (k : Nat), i = .int .i64 (k : Int) ∧ k ≤ L ∧ Hid (RRound s w o ts k wr)) (fun _ i _ => L - (intOf i).toNat)
  case atStart => exact ⟨[], 0, rfl, Nat.zero_le _, HW0.out, OwnT.nil _ _, Ext.refl _⟩
  case round =>
   obtain ⟨ts, k, rfl, hk, hR⟩ := hrel
   rcases Nat.lt_or_ge k L with hlt | hge
   ·rcases hd : s.drop k with _ | ⟨b, r⟩
    ·exfalso; have := congrArg List.length hd; rw [List.length_drop, ← HL.out] at this; simp at this; omega
    ·have hdl : r.length + 1 = L - k := by rw [← List.length_cons (a := b), ← hd, List.length_drop, HL.out]
     have hb0 : s[k]? = some b := by have := congrArg (fun l => l[0]?) hd; simpa using this
     have hidx := idx_str 9 Tryz.underlying9 s k b rfl hb0
     have hlt' : (k : Int) < (L : Int) := by omega
     rcases hbl : M.blank b with _ | _
     ·obtain ⟨nb1, nb2, nb3, nb4⟩ : b ≠ 32 ∧ b ≠ 9 ∧ b ≠ 10 ∧ b ≠ 13 := by
       have := M.blank_iff b; rw [hbl] at this; simpa [and_assoc] using this.symm
      have q1 := ne_byte nb1 (n := 32) rfl
      have q2 := ne_byte nb2 (n := 9) rfl
      have q3 := ne_byte nb3 (n := 10) rfl
      have q4 := ne_byte nb4 (n := 13) rfl
      by_cases h59 : b = 59
      ·subst h59
       obtain ⟨m, hm⟩ : ∃ m, ((59 :: r).takeWhile (fun b => b != 10)).length = m := ⟨_, rfl⟩
       obtain ⟨hw1, hw2, hw3⟩ := hR.out.1.remark hd hm
       obtain ⟨E, hE⟩ : ∃ E, k + m = E := ⟨_, rfl⟩
       rw [hE] at hw1 hw3
       have hkE : k < E := by omega
       have hEL : E ≤ L := by rw [HL.out]; exact hw3
       have HW := hid hw1
       have HIN := hid (show ∀ j, k ≤ j → j < E → ∃ x, s[j]? = some x ∧ (x != 10) = true from fun j hj1 hj2 => by
        obtain ⟨x, h5, h6⟩ := takeWhile_get (p := fun b => b != 10) (l := 59 :: r) (j := j - k) (by rw [hm]; omega)
        rw [← hd, List.getElem?_drop, show k + (j - k) = j by omega] at h5
        exact ⟨x, h5, h6⟩)
       have HEND := hid (show E < L → s[E]? = some 10 from fun hlt2 => by
        obtain ⟨x, hx⟩ : ∃ x, s[E]? = some x := ⟨_, List.getElem?_eq_getElem (by rw [← HL.out]; exact hlt2)⟩
        have h5 : (59 :: r)[((59 :: r).takeWhile (fun b => b != 10)).length]? = some x := by rw [hm, ← hd, List.getElem?_drop, hE]; exact hx
        have h6 := M.next_not h5
        rw [hx]
        simpa using h6)
       clear hd hdl hb0 hbl hm hw1 hw2 hw3 hE nb1 nb2 nb3 nb4
       go_wp2
       go_loop [6] (fun i => ∃ j : Nat, k ≤ j ∧ j ≤ E ∧ i = .int .i64 (j : Int)) (fun i => L - (intOf i).toNat)
       case atStart => exact ⟨k, Nat.le_refl _, by omega, rfl⟩
       case round =>
        obtain ⟨j, hkj, hj, rfl⟩ := hrel
        rcases Nat.lt_or_ge j E with hjE | hjE
        ·obtain ⟨x, hx3, hx4⟩ := HIN.out j hkj hjE
         have hidj := idx_str 9 Tryz.underlying9 s j x rfl hx3
         have hne : x ≠ 10 := by simpa using hx4
         have qa := ne_byte hne (n := 10) rfl
         have qb : ((x.toNat : Int) != 10) = true := by rw [bne, qa]; rfl
         have hjL : (j : Int) < (L : Int) := by omega
         clear hx3 hx4 hne
         go_wp2
         go_round
         case rel => exact ⟨j + 1, by omega, by omega, by simp⟩
         case measure => simp [intOf]; omega
        ·obtain rfl : j = E := by omega
         rcases Nat.lt_or_ge j L with hjL | hjL
         ·have hidj := idx_str 9 Tryz.underlying9 s j 10 rfl (HEND.out hjL)
          have hjL2 : (j : Int) < (L : Int) := by omega
          go_wp2
          go_roundw
          case rel => exact ⟨ts, j, rfl, by omega, HW.out, hR.out.2⟩
          case measure => simp [intOf]; omega
         ·obtain rfl : j = L := by omega
          go_wp2
          go_roundw
          case rel => exact ⟨ts, j, rfl, Nat.le_refl _, HW.out, hR.out.2⟩
          case measure => simp [intOf]; omega
      ·have q5 := ne_byte h59 (n := 59) rfl
       have HS := hid (M.skip_word hbl h59 r)
       have HO := hid (show ∀ w, Calls Tryz.prog 172 #[str s, .int .i64 (k : Int)] w (GivesOne w (b :: r) k) from fun w => one_n s k b r hd (by omega) w)
       have HD := hid hd
       clear hd hdl hb0 hbl nb1 nb2 nb3 nb4 h59
       go_wp2_with fail
       refine (HO.out _).mono ?_
       rintro e w2 ⟨t, m, ok, rfl, hone, hb⟩
       have E2 := hid hb
       have H1 := hid hone
       clear hb hone
       cases ok
       ·have HB := hid (M.w_bad hl (by rw [← HL.out]; exact hk) (hR.out.1.bad HD.out HS.out (H1.out.2 rfl)))
        go_wp2
        go_ret3
        rw [HB.out.1, HB.out.2.1, HB.out.2.2]
        exact ⟨.slice none 0 0, rfl, TList.nil _, (hR.out.2.2.trans E2.out).alloc' _⟩
       ·obtain ⟨hf, hkm⟩ := H1.out.1 rfl
        have hfl := M.first_len hf
        have W1 := hR.out.1.tok HD.out HS.out hf
        rw [show k + (m - k) = m by omega] at W1
        have HW := hid W1
        have hkm2 : k < m := by omega
        have hmL : m ≤ L := by rw [HL.out]; exact W1.2.1
        have htl : ts.length ≤ 4000 := Nat.le_trans hR.out.1.2.2 (by omega)
        clear hf hfl W1 hkm
        go_wp2_with (at_builtin; refine wpList_appT rfl (.tmp 61) (.tmp 63) rfl w.heap.size _ ts rfl (((hR.out.2.1.up E2.out).alloc _).alloc _) _ t rfl ?c0 ?c1 ?c2 ?c3 ?_)
        case c0 => simp
        case c1 => simp
        case c2 => omega
        case c3 => have h1 := hR.out.2.2.size; have h2 := E2.out.size; simp; omega
        intro v' w3 hown hbel
        have HOW := hid hown
        have HE := hid (show Ext w w3 from Below.trans (B := w.heap.size) (((hR.out.2.2.trans E2.out).alloc' _).alloc' _) hbel)
        clear hown hbel
        go_wp2
        go_roundw
        case rel => exact ⟨ts ++ [t], m, rfl, hmL, HW.out, HOW.out, HE.out⟩
        case measure => simp [intOf]; omega
     ·have hW := hid (hR.out.1.blank hd hbl)
      have hcase : b = 32 ∨ b = 9 ∨ b = 10 ∨ b = 13 := by
       have := M.blank_iff b; rw [hbl] at this; simpa [or_assoc] using this.symm
      clear hd hdl hb0 hbl
      rcases hcase with rfl | rfl | rfl | rfl
      all_goals
       go_wp2
       go_roundw
       case rel => exact ⟨ts, k + 1, by simp, by omega, hW.out, hR.out.2⟩
       case measure => simp [intOf]; omega
   ·obtain rfl : k = L := by omega
    have HD := hid (M.w_done hl (hR.out.1.done HL.out))
    have hk5 := hid (show (k : Int) = ((s.length : Nat) : Int) by rw [HL.out])
    go_wp2
    go_ret3
    rw [HD.out.1, HD.out.2.1, HD.out.2.2, ← HL.out]
    exact ⟨_, rfl, hR.out.2.1.list, hR.out.2.2⟩
end Go.Proofs.YtgkofipifjfjhaaGreatDoor.Q

