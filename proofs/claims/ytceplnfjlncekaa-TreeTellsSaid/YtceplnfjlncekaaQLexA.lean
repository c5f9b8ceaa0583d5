/-
  Contracts of package lex: symbolic, Symbol, numeral, gap, token, printed.
-/
import Derived.Test.YtceplnfjlncekaaQWords
namespace Go.Proofs.Ytceplnfjlncekaa
set_option linter.unusedSimpArgs false
set_option linter.unusedVariables false
open Go.RowKit

def GivesI (w : World) (z : Int) (e : Ending) (w' : World) : Prop := e = .returned (.int .i64 z) ∧ Ext w w'
def GivesB (w : World) (b : Bool) (e : Ending) (w' : World) : Prop := e = .returned (.bool b) ∧ Ext w w'
def GivesT (w : World) (l : List UInt8) (e : Ending) (w' : World) : Prop := e = .returned (str l) ∧ Ext w w'

theorem symbolic_n (s : List UInt8) (hs : s.length ≤ 1000000000000) {m : Nat} (hm : (s.takeWhile M.sym).length = m) (w : World) : Calls Try.prog 63 #[str s] w (GivesI w (m : Int)) := by
 have HM := hid hm
 clear hm
 go_enter Try.func63, Try.ntmps63
 go_wp2_with fail
 refine (row_n s _ [M.cLet, M.cDig, M.cMark] _ (Txts.new3 w M.cLet M.cDig M.cMark 9) rfl (by simp) hs HM.out).mono ?_
 rintro e w' ⟨rfl, rfl⟩
 go_wp2
 go_ret
 exact ⟨rfl, Ext.alloc _ _⟩

set_option maxHeartbeats 1000000 in
theorem symbol_n (s : List UInt8) (hs : s.length ≤ 1000000000000) (w : World) : Calls Try.prog 64 #[str s] w (GivesB w (M.isSym s)) := by
 rcases s with _ | ⟨b, r⟩
 ·go_enter Try.func64, Try.ntmps64
  go_wp2
  go_ret
  exact ⟨rfl, Ext.refl _⟩
 ·obtain ⟨n, hn⟩ : ∃ n, n = (b :: r).length := ⟨_, rfl⟩
  have hnr : ((r.length : Int) + 1) = (n : Int) := by rw [hn]; simp
  have hnr2 : r.length + 1 = n := by rw [hn]; simp
  have hn1 : 1 ≤ n := by omega
  have hn2 : n ≤ 1000000000000 := by rw [hn]; exact hs
  have hg : ∀ h : 0 < (⟨(b :: r).toArray⟩ : ByteArray).size, (⟨(b :: r).toArray⟩ : ByteArray)[0]'h = b := fun _ => rfl
  have HS := hid hs
  have HN := hid hn
  clear hn hs
  rcases Nat.lt_or_ge 20 n with h20 | h20
  ·have HR := hid (show M.isSym (b :: r) = false by unfold M.isSym; rw [← HN.out]; simp; omega)
   have hq : decide ((n : Int) ≤ 20) = false := by simp; omega
   go_enter Try.func64, Try.ntmps64
   go_wp2
   go_ret
   rw [HR.out]
   exact ⟨rfl, Ext.refl _⟩
  ·obtain ⟨m, hm⟩ : ∃ m, ((b :: r).takeWhile M.sym).length = m := ⟨_, rfl⟩
   have hmn : m ≤ n := by rw [← hm, HN.out]; exact M.takeWhile_len _ _
   have H1 := hid (symbolic_n (b :: r) HS.out hm)
   have HM := hid hm
   clear hm
   have hq : (n : Int) ≤ 20 := by omega
   rcases Nat.lt_or_ge m n with hlt | hge
   ·have HR := hid (show M.isSym (b :: r) = false by
     unfold M.isSym
     have : (b :: r).all M.sym = false := by
      rw [Bool.eq_false_iff]
      intro ha
      have h2 : (b :: r).takeWhile M.sym = b :: r := by
       have := M.takeWhile_at (p := M.sym) (l := b :: r) (k := (b :: r).length) (Nat.le_refl _) (by rw [List.take_length]; exact ha) (.inl rfl)
       rw [this.2, List.take_length]
      have h3 := HM.out
      rw [h2, ← HN.out] at h3
      omega
     rw [this]; simp)
    have hq2 : ((m : Int) == (n : Int)) = false := by simp; omega
    go_enter Try.func64, Try.ntmps64
    go_wp2_with (go_at_call 63; refine (H1.out _).mono ?_; rintro e w' ⟨rfl, hb⟩; have E := hid hb; clear hb)
    go_ret
    rw [HR.out]
    exact ⟨rfl, E.out⟩
   ·obtain rfl : m = n := by omega
    obtain ⟨q, hq3⟩ : ∃ q, M.dig b = q := ⟨_, rfl⟩
    have HR := hid (show M.isSym (b :: r) = !q by
     unfold M.isSym
     have ha : (b :: r).all M.sym = true := by
      have h3 := HM.out
      rw [HN.out] at h3
      have h4 := List.takeWhile_append_dropWhile (p := M.sym) (l := b :: r)
      have h5 : (b :: r).dropWhile M.sym = [] := by
       have := congrArg List.length h4
       rw [List.length_append, h3] at this
       exact List.eq_nil_of_length_eq_zero (by omega)
      rw [h5, List.append_nil] at h4
      rw [List.all_eq_true]
      intro x hx
      rw [← h4] at hx
      exact List.all_eq_true.1 (List.all_takeWhile) x hx
     rw [ha, ← HN.out, List.headD_cons, hq3]
     simp [h20])
    have HQ := hid hq3
    clear hq3
    go_enter Try.func64, Try.ntmps64
    go_wp2_with (go_at_call 63; refine (H1.out _).mono ?_; rintro e w' ⟨rfl, hb⟩; have E := hid hb; clear hb)
    refine (among_n b _ [M.cDig] _ (Txts.new1 _ M.cDig 9) rfl (by simp)).mono ?_
    rintro e w2 ⟨rfl, rfl⟩
    rw [show M.among [M.cDig] b = q from HQ.out]
    go_wp2
    go_ret
    rw [HR.out]
    exact ⟨rfl, E.out.alloc' _⟩

set_option maxHeartbeats 1000000 in
theorem numeral_n (s : List UInt8) (hs : s.length ≤ 1000000000000) (w : World) : Calls Try.prog 66 #[str s] w (GivesB w (M.isNum s)) := by
 rcases s with _ | ⟨b, r⟩
 ·go_enter Try.func66, Try.ntmps66
  go_wp2
  go_ret
  exact ⟨rfl, Ext.refl _⟩
 ·have hg : ∀ h : 0 < (⟨(b :: r).toArray⟩ : ByteArray).size, (⟨(b :: r).toArray⟩ : ByteArray)[0]'h = b := fun _ => rfl
  by_cases hb : b = 48
  ·subst hb
   have HR := hid (show M.isNum (48 :: r) = r.isEmpty by simp [M.isNum])
   go_enter Try.func66, Try.ntmps66
   go_wp2
   go_ret
   rw [HR.out]
   exact ⟨rfl, Ext.refl _⟩
  ·have HR := hid (show M.isNum (b :: r) = (b :: r).all M.dig by rw [M.isNum, if_neg hb])
   have hb' : b.toNat ≠ 48 := by intro e; exact hb (UInt8.toNat_inj.1 e)
   have hq : ((b.toNat : Int) == 48) = false := by simp; omega
   have hq2 : (b == 48) = false := by simpa using hb
   obtain ⟨n, hn⟩ : ∃ n, n = (b :: r).length := ⟨_, rfl⟩
   have hnr : ((r.length : Int) + 1) = (n : Int) := by rw [hn]; simp
   have HS := hid hs
   have HN := hid hn
   obtain ⟨m, hm⟩ : ∃ m, ((b :: r).takeWhile M.dig).length = m := ⟨_, rfl⟩
   have HM := hid hm
   have HE := hid (show ((m : Int) == (n : Int)) = (b :: r).all M.dig by
    rw [Bool.eq_iff_iff, beq_iff_eq]
    constructor
    ·intro h
     have h3 : ((b :: r).takeWhile M.dig).length = (b :: r).length := by rw [hm, ← hn]; omega
     have h4 := List.takeWhile_append_dropWhile (p := M.dig) (l := b :: r)
     have h5 : (b :: r).dropWhile M.dig = [] := by
      have := congrArg List.length h4
      rw [List.length_append, h3] at this
      exact List.eq_nil_of_length_eq_zero (by omega)
     rw [h5, List.append_nil] at h4
     rw [List.all_eq_true]
     intro x hx
     rw [← h4] at hx
     exact List.all_eq_true.1 (List.all_takeWhile) x hx
    ·intro ha
     have := M.takeWhile_at (p := M.dig) (l := b :: r) (k := (b :: r).length) (Nat.le_refl _) (by rw [List.take_length]; exact ha) (.inl rfl)
     rw [← hm, this.1, hn])
   clear hn hs hb hm hb'
   go_enter Try.func66, Try.ntmps66
   go_wp2_with fail
   refine (row_n (b :: r) _ [M.cDig] _ (Txts.new1 _ M.cDig 9) rfl (by simp) HS.out HM.out).mono ?_
   rintro e w2 ⟨rfl, rfl⟩
   go_wp2
   go_ret
   refine ⟨?_, Ext.alloc _ _⟩
   rw [HR.out, ← HE.out]
   rfl
end Go.Proofs.Ytceplnfjlncekaa
