/-
  Contracts of package lex: what lies ahead of a word; a word's token; what is printed of one.
-/
import Derived.Test.YtceplnfjlncekaaQLexA
namespace Go.Proofs.Ytceplnfjlncekaa
set_option linter.unusedSimpArgs false
set_option linter.unusedVariables false
open Go.RowKit

namespace M
def upTo (l : List UInt8) : List UInt8 := (l.dropWhile (fun b => b != 10)).drop 1
theorem index_cut (l : List UInt8) : (Lib.indexByte l 10 = -1 ∧ upTo l = [] ∧ l.dropWhile (fun b => b != 10) = []) ∨ ∃ i : Nat, Lib.indexByte l 10 = (i : Int) ∧ i < l.length ∧ upTo l = l.drop (i + 1) ∧ l.dropWhile (fun b => b != 10) = 10 :: l.drop (i + 1) := by
 induction l with
 | nil => exact .inl ⟨rfl, rfl, rfl⟩
 | cons b r ih =>
  unfold Lib.indexByte
  by_cases h : b = 10
  ·subst h
   exact .inr ⟨0, by simp, by simp, by simp [upTo], by simp⟩
  ·have h1 : (b == 10) = false := by simpa using h
   have h2 : (b :: r).dropWhile (fun b => b != 10) = r.dropWhile (fun b => b != 10) := List.dropWhile_cons_of_pos (by simpa using h)
   rcases ih with ⟨h3, h4, h5⟩ | ⟨i, h3, h4, h5, h6⟩
   ·exact .inl ⟨by rw [h3, h1]; rfl, by unfold upTo; rw [h2, h5]; rfl, by rw [h2, h5]⟩
   ·refine .inr ⟨i + 1, ?_, by simp; omega, ?_, ?_⟩
    ·rw [h3, h1]
     simp
    ·unfold upTo; rw [h2, List.drop_succ_cons]; exact h5
    ·rw [h2, List.drop_succ_cons]; exact h6
theorem gap_step (t : List UInt8) : skip ((upTo (59 :: t)).dropWhile blank) = skip (59 :: t) ∧ ((upTo (59 :: t)).dropWhile blank).length < (59 :: t).length := by
 have e : upTo (59 :: t) = upTo t := by unfold upTo; rw [List.dropWhile_cons_of_pos (by decide)]
 rw [e, skip_remark, skipT, ← skip_blanks]
 rcases index_cut t with ⟨h3, h4, h5⟩ | ⟨i, h3, h4, h5, h6⟩
 ·rw [h4, h5]; simp
 ·rw [h6, skip_blank (by decide), h5]
  refine ⟨rfl, ?_⟩
  have := (List.dropWhile_suffix blank (l := t.drop (i + 1))).length_le
  rw [List.length_drop] at this
  simp; omega
theorem dropWhile_drop (p : UInt8 → Bool) (l : List UInt8) : l.dropWhile p = l.drop (l.takeWhile p).length := by
 induction l with
 | nil => rfl
 | cons b r ih =>
  by_cases h : p b = true
  ·rw [List.dropWhile_cons_of_pos h, List.takeWhile_cons, if_pos h, List.length_cons, List.drop_succ_cons, ih]
  ·rw [List.dropWhile_cons_of_neg h, List.takeWhile_cons, if_neg h]; rfl
theorem dropWhile_head {p : UInt8 → Bool} {l r : List UInt8} {b : UInt8} (h : l.dropWhile p = b :: r) : p b = false := by
 induction l with
 | nil => simp at h
 | cons c s ih =>
  by_cases hc : p c = true
  ·rw [List.dropWhile_cons_of_pos hc] at h; exact ih h
  ·rw [List.dropWhile_cons_of_neg hc] at h
   injection h with h1 h2
   subst h1
   simpa using hc
end M
theorem hasPrefix_n (l : List UInt8) (w : World) {q : Bool} (hq : Lib.hasPrefix l [59] = q) : Calls Try.prog 60 #[str l, .string ⟨#[59]⟩] w fun e w' => e = .returned (.bool q) ∧ w = w' := by
 subst hq
 exact (Try.strings_HasPrefix ⟨l.toArray⟩ ⟨#[59]⟩ w).mono fun e w' ⟨h1, h2⟩ => ⟨h1, h2.symm⟩
theorem index_n (l : List UInt8) (w : World) {z : Int} (hz : Lib.indexByte l 10 = z) : Calls Try.prog 75 #[str l, .string ⟨#[10]⟩] w fun e w' => e = .returned (.int .i64 z) ∧ w = w' := by
 subst hz
 exact (Try.stringslite_Index_one ⟨l.toArray⟩ 10 w).mono fun e w' ⟨h1, h2⟩ => ⟨h1, h2.symm⟩
def GivesCut (w : World) (l : List UInt8) (e : Ending) (w' : World) : Prop := ∃ a q, e = .returned (.tuple #[a, str (M.upTo l), .bool q]) ∧ Ext w w'
theorem slCut_n (l : List UInt8) (hl : l.length ≤ 1000000000000) (w : World) : Calls Try.prog 70 #[str l, .string ⟨#[10]⟩] w (GivesCut w l) := by
 rcases M.index_cut l with ⟨h3, h4, -⟩ | ⟨i, h3, h4, h5, -⟩
 ·have H3 := hid h3
  have H4 := hid h4
  clear h3 h4
  go_enter Try.func70, Try.ntmps70
  go_wp2_with (go_at_call 75; refine (index_n l _ H3.out).mono ?_; rintro e w' ⟨rfl, rfl⟩)
  go_ret3
  exact ⟨_, _, by rw [H4.out]; rfl, Ext.refl _⟩
 ·have H3 := hid h3
  have H5 := hid h5
  have hi : (i : Int) ≤ 1000000000000 := by omega
  have hsz : (⟨l.toArray⟩ : ByteArray).size = l.length := by rw [Lib.size_eq]
  clear h3 h5
  go_enter Try.func70, Try.ntmps70
  go_wp2_with (go_at_call 75; refine (index_n l _ H3.out).mono ?_; rintro e w' ⟨rfl, rfl⟩)
  go_region
  go_wp2
  go_ret3
  have e := ext_drop l (i + 1)
  exact ⟨.string ((⟨l.toArray⟩ : ByteArray).extract 0 i), true, by rw [H5.out]; show Ending.returned (.tuple #[_, .string ((⟨l.toArray⟩ : ByteArray).extract (i + 1) l.length), _]) = _; rw [e]; rfl, (Ext.refl _).drew'⟩
theorem cut_n (l : List UInt8) (hl : l.length ≤ 1000000000000) (w : World) : Calls Try.prog 61 #[str l, .string ⟨#[10]⟩] w (GivesCut w l) := by
 go_enter Try.func61, Try.ntmps61
 go_wp2_with fail
 refine (slCut_n l hl _).mono ?_
 rintro e w' ⟨a, q, rfl, hE⟩
 have E := hid hE
 clear hE
 go_wp2
 go_ret3
 exact ⟨a, q, rfl, E.out⟩
def strLen (v : Value) : Nat := match v with | .string b => b.size | _ => 0
def GapAt (s r : List UInt8) : Prop := M.skip r = M.skip s ∧ r.length ≤ s.length ∧ r.dropWhile M.blank = r
theorem blanks_len (l : List UInt8) : ((l.takeWhile M.blank).length ≤ l.length) ∧ (l.drop (l.takeWhile M.blank).length = l.dropWhile M.blank) := ⟨M.takeWhile_len _ _, (M.dropWhile_drop _ _).symm⟩
theorem dropWhile_idem (p : UInt8 → Bool) (l : List UInt8) : (l.dropWhile p).dropWhile p = l.dropWhile p := by
 rcases h : l.dropWhile p with _ | ⟨b, r⟩
 ·rfl
 ·rw [List.dropWhile_cons_of_neg (by rw [M.dropWhile_head h]; decide)]
set_option maxHeartbeats 1000000 in
theorem gap_n (s : List UInt8) (hs : s.length ≤ 1000000000) (w : World) : Calls Try.prog 49 #[str s] w (GivesI w ((s.length - (M.skip s).length : Nat) : Int)) := by
 obtain ⟨m, hm⟩ : ∃ m, (s.takeWhile M.blank).length = m := ⟨_, rfl⟩
 obtain ⟨u, hu⟩ : ∃ u, s.dropWhile M.blank = u := ⟨_, rfl⟩
 have hms : m ≤ s.length := by rw [← hm]; exact M.takeWhile_len _ _
 have HM := hid hm
 have HU := hid hu
 have G0 := hid (show GapAt s u from ⟨by rw [← hu, ← M.skip_blanks], by rw [← hu]; exact (List.dropWhile_suffix _).length_le, by rw [← hu]; exact dropWhile_idem _ _⟩)
 have hx : (⟨s.toArray⟩ : ByteArray).extract m s.length = ⟨u.toArray⟩ := by rw [ext_drop, ← hm, ← hu, M.dropWhile_drop]
 clear hm hu
 go_enter Try.func49, Try.ntmps49
 go_wp2_with fail
 refine (row_n s _ [M.cBlank] _ (Txts.new1 w M.cBlank 9) rfl (by simp) (by omega) HM.out).mono ?_
 rintro e w' ⟨rfl, rfl⟩
 go_upto_region 2 with (fail)
 clear hx
 go_loopw [3] (fun v wr => ∃ r, v = str r ∧ Hid (GapAt s r) ∧ Hid (Ext w wr)) (fun v _ => strLen v)
 case atStart => exact ⟨u, rfl, G0.out, Ext.alloc _ _⟩
 case round =>
  obtain ⟨r, rfl, hg, hE⟩ := hrel
  have hrl := hg.out.2.1
  rcases r with _ | ⟨b, t⟩
  ·have hpre : Lib.hasPrefix [] [59] = false := rfl
   have HP := hid hpre
   have HR := hid (show M.skip s = [] by rw [← hg.out.1]; rfl)
   clear hpre
   go_wp2_with (go_at_call 60; refine (hasPrefix_n [] _ HP.out).mono ?_; rintro e w' ⟨rfl, rfl⟩)
   go_ret
   rw [HR.out]
   exact ⟨by simp, hE.out⟩
  ·by_cases hb : b = 59
   ·subst hb
    have HP := hid (show Lib.hasPrefix (59 :: t) [59] = true by simp [Lib.hasPrefix])
    obtain ⟨v, hv⟩ : ∃ v, v = M.upTo (59 :: t) := ⟨_, rfl⟩
    obtain ⟨k, hk⟩ : ∃ k, (v.takeWhile M.blank).length = k := ⟨_, rfl⟩
    obtain ⟨u', hu⟩ : ∃ u', v.dropWhile M.blank = u' := ⟨_, rfl⟩
    have hgs := M.gap_step t
    have hkv : k ≤ v.length := by rw [← hk]; exact M.takeWhile_len _ _
    have hvl : v.length ≤ t.length := by
     rw [hv]; unfold M.upTo
     rw [List.dropWhile_cons_of_pos (by decide), List.length_drop]
     have := (List.dropWhile_suffix (fun b => b != 10) (l := t)).length_le
     omega
    rw [← hv, hu] at hgs
    have HS := hid (show GapAt s u' from ⟨hgs.1.trans hg.out.1, by omega, by rw [← hu]; exact dropWhile_idem _ _⟩)
    have HLT := hid hgs.2
    have htl : t.length ≤ 1000000000 := by simp at hrl; omega
    have hc := fun w => cut_n (59 :: t) (by simp; omega) w
    have HC := hid hc
    have HV := hid hv
    have HK := hid hk
    have hx : (⟨v.toArray⟩ : ByteArray).extract k v.length = ⟨u'.toArray⟩ := by rw [ext_drop, ← hk, ← hu, M.dropWhile_drop]
    clear hgs hc hv hk hu hrl
    go_wp2_with (first | (go_at_call 60; refine (hasPrefix_n (59 :: t) _ HP.out).mono ?_; rintro e w' ⟨rfl, rfl⟩) | (go_at_call 61; refine (HC.out _).mono ?_; rintro e w2 ⟨a, q, rfl, hE2⟩; rw [← HV.out]; have E2 := hid hE2; clear hE2))
    refine (row_n v _ [M.cBlank] _ (Txts.new1 _ M.cBlank 9) rfl (by simp) (by omega) HK.out).mono ?_
    rintro e w' ⟨rfl, rfl⟩
    go_wp2
    go_roundw
    case rel => exact ⟨u', rfl, HS.out, (hE.out.trans E2.out).alloc' _⟩
    case measure => have := HLT.out; simp [strLen, Lib.size_eq] at *; omega
   ·have HP := hid (show Lib.hasPrefix (b :: t) [59] = false by rw [Bool.eq_false_iff]; intro h; obtain ⟨u, hu⟩ := List.isPrefixOf_iff_prefix.1 h; simp at hu; exact hb hu.1.symm)
    have HR := hid (show M.skip s = b :: t by
     rw [← hg.out.1]
     refine M.skip_word ?_ hb t
     have h3 := hg.out.2.2
     exact M.dropWhile_head h3)
    have htl : t.length + 1 ≤ s.length := by simpa using hrl
    clear hb hrl
    go_wp2_with (go_at_call 60; refine (hasPrefix_n (b :: t) _ HP.out).mono ?_; rintro e w' ⟨rfl, rfl⟩)
    go_ret
    rw [HR.out]
    refine ⟨ret_int ?_, hE.out⟩
    simp; omega

theorem bcell {W w1 : World} (hb : Below W.heap.size W w1) : (∀ b o, b < W.heap.size → w1.cell? ⟨b, o, none⟩ = W.cell? ⟨b, o, none⟩) ∧ (∀ b o, b < W.heap.size → w1.frozen? ⟨b, o, none⟩ = W.frozen? ⟨b, o, none⟩) :=
 ⟨fun b o h => hb.cell (p := ⟨b, o, none⟩) h, fun b o h => hb.frozen (p := ⟨b, o, none⟩) h⟩
theorem clone_n (l : List UInt8) (hl : l.length ≤ 1000000000000) (w : World) : Calls Try.prog 72 #[str l] w (GivesT w l) := by
 have hc := fun w => Try.stringslite_Clone ⟨l.toArray⟩ w (by rw [Lib.size_eq]; simp; omega)
 have HC := hid hc
 clear hc
 go_enter Try.func72, Try.ntmps72
 go_wp2_with fail
 refine (HC.out _).mono ?_
 rintro e w' ⟨rfl, hb⟩
 have E := hid hb
 clear hb
 go_wp2
 go_ret
 exact ⟨rfl, E.out⟩
def tok (t : M.Tok) : Value := .agg #[.int .i64 t.1, str t.2]
def GivesTok (w : World) (t : M.Tok) (e : Ending) (w' : World) : Prop := e = .returned (tok t) ∧ Ext w w'
theorem token_n (k : Int) (l : List UInt8) (hl : l.length ≤ 1000000000000) (w : World) : Calls Try.prog 65 #[.int .i64 k, str l] w (GivesTok w (k, l)) := by
 have HC := hid (fun w => clone_n l hl w)
 go_enter Try.func65, Try.ntmps65
 go_wp2_with fail
 refine (HC.out _).mono ?_
 rintro e w1 ⟨rfl, hb⟩
 have E := hid hb
 obtain ⟨hc, hf⟩ := bcell hb
 have hz : w.heap.size < w1.heap.size := by have := hb.size; simp at this; omega
 clear hb
 go_wp2
 refine bodyPost_ret (v := .agg #[.int .i64 k, str l]) (by simp [results, Try.results65, go_sem, hc, hz]) rfl ⟨rfl, ?_⟩
 exact ((((Ext.refl w).alloc' _).trans E.out).set' (Nat.le_refl _) _).set' (Nat.le_refl _) _
theorem printed_n (t : M.Tok) (hl : t.2.length ≤ 1000000000000) (w : World) : Calls Try.prog 52 #[tok t] w (GivesT w (M.word t)) := by
 obtain ⟨k, l⟩ := t
 replace hl : l.length ≤ 1000000000000 := hl
 have hsz : (⟨l.toArray⟩ : ByteArray).size = l.length := by rw [Lib.size_eq]
 show Calls Try.prog 52 #[.agg #[.int .i64 k, str l]] w (GivesT w (M.word (k, l)))
 by_cases h1 : k = 1
 ·subst h1
  go_enter Try.func52, Try.ntmps52
  go_wp2
  go_ret
  exact ⟨rfl, Ext.alloc _ _⟩
 ·by_cases h2 : k = 2
  ·subst h2
   go_enter Try.func52, Try.ntmps52
   go_wp2
   go_ret
   exact ⟨rfl, Ext.alloc _ _⟩
  ·have q1 : (k == 1) = false := by simpa using h1
   have q2 : (k == 2) = false := by simpa using h2
   by_cases h3 : k = 5
   ·subst h3
    go_enter Try.func52, Try.ntmps52
    go_wp2
    go_ret
    refine ⟨?_, Ext.alloc _ _⟩
    have e := app_str [58] l
    show Ending.returned (.string ((⟨#[58]⟩ : ByteArray) ++ ⟨l.toArray⟩)) = _
    rw [e]
    rfl
   ·have q3 : (k == 5) = false := by simpa using h3
    have HR := hid (show M.word (k, l) = l by simp [M.word, h1, h2, h3])
    clear h1 h2 h3
    go_enter Try.func52, Try.ntmps52
    go_wp2
    go_ret
    rw [HR.out]
    exact ⟨rfl, Ext.alloc _ _⟩
end Go.Proofs.Ytceplnfjlncekaa
