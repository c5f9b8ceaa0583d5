/-
  Contracts of package lex: what lies ahead of a word; a word's token; what is printed of one.
-/
import Derived.Test.YtgkofipifjfjhaaGreatDoorJQA
namespace Go.Proofs.YtgkofipifjfjhaaGreatDoor.Q
set_option linter.unusedSimpArgs false
set_option linter.unusedVariables false
open Go.RowKit

namespace M
def upTo (l : List UInt8) : List UInt8 := (l.dropWhile (fun b => b != 10)).drop 1
theorem index_cut (l : List UInt8) : (Lib.indexByte l 10 = -1 ∧ upTo l = [] ∧ l.dropWhile (fun b => b != 10) = []) ∨ ∃ i : Nat, Lib.indexByte l 10 = (i : Int) ∧ i < l.length ∧ upTo l = l.drop (i + 1) ∧ l.dropWhile (fun b => b != 10) = 10 :: l.drop (i + 1) := by
 induction l with
 | nil => exact .inl ⟨rfl, rfl, rfl⟩
 | cons b r ih =>
  unfold Lib.indexByte
  by_cases h : b = 10
  ·subst h
   exact .inr ⟨0, by simp, by simp, by simp [upTo], by simp⟩
  ·have h1 : (b == 10) = false := by simpa using h
   have h2 : (b :: r).dropWhile (fun b => b != 10) = r.dropWhile (fun b => b != 10) := List.dropWhile_cons_of_pos (by simpa using h)
   rcases ih with ⟨h3, h4, h5⟩ | ⟨i, h3, h4, h5, h6⟩
   ·exact .inl ⟨by rw [h3, h1]; rfl, by unfold upTo; rw [h2, h5]; rfl, by rw [h2, h5]⟩
   ·refine .inr ⟨i + 1, ?_, by simp; omega, ?_, ?_⟩
    ·rw [h3, h1]
     simp
    ·unfold upTo; rw [h2, List.drop_succ_cons]; exact h5
    ·rw [h2, List.drop_succ_cons]; exact h6
theorem gap_step (t : List UInt8) : skip ((upTo (59 :: t)).dropWhile blank) = skip (59 :: t) ∧ ((upTo (59 :: t)).dropWhile blank).length < (59 :: t).length := by
 have e : upTo (59 :: t) = upTo t := by unfold upTo; rw [List.dropWhile_cons_of_pos (by decide)]
 rw [e, skip_remark, skipT, ← skip_blanks]
 rcases index_cut t with ⟨h3, h4, h5⟩ | ⟨i, h3, h4, h5, h6⟩
 ·rw [h4, h5]; simp
 ·rw [h6, skip_blank (by decide), h5]
  refine ⟨rfl, ?_⟩
  have := (List.dropWhile_suffix blank (l := t.drop (i + 1))).length_le
  rw [List.length_drop] at this
  simp; omega
theorem dropWhile_drop (p : UInt8 → Bool) (l : List UInt8) : l.dropWhile p = l.drop (l.takeWhile p).length := by
 induction l with
 | nil => rfl
 | cons b r ih =>
  by_cases h : p b = true
  ·rw [List.dropWhile_cons_of_pos h, List.takeWhile_cons, if_pos h, List.length_cons, List.drop_succ_cons, ih]
  ·rw [List.dropWhile_cons_of_neg h, List.takeWhile_cons, if_neg h]; rfl
theorem dropWhile_head {p : UInt8 → Bool} {l r : List UInt8} {b : UInt8} (h : l.dropWhile p = b :: r) : p b = false := by
 induction l with
 | nil => simp at h
 | cons c s ih =>
  by_cases hc : p c = true
  ·rw [List.dropWhile_cons_of_pos hc] at h; exact ih h
  ·rw [List.dropWhile_cons_of_neg hc] at h
   injection h with h1 h2
   subst h1
   simpa using hc
end M
theorem hasPrefix_n (l : List UInt8) (w : World) {q : Bool} (hq : Lib.hasPrefix l [59] = q) : Calls Tryz.prog 66 #[str l, .string ⟨#[59]⟩] w fun e w' => e = .returned (.bool q) ∧ w = w' := by
 subst hq
 exact (Tryz.strings_HasPrefix ⟨l.toArray⟩ ⟨#[59]⟩ w).mono fun e w' ⟨h1, h2⟩ => ⟨h1, h2.symm⟩
theorem index_n (l : List UInt8) (w : World) {z : Int} (hz : Lib.indexByte l 10 = z) : Calls Tryz.prog 330 #[str l, .string ⟨#[10]⟩] w fun e w' => e = .returned (.int .i64 z) ∧ w = w' := by
 subst hz
 exact (Tryz.stringslite_Index_one ⟨l.toArray⟩ 10 w).mono fun e w' ⟨h1, h2⟩ => ⟨h1, h2.symm⟩
def GivesCut (w : World) (l : List UInt8) (e : Ending) (w' : World) : Prop := ∃ a q, e = .returned (.tuple #[a, str (M.upTo l), .bool q]) ∧ Ext w w'
theorem slCut_n (l : List UInt8) (hl : l.length ≤ 1000000000000) (w : World) : Calls Tryz.prog 311 #[str l, .string ⟨#[10]⟩] w (GivesCut w l) := by
 rcases M.index_cut l with ⟨h3, h4, -⟩ | ⟨i, h3, h4, h5, -⟩
 ·have H3 := hid h3
  have H4 := hid h4
  clear h3 h4
  go_enter Tryz.func311, Tryz.ntmps311
  go_wp2_with (go_at_call 330; refine (index_n l _ H3.out).mono ?_; rintro e w' ⟨rfl, rfl⟩)
  go_ret3
  exact ⟨_, _, by rw [H4.out]; rfl, Ext.refl _⟩
 ·have H3 := hid h3
  have H5 := hid h5
  have hi : (i : Int) ≤ 1000000000000 := by omega
  have hsz : (⟨l.toArray⟩ : ByteArray).size = l.length := by rw [Lib.size_eq]
  clear h3 h5
  go_enter Tryz.func311, Tryz.ntmps311
  go_wp2_with (go_at_call 330; refine (index_n l _ H3.out).mono ?_; rintro e w' ⟨rfl, rfl⟩)
  go_region
  go_wp2
  go_ret3
  have e := ext_drop l (i + 1)
  exact ⟨.string ((⟨l.toArray⟩ : ByteArray).extract 0 i), true, by rw [H5.out]; show Ending.returned (.tuple #[_, .string ((⟨l.toArray⟩ : ByteArray).extract (i + 1) l.length), _]) = _; rw [e]; rfl, (Ext.refl _).drew'⟩
theorem cut_n (l : List UInt8) (hl : l.length ≤ 1000000000000) (w : World) : Calls Tryz.prog 290 #[str l, .string ⟨#[10]⟩] w (GivesCut w l) := by
 go_enter Tryz.func290, Tryz.ntmps290
 go_wp2_with fail
 refine (slCut_n l hl _).mono ?_
 rintro e w' ⟨a, q, rfl, hE⟩
 have E := hid hE
 clear hE
 go_wp2
 go_ret3
 exact ⟨a, q, rfl, E.out⟩
def strLen (v : Value) : Nat := match v with | .string b => b.size | _ => 0
def GapAt (s r : List UInt8) : Prop := M.skip r = M.skip s ∧ r.length ≤ s.length ∧ r.dropWhile M.blank = r
theorem dropWhile_idem (p : UInt8 → Bool) (l : List UInt8) : (l.dropWhile p).dropWhile p = l.dropWhile p := by
 rcases h : l.dropWhile p with _ | ⟨b, r⟩
 ·rfl
 ·rw [List.dropWhile_cons_of_neg (by rw [M.dropWhile_head h]; decide)]
set_option maxHeartbeats 1000000 in
theorem gap_n (s : List UInt8) (hs : s.length ≤ 1000000000) (w : World) : Calls Tryz.prog 251 #[str s] w (GivesI w ((s.length - (M.skip s).length : Nat) : Int)) := by
 obtain ⟨m, hm⟩ : ∃ m, (s.takeWhile M.blank).length = m := ⟨_, rfl⟩
 obtain ⟨u, hu⟩ : ∃ u, s.dropWhile M.blank = u := ⟨_, rfl⟩
 have hms : m ≤ s.length := by rw [← hm]; exact M.takeWhile_len _ _
 have HM := hid hm
 have HU := hid hu
 have G0 := hid (show GapAt s u from ⟨by rw [← hu, ← M.skip_blanks], by rw [← hu]; exact (List.dropWhile_suffix _).length_le, by rw [← hu]; exact dropWhile_idem _ _⟩)
 have hx : (⟨s.toArray⟩ : ByteArray).extract m s.length = ⟨u.toArray⟩ := by rw [ext_drop, ← hm, ← hu, M.dropWhile_drop]
 clear hm hu
 go_enter Tryz.func251, Tryz.ntmps251
 go_wp2_with fail
 refine (row_n s _ [M.cBlank] _ (Txts.new1 w M.cBlank 9) rfl (by simp) (by omega) HM.out).mono ?_
 rintro e w' ⟨rfl, rfl⟩
 go_upto_region 2 with (fail)
 clear hx
 go_loopw [3] (fun v wr => ∃ r, v = str r ∧ Hid (GapAt s r) ∧ Hid (Ext w wr)) (fun v _ => strLen v)
 case atStart => exact ⟨u, rfl, G0.out, Ext.alloc _ _⟩
 case round =>
  obtain ⟨r, rfl, hg, hE⟩ := hrel
  have hrl := hg.out.2.1
  rcases r with _ | ⟨b, t⟩
  ·have hpre : Lib.hasPrefix [] [59] = false := rfl
   have HP := hid hpre
   have HR := hid (show M.skip s = [] by rw [← hg.out.1]; rfl)
   clear hpre
   go_wp2_with (go_at_call 66; refine (hasPrefix_n [] _ HP.out).mono ?_; rintro e w' ⟨rfl, rfl⟩)
   go_ret
   rw [HR.out]
   exact ⟨by simp, hE.out⟩
  ·by_cases hb : b = 59
   ·subst hb
    have HP := hid (show Lib.hasPrefix (59 :: t) [59] = true by simp [Lib.hasPrefix])
    obtain ⟨v, hv⟩ : ∃ v, v = M.upTo (59 :: t) := ⟨_, rfl⟩
    obtain ⟨k, hk⟩ : ∃ k, (v.takeWhile M.blank).length = k := ⟨_, rfl⟩
    obtain ⟨u', hu⟩ : ∃ u', v.dropWhile M.blank = u' := ⟨_, rfl⟩
    have hgs := M.gap_step t
    have hkv : k ≤ v.length := by rw [← hk]; exact M.takeWhile_len _ _
    have hvl : v.length ≤ t.length := by
     rw [hv]; unfold M.upTo
     rw [List.dropWhile_cons_of_pos (by decide), List.length_drop]
     have := (List.dropWhile_suffix (fun b => b != 10) (l := t)).length_le
     omega
    rw [← hv, hu] at hgs
    have HS := hid (show GapAt s u' from ⟨hgs.1.trans hg.out.1, by omega, by rw [← hu]; exact dropWhile_idem _ _⟩)
    have HLT := hid hgs.2
    have htl : t.length ≤ 1000000000 := by simp at hrl; omega
    have hc := fun w => cut_n (59 :: t) (by simp; omega) w
    have HC := hid hc
    have HV := hid hv
    have HK := hid hk
    have hx : (⟨v.toArray⟩ : ByteArray).extract k v.length = ⟨u'.toArray⟩ := by rw [ext_drop, ← hk, ← hu, M.dropWhile_drop]
    clear hgs hc hv hk hu hrl
    go_wp2_with (first | (go_at_call 66; refine (hasPrefix_n (59 :: t) _ HP.out).mono ?_; rintro e w' ⟨rfl, rfl⟩) | (go_at_call 290; refine (HC.out _).mono ?_; rintro e w2 ⟨a, q, rfl, hE2⟩; rw [← HV.out]; have E2 := hid hE2; clear hE2))
    refine (row_n v _ [M.cBlank] _ (Txts.new1 _ M.cBlank 9) rfl (by simp) (by omega) HK.out).mono ?_
    rintro e w' ⟨rfl, rfl⟩
    go_wp2
    go_roundw
    case rel => exact ⟨u', rfl, HS.out, (hE.out.trans E2.out).alloc' _⟩
    case measure => have := HLT.out; simp [strLen, Lib.size_eq] at *; omega
   ·have HP := hid (show Lib.hasPrefix (b :: t) [59] = false by rw [Bool.eq_false_iff]; intro h; obtain ⟨u, hu⟩ := List.isPrefixOf_iff_prefix.1 h; simp at hu; exact hb hu.1.symm)
    have HR := hid (show M.skip s = b :: t by
     rw [← hg.out.1]
     refine M.skip_word ?_ hb t
     have h3 := hg.out.2.2
     exact M.dropWhile_head h3)
    have htl : t.length + 1 ≤ s.length := by simpa using hrl
    clear hb hrl
    go_wp2_with (go_at_call 66; refine (hasPrefix_n (b :: t) _ HP.out).mono ?_; rintro e w' ⟨rfl, rfl⟩)
    go_ret
    rw [HR.out]
    refine ⟨ret_int ?_, hE.out⟩
    simp; omega

theorem bcell {W w1 : World} (hb : Below W.heap.size W w1) : (∀ b o, b < W.heap.size → w1.cell? ⟨b, o, none⟩ = W.cell? ⟨b, o, none⟩) ∧ (∀ b o, b < W.heap.size → w1.frozen? ⟨b, o, none⟩ = W.frozen? ⟨b, o, none⟩) :=
 ⟨fun b o h => hb.cell (p := ⟨b, o, none⟩) h, fun b o h => hb.frozen (p := ⟨b, o, none⟩) h⟩
theorem clone_n (l : List UInt8) (hl : l.length ≤ 1000000000000) (w : World) : Calls Tryz.prog 120 #[str l] w (GivesT w l) := by
 have hc := fun w => Tryz.stringslite_Clone ⟨l.toArray⟩ w (by rw [Lib.size_eq]; simp; omega)
 have HC := hid hc
 clear hc
 go_enter Tryz.func120, Tryz.ntmps120
 go_wp2_with fail
 refine (HC.out _).mono ?_
 rintro e w' ⟨rfl, hb⟩
 have E := hid hb
 clear hb
 go_wp2
 go_ret
 exact ⟨rfl, E.out⟩
def tok (t : M.Tok) : Value := .agg #[.int .i64 t.1, str t.2]
def GivesTok (w : World) (t : M.Tok) (e : Ending) (w' : World) : Prop := e = .returned (tok t) ∧ Ext w w'
theorem token_n (k : Int) (l : List UInt8) (hl : l.length ≤ 1000000000000) (w : World) : Calls Tryz.prog 291 #[.int .i64 k, str l] w (GivesTok w (k, l)) := by
 have HC := hid (fun w => clone_n l hl w)
 go_enter Tryz.func291, Tryz.ntmps291
 go_wp2_with fail
 refine (HC.out _).mono ?_
 rintro e w1 ⟨rfl, hb⟩
 have E := hid hb
 obtain ⟨hc, hf⟩ := bcell hb
 have hz : w.heap.size < w1.heap.size := by have := hb.size; simp at this; omega
 clear hb
 go_wp2
 refine bodyPost_ret (v := .agg #[.int .i64 k, str l]) (by simp [results, Tryz.results291, go_sem, hc, hz]) rfl ⟨rfl, ?_⟩
 exact ((((Ext.refl w).alloc' _).trans E.out).set' (Nat.le_refl _) _).set' (Nat.le_refl _) _
theorem printed_n (t : M.Tok) (hl : t.2.length ≤ 1000000000000) (w : World) : Calls Tryz.prog 254 #[tok t] w (GivesT w (M.word t)) := by
 obtain ⟨k, l⟩ := t
 replace hl : l.length ≤ 1000000000000 := hl
 have hsz : (⟨l.toArray⟩ : ByteArray).size = l.length := by rw [Lib.size_eq]
 show Calls Tryz.prog 254 #[.agg #[.int .i64 k, str l]] w (GivesT w (M.word (k, l)))
 by_cases h1 : k = 1
 ·subst h1
  go_enter Tryz.func254, Tryz.ntmps254
  go_wp2
  go_ret
  exact ⟨rfl, Ext.alloc _ _⟩
 ·by_cases h2 : k = 2
  ·subst h2
   go_enter Tryz.func254, Tryz.ntmps254
   go_wp2
   go_ret
   exact ⟨rfl, Ext.alloc _ _⟩
  ·have q1 : (k == 1) = false := by simpa using h1
   have q2 : (k == 2) = false := by simpa using h2
   by_cases h3 : k = 5
   ·subst h3
    go_enter Tryz.func254, Tryz.ntmps254
    go_wp2
    go_ret
    refine ⟨?_, Ext.alloc _ _⟩
    have e := app_str [58] l
    show Ending.returned (.string ((⟨#[58]⟩ : ByteArray) ++ ⟨l.toArray⟩)) = _
    rw [e]
    rfl
   ·have q3 : (k == 5) = false := by simpa using h3
    have HR := hid (show M.word (k, l) = l by simp [M.word, h1, h2, h3])
    clear h1 h2 h3
    go_enter Tryz.func254, Tryz.ntmps254
    go_wp2
    go_ret
    rw [HR.out]
    exact ⟨rfl, Ext.alloc _ _⟩
end Go.Proofs.YtgkofipifjfjhaaGreatDoor.Q

/-
  Contracts of package lex: the word with which a text begins.
-/
namespace Go.Proofs.YtgkofipifjfjhaaGreatDoor.Q
set_option linter.unusedSimpArgs false
set_option linter.unusedVariables false
open Go.RowKit

namespace M
def firstT (l : List UInt8) : Tok := match first l with | some (t, _) => t | none => (0, [])
def firstN (l : List UInt8) : Nat := match first l with | some (_, k) => k | none => 0
theorem first_some {l : List UInt8} (h : firstN l ≠ 0) : first l = some (firstT l, firstN l) := by
 unfold firstN firstT at *
 rcases hf : first l with _ | ⟨t, k⟩
 ·rw [hf] at h; simp at h
 ·rfl
theorem first_none {l : List UInt8} (h : firstN l = 0) : first l = none := by
 rcases hf : first l with _ | ⟨t, k⟩
 ·rfl
 ·have := (first_len hf).1
  unfold firstN at h; rw [hf] at h; simp at h; omega
end M
def GivesFirst (w : World) (t : M.Tok) (k : Nat) (e : Ending) (w' : World) : Prop := e = .returned (.tuple #[tok t, .int .i64 (k : Int)]) ∧ Ext w w'
theorem box2 {w wN : World} {x y : Value} {T : TypeId} (h : Ext (w.alloc (.cells #[x, y] T)) wN) :
 wN.cell? ⟨w.heap.size, 0, none⟩ = some x ∧ wN.cell? ⟨w.heap.size, 1, none⟩ = some y ∧ wN.frozen? ⟨w.heap.size, 0, none⟩ = false ∧ wN.frozen? ⟨w.heap.size, 1, none⟩ = false ∧ w.heap.size < wN.heap.size := by
 have h1 : (w.alloc (.cells #[x, y] T)).heap[w.heap.size]? = some (.cells #[x, y] T (0, 0)) := heap_alloc_new w _
 have h2 : wN.heap[w.heap.size]? = some (.cells #[x, y] T (0, 0)) := (h.block _ (by simp)).trans h1
 refine ⟨?_, ?_, ?_, ?_, (Array.getElem?_eq_some_iff.1 h2).1⟩
 ·rw [cell_of_row wN _ 0 _ T (0, 0) h2]; rfl
 ·rw [cell_of_row wN _ 1 _ T (0, 0) h2]; rfl
 ·simp [World.frozen?, h2]
 ·simp [World.frozen?, h2]
theorem cutP_n (l : List UInt8) (w : World) {u : List UInt8} {q : Bool} (hu : Lib.trimPrefix l [58] = u) (hq : Lib.hasPrefix l [58] = q) : Calls Tryz.prog 263 #[str l, .string ⟨#[58]⟩] w fun e w' => e = .returned (.tuple #[str u, .bool q]) ∧ w = w' := by
 subst hu hq
 exact (Tryz.strings_CutPrefix ⟨l.toArray⟩ ⟨#[58]⟩ w).mono fun e w' ⟨h1, h2⟩ => ⟨h1, h2.symm⟩
theorem ext_head (b : UInt8) (r : List UInt8) : (⟨(b :: r).toArray⟩ : ByteArray).extract 0 1 = ⟨#[b]⟩ := by rw [ext_str]; rfl
theorem takeWhile_take (p : UInt8 → Bool) (l : List UInt8) : l.takeWhile p = l.take (l.takeWhile p).length := by
 induction l with
 | nil => rfl
 | cons b r ih =>
  rw [List.takeWhile_cons]
  split
  ·rw [List.length_cons, List.take_succ_cons, ← ih]
  ·rfl

set_option maxHeartbeats 1000000 in
theorem first_par (b : UInt8) (r : List UInt8) (w : World) (hb : b = 40 ∨ b = 41) : Calls Tryz.prog 252 #[str (b :: r)] w (GivesFirst w (M.firstT (b :: r)) (M.firstN (b :: r))) := by
 have hx := ext_head b r
 rcases hb with rfl | rfl
 ·go_enter Tryz.func252, Tryz.ntmps252
  go_wp2
  refine bodyPost_ret (v := .tuple #[.agg #[.int .i64 1, str []], .int .i64 1]) (by simp [results, Tryz.results252, go_sem]) rfl ⟨rfl, ?_⟩
  exact Ext.alloc _ _
 ·go_enter Tryz.func252, Tryz.ntmps252
  go_wp2
  refine bodyPost_ret (v := .tuple #[.agg #[.int .i64 2, str []], .int .i64 1]) (by simp [results, Tryz.results252, go_sem]) rfl ⟨rfl, ?_⟩
  exact Ext.alloc _ _

set_option maxHeartbeats 2000000 in
theorem first_key (r : List UInt8) (hr : r.length ≤ 1000000000) (w : World) : Calls Tryz.prog 252 #[str (58 :: r)] w (GivesFirst w (M.firstT (58 :: r)) (M.firstN (58 :: r))) := by
 have hx := ext_head 58 r
 obtain ⟨m, hm⟩ : ∃ m, (r.takeWhile M.sym).length = m := ⟨_, rfl⟩
 obtain ⟨u, hu⟩ : ∃ u, r.takeWhile M.sym = u := ⟨_, rfl⟩
 have hmr : m ≤ r.length := by rw [← hm]; exact M.takeWhile_len _ _
 have hum : u.length = m := by rw [← hu, hm]
 have hx2 : (⟨r.toArray⟩ : ByteArray).extract 0 m = ⟨u.toArray⟩ := by rw [ext_str, List.drop_zero, Nat.sub_zero, ← hm, ← takeWhile_take, hu]
 have HM := hid hm
 have hu9 : u.length ≤ 1000000000 := by omega
 have hul : (u.length : Int) = (m : Int) := by rw [hum]
 have H0 := hid (fun w => cutP_n (58 :: r) w (u := r) (q := true) (by simp [Lib.trimPrefix, Lib.hasPrefix]) (by simp [Lib.hasPrefix]))
 have H1 := hid (fun w => symbolic_n r (by omega) HM.out w)
 have H3 := hid (fun w => token_n 5 u (by omega) w)
 rcases hq : M.isSym u with _ | _
 ·have H2 := hid (fun w => symbol_n u (by omega) w)
  rw [hq] at H2
  have hn := hid (show M.firstT (58 :: r) = (0, []) ∧ M.firstN (58 :: r) = 0 by unfold M.firstT M.firstN; simp [M.first, hu, hq])
  clear hm hu hq hum
  go_enter Tryz.func252, Tryz.ntmps252
  go_wp2_with fail
  refine (H0.out _).mono ?_
  rintro e w' ⟨rfl, rfl⟩
  have E := hid (Ext.refl (w.alloc (.cells #[.int .i64 0, .string ⟨#[]⟩] 23)))
  go_wp2_with (first | (go_at_call 243; refine (H1.out _).mono ?_; rintro e w2 ⟨rfl, hb⟩; replace E := hid (E.out.trans hb); clear hb; obtain ⟨c0, c1, f0, f1, hz⟩ := box2 E.out) | (go_at_call 187; refine (H2.out _).mono ?_; rintro e w3 ⟨rfl, hb⟩; replace E := hid (E.out.trans hb); clear hb; obtain ⟨c0, c1, f0, f1, hz⟩ := box2 E.out))
  rw [hn.out.1, hn.out.2]
  refine bodyPost_ret (v := .tuple #[.agg #[.int .i64 0, str []], .int .i64 0]) (by simp [results, Tryz.results252, go_sem, c0, c1, hz]) rfl ⟨rfl, ?_⟩
  exact (((Ext.alloc w _).trans E.out).set' (Nat.le_refl _) _).set' (Nat.le_refl _) _
 ·have H2 := hid (fun w => symbol_n u (by omega) w)
  rw [hq] at H2
  have hn := hid (show M.firstT (58 :: r) = (5, u) ∧ M.firstN (58 :: r) = 1 + m by unfold M.firstT M.firstN; simp [M.first, hu, hq, hum])
  clear hm hu hq hum
  go_enter Tryz.func252, Tryz.ntmps252
  go_wp2_with fail
  refine (H0.out _).mono ?_
  rintro e w' ⟨rfl, rfl⟩
  have E := hid (Ext.refl (w.alloc (.cells #[.int .i64 0, .string ⟨#[]⟩] 23)))
  go_wp2_with (first | (go_at_call 243; refine (H1.out _).mono ?_; rintro e w2 ⟨rfl, hb⟩; replace E := hid (E.out.trans hb); clear hb; obtain ⟨c0, c1, f0, f1, hz⟩ := box2 E.out) | (go_at_call 187; refine (H2.out _).mono ?_; rintro e w3 ⟨rfl, hb⟩; replace E := hid (E.out.trans hb); clear hb; obtain ⟨c0, c1, f0, f1, hz⟩ := box2 E.out) | (go_at_call 291; refine (H3.out _).mono ?_; rintro e w4 ⟨rfl, hb⟩; replace E := hid (E.out.trans hb); clear hb; obtain ⟨c0, c1, f0, f1, hz⟩ := box2 E.out; simp only [tok]))
  rw [hn.out.1, hn.out.2]
  refine bodyPost_ret (v := .tuple #[.agg #[.int .i64 5, str u], .int .i64 ((1 + m : Nat) : Int)]) (by simp [results, Tryz.results252, go_sem, c0, c1, hz]) rfl ⟨rfl, ?_⟩
  exact (((Ext.alloc w _).trans E.out).set' (Nat.le_refl _) _).set' (Nat.le_refl _) _

set_option maxHeartbeats 4000000 in
theorem first_other (b : UInt8) (r : List UInt8) (hb1 : b ≠ 40) (hb2 : b ≠ 41) (hb3 : b ≠ 58) (hr : (b :: r).length ≤ 1000000000) (w : World) : Calls Tryz.prog 252 #[str (b :: r)] w (GivesFirst w (M.firstT (b :: r)) (M.firstN (b :: r))) := by
 have hx := ext_head b r
 have q1 : (b == 40) = false := by simpa using hb1
 have q2 : (b == 41) = false := by simpa using hb2
 obtain ⟨l, hl⟩ : ∃ l, l = b :: r := ⟨_, rfl⟩
 obtain ⟨m, hm⟩ : ∃ m, (l.takeWhile M.sym).length = m := ⟨_, rfl⟩
 obtain ⟨u, hu⟩ : ∃ u, l.takeWhile M.sym = u := ⟨_, rfl⟩
 have hmr : m ≤ l.length := by rw [← hm]; exact M.takeWhile_len _ _
 have hl9 : l.length ≤ 1000000000 := by rw [hl]; exact hr
 have hum : u.length = m := by rw [← hu, hm]
 have hx2 : (⟨l.toArray⟩ : ByteArray).extract 0 m = ⟨u.toArray⟩ := by rw [ext_str, List.drop_zero, Nat.sub_zero, ← hm, ← takeWhile_take, hu]
 have HM := hid hm
 have hu9 : u.length ≤ 1000000000 := by omega
 have hul : (u.length : Int) = (m : Int) := by rw [hum]
 have hp : [58].isPrefixOf (b :: r) = false := by
  rw [Bool.eq_false_iff]; intro h; obtain ⟨v, hv⟩ := List.isPrefixOf_iff_prefix.1 h; simp at hv; exact hb3 hv.1.symm
 have H0 := hid (fun w => cutP_n (b :: r) w (u := l) (q := false) (by simp only [Lib.trimPrefix, Lib.hasPrefix, hp]; rw [hl]; rfl) (by simp only [Lib.hasPrefix, hp]))
 have H1 := hid (fun w => symbolic_n l (by omega) HM.out w)
 have H3 := hid (fun w => token_n 4 u (by omega) w)
 have H4 := hid (fun w => numeral_n u (by omega) w)
 have H5 := hid (fun w => token_n 3 u (by omega) w)
 have H2 := hid (fun w => symbol_n u (by omega) w)
 have hu2 : (b :: r).takeWhile M.sym = u := by rw [← hl]; exact hu
 have hf : M.first (b :: r) = if M.isSym u = true then some ((4, u), m) else if M.isNum u = true then some ((3, u), m) else none := by
  rw [M.first, if_neg hb1, if_neg hb2, if_neg hb3, hu2, hum]
 have HF := hid hf
 clear hm hu hum hu2 hp hf hb1 hb2 hb3 hl hr
 rcases hq : M.isSym u with _ | _
 ·rw [hq] at H2
  rcases hq4 : M.isNum u with _ | _
  ·rw [hq4] at H4
   have hn := hid (show M.firstT (b :: r) = (0, []) ∧ M.firstN (b :: r) = 0 by unfold M.firstT M.firstN; rw [HF.out, hq, hq4]; exact ⟨rfl, rfl⟩)
   clear hq hq4
   go_enter Tryz.func252, Tryz.ntmps252
   go_wp2_with fail
   refine (H0.out _).mono ?_
   rintro e w' ⟨rfl, rfl⟩
   have E := hid (Ext.refl (w.alloc (.cells #[.int .i64 0, .string ⟨#[]⟩] 23)))
   go_wp2_with (first | (go_at_call 243; refine (H1.out _).mono ?_; rintro e w2 ⟨rfl, hb⟩; replace E := hid (E.out.trans hb); clear hb; obtain ⟨c0, c1, f0, f1, hz⟩ := box2 E.out) | (go_at_call 187; refine (H2.out _).mono ?_; rintro e w3 ⟨rfl, hb⟩; replace E := hid (E.out.trans hb); clear hb; obtain ⟨c0, c1, f0, f1, hz⟩ := box2 E.out) | (go_at_call 292; refine (H4.out _).mono ?_; rintro e w3 ⟨rfl, hb⟩; replace E := hid (E.out.trans hb); clear hb; obtain ⟨c0, c1, f0, f1, hz⟩ := box2 E.out))
   rw [hn.out.1, hn.out.2]
   refine bodyPost_ret (v := .tuple #[.agg #[.int .i64 0, str []], .int .i64 0]) (by simp [results, Tryz.results252, go_sem, c0, c1, hz]) rfl ⟨rfl, ?_⟩
   exact (((Ext.alloc w _).trans E.out).set' (Nat.le_refl _) _).set' (Nat.le_refl _) _
  ·rw [hq4] at H4
   have hn := hid (show M.firstT (b :: r) = (3, u) ∧ M.firstN (b :: r) = m by unfold M.firstT M.firstN; rw [HF.out, hq, hq4]; exact ⟨rfl, rfl⟩)
   clear hq hq4
   go_enter Tryz.func252, Tryz.ntmps252
   go_wp2_with fail
   refine (H0.out _).mono ?_
   rintro e w' ⟨rfl, rfl⟩
   have E := hid (Ext.refl (w.alloc (.cells #[.int .i64 0, .string ⟨#[]⟩] 23)))
   go_wp2_with (first | (go_at_call 243; refine (H1.out _).mono ?_; rintro e w2 ⟨rfl, hb⟩; replace E := hid (E.out.trans hb); clear hb; obtain ⟨c0, c1, f0, f1, hz⟩ := box2 E.out) | (go_at_call 187; refine (H2.out _).mono ?_; rintro e w3 ⟨rfl, hb⟩; replace E := hid (E.out.trans hb); clear hb; obtain ⟨c0, c1, f0, f1, hz⟩ := box2 E.out) | (go_at_call 292; refine (H4.out _).mono ?_; rintro e w3 ⟨rfl, hb⟩; replace E := hid (E.out.trans hb); clear hb; obtain ⟨c0, c1, f0, f1, hz⟩ := box2 E.out) | (go_at_call 291; refine (H5.out _).mono ?_; rintro e w4 ⟨rfl, hb⟩; replace E := hid (E.out.trans hb); clear hb; obtain ⟨c0, c1, f0, f1, hz⟩ := box2 E.out; simp only [tok]))
   rw [hn.out.1, hn.out.2]
   refine bodyPost_ret (v := .tuple #[.agg #[.int .i64 3, str u], .int .i64 (m : Int)]) (by simp [results, Tryz.results252, go_sem, c0, c1, hz]) rfl ⟨rfl, ?_⟩
   exact (((Ext.alloc w _).trans E.out).set' (Nat.le_refl _) _).set' (Nat.le_refl _) _
 ·rw [hq] at H2
  have hn := hid (show M.firstT (b :: r) = (4, u) ∧ M.firstN (b :: r) = m by unfold M.firstT M.firstN; rw [HF.out, hq]; exact ⟨rfl, rfl⟩)
  clear hq
  go_enter Tryz.func252, Tryz.ntmps252
  go_wp2_with fail
  refine (H0.out _).mono ?_
  rintro e w' ⟨rfl, rfl⟩
  have E := hid (Ext.refl (w.alloc (.cells #[.int .i64 0, .string ⟨#[]⟩] 23)))
  go_wp2_with (first | (go_at_call 243; refine (H1.out _).mono ?_; rintro e w2 ⟨rfl, hb⟩; replace E := hid (E.out.trans hb); clear hb; obtain ⟨c0, c1, f0, f1, hz⟩ := box2 E.out) | (go_at_call 187; refine (H2.out _).mono ?_; rintro e w3 ⟨rfl, hb⟩; replace E := hid (E.out.trans hb); clear hb; obtain ⟨c0, c1, f0, f1, hz⟩ := box2 E.out) | (go_at_call 291; refine (H3.out _).mono ?_; rintro e w4 ⟨rfl, hb⟩; replace E := hid (E.out.trans hb); clear hb; obtain ⟨c0, c1, f0, f1, hz⟩ := box2 E.out; simp only [tok]))
  rw [hn.out.1, hn.out.2]
  refine bodyPost_ret (v := .tuple #[.agg #[.int .i64 4, str u], .int .i64 (m : Int)]) (by simp [results, Tryz.results252, go_sem, c0, c1, hz]) rfl ⟨rfl, ?_⟩
  exact (((Ext.alloc w _).trans E.out).set' (Nat.le_refl _) _).set' (Nat.le_refl _) _
theorem first_n {b : UInt8} {r : List UInt8} (hr : (b :: r).length ≤ 1000000000) (w : World) : Calls Tryz.prog 252 #[str (b :: r)] w (GivesFirst w (M.firstT (b :: r)) (M.firstN (b :: r))) := by
 by_cases h1 : b = 40
 ·exact first_par b r w (.inl h1)
 ·by_cases h2 : b = 41
  ·exact first_par b r w (.inr h2)
  ·by_cases h3 : b = 58
   ·subst h3
    exact first_key r (by simp at hr; omega) w
   ·exact first_other b r h1 h2 h3 hr w
end Go.Proofs.YtgkofipifjfjhaaGreatDoor.Q

/-
  Contract of package lex: Words.
-/
namespace Go.Proofs.YtgkofipifjfjhaaGreatDoor.Q
set_option linter.unusedSimpArgs false
set_option linter.unusedVariables false
open Go.RowKit

namespace M
/-- What the loop over the words keeps: all words up to k are ts. -/
def WordsAt (s : List UInt8) (ts : List Tok) (k : Nat) : Prop := scan s = (ts ++ (scan (s.drop k)).1, (scan (s.drop k)).2) ∧ k ≤ s.length ∧ ts.length ≤ k
def Gapped (s : List UInt8) (k : Nat) : Prop := skip (s.drop k) = s.drop k
theorem WordsAt.zero (s : List UInt8) : WordsAt s [] 0 := ⟨by simp, by simp, by simp⟩
theorem WordsAt.gap {s : List UInt8} {ts : List Tok} {k : Nat} (h : WordsAt s ts k) {u : List UInt8} (hu : s.drop k = u) : WordsAt s ts (k + (u.length - (skip u).length)) ∧ Gapped s (k + (u.length - (skip u).length)) := by
 have e : s.drop (k + (u.length - (skip u).length)) = skip u := by rw [← List.drop_drop, hu, ← skip_drop]
 obtain ⟨h1, h2, h3⟩ := h
 have hul : u.length = s.length - k := by rw [← hu, List.length_drop]
 refine ⟨⟨?_, by omega, by omega⟩, ?_⟩
 ·rw [e, scan_skip, ← hu]; exact h1
 ·unfold Gapped; rw [e]; exact skip_idem u
theorem WordsAt.tok {s : List UInt8} {ts : List Tok} {k f : Nat} {b : UInt8} {r : List UInt8} {t : Tok} (h : WordsAt s ts k) (hd : s.drop k = b :: r) (hs : skip (b :: r) = b :: r) (hf : first (b :: r) = some (t, f)) : WordsAt s (ts ++ [t]) (k + f) := by
 obtain ⟨h1, h2, h3⟩ := h
 have hl : r.length + 1 = s.length - k := by rw [← List.length_cons (a := b), ← hd, List.length_drop]
 have hfl := first_len hf
 simp at hfl
 refine ⟨?_, by omega, by simp; omega⟩
 rw [h1, hd, scan_tok hs hf, ← hd, List.drop_drop]
 simp
theorem WordsAt.done {s : List UInt8} {ts : List Tok} {k : Nat} (h : WordsAt s ts k) (hk : k = s.length) : scan s = (ts, none) := by
 obtain ⟨h1, _, _⟩ := h
 rw [h1, hk, List.drop_length, scan_nil skip_nil]
 simp
theorem WordsAt.bad {s : List UInt8} {ts : List Tok} {k : Nat} {b : UInt8} {r : List UInt8} (h : WordsAt s ts k) (hd : s.drop k = b :: r) (hs : skip (b :: r) = b :: r) (hf : first (b :: r) = none) : (scan s).2 = some (s.length - k) := by
 obtain ⟨h1, h2, _⟩ := h
 have hl : r.length + 1 = s.length - k := by rw [← List.length_cons (a := b), ← hd, List.length_drop]
 rw [h1, hd, scan_bad hs hf, hl]
theorem w_done {s : List UInt8} {ts : List Tok} (hl : s.length ≤ 4000) (h : scan s = (ts, none)) : wToks s = ts ∧ wAt s = s.length ∧ wErr s = 0 := by
 unfold wToks wAt wErr
 rw [if_neg (by omega), if_neg (by omega), if_neg (by omega), h]
 exact ⟨rfl, rfl, rfl⟩
theorem w_bad {s : List UInt8} {k : Nat} (hl : s.length ≤ 4000) (hk : k ≤ s.length) (h : (scan s).2 = some (s.length - k)) : wToks s = [] ∧ wAt s = k ∧ wErr s = 14 := by
 unfold wToks wAt wErr
 rw [if_neg (by omega), if_neg (by omega), if_neg (by omega), h]
 exact ⟨rfl, by simp; omega, rfl⟩
theorem w_large {s : List UInt8} (hl : 4000 < s.length) : wToks s = [] ∧ wAt s = 0 ∧ wErr s = 11 := by
 unfold wToks wAt wErr
 rw [if_pos hl, if_pos hl, if_pos hl]
 exact ⟨rfl, rfl, rfl⟩
def cells (ts : List Tok) : List Value := (ts.map fun t => [Value.int .i64 t.1, str t.2]).flatten
theorem cells_snoc (ts : List Tok) (t : Tok) : cells (ts ++ [t]) = cells ts ++ [Value.int .i64 t.1, str t.2] := by unfold cells; simp
theorem cells_at : ∀ {ts : List Tok} {k : Nat} {t : Tok}, ts[k]? = some t → (cells ts)[k * 2]? = some (.int .i64 t.1) ∧ (cells ts)[k * 2 + 1]? = some (str t.2)
 | [], _, _, h => by simp at h
 | x :: r, 0, t, h => by simp at h; subst h; exact ⟨rfl, rfl⟩
 | x :: r, k + 1, t, h => by
  have e : cells (x :: r) = Value.int .i64 x.1 :: str x.2 :: cells r := rfl
  have ih := cells_at (ts := r) (k := k) (t := t) (by simpa using h)
  rw [e, show (k + 1) * 2 = k * 2 + 2 by omega]
  exact ih
end M
/-- A list of words in memory. -/
def TList (w : World) (v : Value) (ts : List M.Tok) : Prop := ∃ A n c, v = .slice A n c ∧ n = ts.length ∧ n ≤ c ∧ c ≤ maxLen ∧
 (ts ≠ [] → ∃ ad, A = some ad ∧ ad.block < w.heap.size ∧ ∀ k t, ts[k]? = some t → w.cell? (ad.add (k * 2)) = some (.int .i64 t.1) ∧ w.cell? ((ad.add (k * 2)).add 1) = some (str t.2))
theorem TList.nil (w : World) : TList w (.slice none 0 0) [] := ⟨none, 0, 0, rfl, rfl, Nat.le_refl _, Nat.zero_le _, fun h => absurd rfl h⟩
theorem TList.up {w w' : World} {v : Value} {ts : List M.Tok} (h : TList w v ts) (e : Ext w w') : TList w' v ts := by
 obtain ⟨A, n, c, h1, h2, h3, h4, h5⟩ := h
 refine ⟨A, n, c, h1, h2, h3, h4, fun hne => ?_⟩
 obtain ⟨ad, ha, hb, hc⟩ := h5 hne
 exact ⟨ad, ha, Nat.lt_of_lt_of_le hb e.size, fun k t hk => ⟨e.cell (hc k t hk).1, e.cell (hc k t hk).2⟩⟩
theorem TList.shape {w : World} {v : Value} {ts : List M.Tok} (h : TList w v ts) : ∃ A c, v = .slice A ts.length c := by
 obtain ⟨A, n, c, h1, h2, _⟩ := h
 exact ⟨A, c, by rw [h1, h2]⟩
theorem TList.get {w : World} {A : Option Addr} {n c : Nat} {ts : List M.Tok} (h : TList w (.slice A n c) ts) {k : Nat} (hk : k < ts.length) :
 ∃ ad t, A = some ad ∧ ts[k]? = some t ∧ w.cell? (ad.add (k * 2)) = some (.int .i64 t.1) ∧ w.cell? ⟨(ad.add (k * 2)).block, (ad.add (k * 2)).off + 1, none⟩ = some (str t.2) := by
 obtain ⟨A', n', c', e, h2, h3, h4, h5⟩ := h
 injection e with e1 e2 e3
 obtain ⟨ad, ha, hb, hc⟩ := h5 (by intro e; subst e; simp at hk)
 have hk' := List.getElem?_eq_getElem hk
 obtain ⟨c0, c1⟩ := hc k _ hk'
 exact ⟨ad, _, by rw [e1, ha], hk', c0, c1⟩
/-- A list of words of the call's own. -/
def OwnT (base : Nat) (w : World) (v : Value) (ts : List M.Tok) : Prop := w.ownsRow base 23 2 v ts.length (M.cells ts)
theorem OwnT.nil (base : Nat) (w : World) : OwnT base w (.slice none 0 0) [] := World.ownsRow_nil w base _ 2
theorem OwnT.alloc {base : Nat} {w : World} {v : Value} {ts : List M.Tok} (h : OwnT base w v ts) (o : Obj) : OwnT base (w.alloc o) v ts := World.ownsRow.alloc h o
theorem OwnT.up {base : Nat} {w w' : World} {v : Value} {ts : List M.Tok} (h : OwnT base w v ts) (hb : Ext w w') : OwnT base w' v ts :=
 World.ownsRow.kept h (row := none) ⟨hb.os, hb.tape, hb.output, hb.size, fun k hk _ => hb.block k hk⟩ (by cases v.ownBlock <;> simp)
theorem OwnT.list {base : Nat} {w : World} {v : Value} {ts : List M.Tok} (h : OwnT base w v ts) : TList w v ts := by
 have hh := h
 obtain ⟨hl, h2⟩ := h
 rcases h2 with ⟨rfl, h0⟩ | ⟨g, cap, cur, rfl, hb, hg, hc, hm, _, _⟩
 ·obtain rfl : ts = [] := List.eq_nil_of_length_eq_zero h0
  exact TList.nil _
 ·refine ⟨_, _, _, rfl, rfl, hc, hm, fun hn => ⟨_, rfl, (Array.getElem?_eq_some_iff.1 hg).1, fun k t hk => ?_⟩⟩
  have hc := M.cells_at hk
  refine ⟨World.ownsRow.cells hh (g := g) rfl _ _ hc.1, ?_⟩
  rw [Addr.add_add]
  exact World.ownsRow.cells hh (g := g) rfl _ _ hc.2
theorem info_Token : (Tryz.prog.info? 23).map (fun i => (i.zero, i.size, i.bytes)) = some (some (.agg #[.int .i64 0, .string ⟨#[]⟩]), 2, 24) := by kernel_rfl
theorem wpList_appT {w : World} {ops : Array Oper} {rest : List Oper} {o : Oper} {a : Act} {Q : Exit → Act → World → Prop} (hgd : o.guard = none) (s x : Operand)
 (ho : o.op = .call { callee := .builtin .append, args := #[s, x], argTypes := #[149, 149] })
 (base : Nat) (v : Value) (ts : List M.Tok) (hs : a.eval s = v) (hown : OwnT base w v ts) (g : Nat) (t : M.Tok) (hx : a.eval x = .slice (some ⟨g, 0, none⟩) 1 1)
 (hc0 : w.cell? ⟨g, 0, none⟩ = some (.int .i64 t.1)) (hc1 : w.cell? ⟨g, 1, none⟩ = some (str t.2)) (hlen : ts.length + 1 ≤ 1000000000) (hbase : base ≤ w.heap.size)
 (h : ∀ v' w', OwnT base w' v' (ts ++ [t]) → Below base w w' → wpList Tryz.prog ops Q rest (a.put o.dst v') w') : wpList Tryz.prog ops Q (o :: rest) a w := by
 obtain ⟨i0, hi, hz0, hz1, hz2⟩ := info_parts info_Token
 refine wpList_append_own w hgd s x 149 ho base 23 i0 _ 2 24 Tryz.underlying149 hi hz0 hz1 hz2 rfl (by decide) v ts.length _ hs hown ⟨g, 0, none⟩ 1 1 [.int .i64 t.1, str t.2] hx rfl ?_ ?_ (by unfold maxLen; omega) (by omega) hbase ?_
 ·intro j u hj
  rcases j with _ | _ | j
  ·simp at hj; subst hj; rw [Addr.add_lit]; exact hc0
  ·simp at hj; subst hj; rw [Addr.add_lit]; exact hc1
  ·simp at hj
 ·intro u hu; simp at hu; rcases hu with rfl | rfl <;> rfl
 ·intro v' w' h1 h2 _
  refine h v' w' ?_ ((Below.refl _ _).grown h2 hbase fun k hk => (World.ownsRow.lt hown k hk).1)
  unfold OwnT
  rw [List.length_append, M.cells_snoc]
  exact h1
def GivesW (w : World) (ts : List M.Tok) (k : Nat) (z : Int) (e : Ending) (w' : World) : Prop := ∃ v, e = .returned (.tuple #[v, .int .i64 (k : Int), .int .i64 z]) ∧ TList w' v ts ∧ Ext w w'
def RoundW (s : List UInt8) (W : World) (o : Value) (ts : List M.Tok) (k : Nat) (wr : World) : Prop := M.WordsAt s ts k ∧ M.Gapped s k ∧ OwnT W.heap.size wr o ts ∧ Ext W wr
set_option maxHeartbeats 4000000 in
theorem words_n (s : List UInt8) (hs : s.length ≤ 1000000000000) (w : World) : Calls Tryz.prog 196 #[str s] w (GivesW w (M.wToks s) (M.wAt s) (M.wErr s)) := by
 rcases Nat.lt_or_ge 4000 s.length with hl | hl
 ·obtain ⟨h1, h2, h3⟩ := M.w_large hl
  rw [h1, h2, h3]
  have hq : (4000 < (s.length : Int)) := by omega
  clear h1 h2 h3
  go_enter Tryz.func196, Tryz.ntmps196
  go_wp2
  go_ret3
  exact ⟨.slice none 0 0, rfl, TList.nil _, Ext.refl _⟩
 ·have hq : ((s.length : Int) ≤ 4000) := by omega
  have W0 := (M.WordsAt.zero s).gap (u := s) rfl
  obtain ⟨k0, hk0⟩ : ∃ k0, s.length - (M.skip s).length = k0 := ⟨_, rfl⟩
  rw [hk0, Nat.zero_add] at W0
  have H0 := hid (show ∀ w, Calls Tryz.prog 251 #[str s] w (GivesI w (k0 : Int)) from fun w => hk0 ▸ gap_n s (by omega) w)
  have HW0 := hid W0
  clear W0 hk0
  go_enter Tryz.func196, Tryz.ntmps196
  go_wp2_with fail
  refine (H0.out _).mono ?_
  rintro e w1 ⟨rfl, hb⟩
  have E1 := hid hb
  clear hb
  go_upto_region 5 with (fail)
  go_loopw [5, 6] (fun o i wr => ∃ (ts : List M.Tok) (k : Nat), i = .int .i64 (k : Int) ∧ k ≤ s.length ∧ Hid (RoundW s w o ts k wr)) (fun _ i _ => s.length - (intOf i).toNat)
  case atStart => exact ⟨[], k0, rfl, HW0.out.1.2.1, HW0.out.1, HW0.out.2, OwnT.nil _ _, E1.out⟩
  case round =>
   obtain ⟨ts, k, rfl, hk, hR⟩ := hrel
   rcases Nat.lt_or_ge k s.length with hlt | hge
   ·rcases hd : s.drop k with _ | ⟨b, r⟩
    ·exfalso; have := congrArg List.length hd; simp at this; omega
    ·have hdl : r.length + 1 = s.length - k := by rw [← List.length_cons (a := b), ← hd, List.length_drop]
     have hx : (⟨s.toArray⟩ : ByteArray).extract k s.length = ⟨(b :: r).toArray⟩ := by rw [ext_drop, hd]
     have hsk := hR.out.2.1
     unfold M.Gapped at hsk
     rw [hd] at hsk
     obtain ⟨t, ht⟩ : ∃ t, M.firstT (b :: r) = t := ⟨_, rfl⟩
     obtain ⟨f, hf⟩ : ∃ f, M.firstN (b :: r) = f := ⟨_, rfl⟩
     have HF := hid (show ∀ w, Calls Tryz.prog 252 #[str (b :: r)] w (GivesFirst w t f) from fun w => ht ▸ hf ▸ first_n (by simp; omega) w)
     rcases Nat.eq_zero_or_pos f with h0 | hpos
     ·subst h0
      have HB := hid (M.w_bad hl hk (hR.out.1.bad hd hsk (M.first_none hf)))
      clear hd hdl hsk ht hf
      go_wp2_with (go_at_call 252; refine (HF.out _).mono ?_; rintro e w2 ⟨rfl, hb⟩; have E2 := hid hb; clear hb; simp only [tok])
      go_ret3
      rw [HB.out.1, HB.out.2.1, HB.out.2.2]
      exact ⟨.slice none 0 0, rfl, TList.nil _, (hR.out.2.2.2.trans E2.out).alloc' _⟩
     ·have hfs := M.first_some (l := b :: r) (by omega)
      rw [ht, hf] at hfs
      have hfl := M.first_len hfs
      simp at hfl
      have W1 := hR.out.1.tok hd hsk hfs
      obtain ⟨p, hp⟩ : ∃ p, k + f = p := ⟨_, rfl⟩
      rw [hp] at W1
      have hpl : p ≤ s.length := by omega
      have hpi : (k : Int) + (f : Int) = (p : Int) := by omega
      obtain ⟨u, hu⟩ : ∃ u, s.drop p = u := ⟨_, rfl⟩
      have hul : u.length ≤ 4000 := by rw [← hu, List.length_drop]; omega
      have hx2 : (⟨s.toArray⟩ : ByteArray).extract p s.length = ⟨u.toArray⟩ := by rw [ext_drop, hu]
      obtain ⟨d, hdd⟩ : ∃ d, u.length - (M.skip u).length = d := ⟨_, rfl⟩
      have W2 := W1.gap hu
      rw [hdd] at W2
      obtain ⟨k', hk'⟩ : ∃ k', p + d = k' := ⟨_, rfl⟩
      rw [hk'] at W2
      have hki : (p : Int) + (d : Int) = (k' : Int) := by omega
      have HG := hid (show ∀ w, Calls Tryz.prog 251 #[str u] w (GivesI w (d : Int)) from fun w => hdd ▸ gap_n u (by omega) w)
      have hz : ((f : Int) == 0) = false := by simp; omega
      have HW := hid W2
      have hkk : k < k' := by omega
      have htl : ts.length ≤ 4000 := Nat.le_trans hR.out.1.2.2 (by omega)
      have hk'l : k' ≤ s.length := HW.out.1.2.1
      clear hd hdl hsk ht hf hfs hfl W1 hp hu hdd W2 hk' hpos
      go_wp2_with (first | (go_at_call 252; refine (HF.out _).mono ?_; rintro e w2 ⟨rfl, hb⟩; have E2 := hid hb; clear hb; simp only [tok]) | (at_builtin; refine wpList_appT rfl (.tmp 34) (.tmp 36) rfl w.heap.size _ ts rfl (((hR.out.2.2.1.up E2.out).alloc _).alloc _) _ t rfl ?c0 ?c1 ?c2 ?c3 ?_))
      case c0 => simp
      case c1 => simp
      case c2 => omega
      case c3 => have h1 := hR.out.2.2.2.size; have h2 := E2.out.size; simp; omega
      intro v' w3 hown hbel
      have HO := hid hown
      have HE := hid (show Ext w w3 from Below.trans (B := w.heap.size) (((hR.out.2.2.2.trans E2.out).alloc' _).alloc' _) hbel)
      clear hown hbel
      go_wp2_with (go_at_call 251; refine (HG.out _).mono ?_; rintro e w4 ⟨rfl, hb⟩; have E4 := hid hb; clear hb)
      go_roundw
      case rel => exact ⟨ts ++ [t], k', rfl, hk'l, HW.out.1, HW.out.2, HO.out.up E4.out, HE.out.trans E4.out⟩
      case measure => simp [intOf]; omega
   ·obtain rfl : k = s.length := by omega
    have HD := hid (M.w_done hl (hR.out.1.done rfl))
    go_wp2
    go_ret3
    rw [HD.out.1, HD.out.2.1, HD.out.2.2]
    exact ⟨_, rfl, hR.out.2.2.1.list, hR.out.2.2.2⟩
end Go.Proofs.YtgkofipifjfjhaaGreatDoor.Q

/-
  Contracts: strings.Builder's WriteString; package lex's Print.
-/
namespace Go.Proofs.YtgkofipifjfjhaaGreatDoor.Q
set_option linter.unusedSimpArgs false
set_option linter.unusedVariables false
open Go.RowKit

abbrev TB : TypeId := 270
abbrev T8 : TypeId := 5
set_option maxHeartbeats 1000000 in
set_option maxRecDepth 100000 in
theorem check_new (b : Nat) (w : World) (h0 : w.cell? ⟨b, 0, none⟩ = some (.pointer none)) (hsh : w.shape? b = some (TB, 2)) (hfz : w.frozen? ⟨b, 0, none⟩ = false) :
 Calls Tryz.prog 293 #[.pointer (some ⟨b, 0, none⟩)] w fun e w' => e = .returned (.tuple #[]) ∧ w' = w.setCell ⟨b, 0, none⟩ (.pointer (some ⟨b, 0, none⟩)) := by
 obtain ⟨j, hj, hjs⟩ := Option.map_eq_some_iff.1 (show (Tryz.prog.info? TB).map (·.size) = some 2 by kernel_rfl)
 have hto := Lib.run_to_unsafe w ⟨b, 0, none⟩ Tryz.underlying268 Tryz.underlying311 hj (by rw [hjs]; decide) hsh (Nat.zero_lt_succ 1)
 have hfrom := Lib.run_from_unsafe w ⟨b, 0, none⟩ Tryz.underlying311 Tryz.underlying268 hj hsh (by kernel_rfl)
 have hno : (callFunc 312 #[.pointer (some ⟨b, 0, none⟩)]).run Tryz.prog w = .ok (.value (.pointer (some ⟨b, 0, none⟩))) w := by
  rw [run_callFunc_extern (show Tryz.prog.funcs[312]? = some Tryz.f312 by kernel_rfl) (by kernel_rfl) (by kernel_rfl) (by kernel_rfl) (e := Extern.AbiNoEscape.same) (by kernel_rfl), Lib.run_noEscape]
  rfl
 go_enter Tryz.func293, Tryz.ntmps293
 go_wp2
 go_end0
 exact ⟨rfl, rfl⟩
theorem check_old (b : Nat) (w : World) (h0 : w.cell? ⟨b, 0, none⟩ = some (.pointer (some ⟨b, 0, none⟩))) :
 Calls Tryz.prog 293 #[.pointer (some ⟨b, 0, none⟩)] w fun e w' => e = .returned (.tuple #[]) ∧ w' = w := by
 obtain ⟨j, hj, hjs⟩ := Option.map_eq_some_iff.1 (show (Tryz.prog.info? TB).map (·.size) = some 2 by kernel_rfl)
 have hne := Lib.run_neq_ptr_same w ⟨b, 0, none⟩ Tryz.underlying268 hj
 go_enter Tryz.func293, Tryz.ntmps293
 go_wp2
 go_end0
 exact ⟨rfl, rfl⟩
/-- A builder that the call made itself. -/
def Bld (B b : Nat) (l : List UInt8) (w : World) : Prop := Lib.IsBuilderF TB T8 B b (Lib.byteCells l) w
theorem Bld.new (w : World) : Bld w.heap.size w.heap.size [] (w.alloc (.cells #[.pointer none, .slice none 0 0] TB)) :=
 .inl ⟨Nat.le_refl _, _, heap_alloc_new w _, World.ownsRowF_nil _ _ _ _, by simp [Value.ownBlock]⟩
theorem Bld.lt {B b : Nat} {l : List UInt8} {w : World} (h : Bld B b l w) : b < w.heap.size := by
 rcases h with ⟨_, v, hb, _⟩ | ⟨_, v, hb, _⟩ <;> exact (Array.getElem?_eq_some_iff.1 hb).1
theorem Bld.alloc {B b : Nat} {l : List UInt8} {w : World} (h : Bld B b l w) (o : Obj) : Bld B b l (w.alloc o) := by
 have key : ∀ p, Lib.BuilderAtF TB T8 B b p (Lib.byteCells l) w → Lib.BuilderAtF TB T8 B b p (Lib.byteCells l) (w.alloc o) := by
  rintro p ⟨hB, v, hb, hown, hne⟩
  have hlt : b < w.heap.size := (Array.getElem?_eq_some_iff.1 hb).1
  exact ⟨hB, v, (Below.heap_alloc w o b hlt).trans hb, hown.kept (World.grownBy_alloc w o none) (by cases v.ownBlock <;> simp), hne⟩
 exact h.imp (key _) (key _)
theorem Bld.up {B b : Nat} {l : List UInt8} {w w' : World} (h : Bld B b l w) (hE : Ext w w') : Bld B b l w' := by
 have key : ∀ p, Lib.BuilderAtF TB T8 B b p (Lib.byteCells l) w → Lib.BuilderAtF TB T8 B b p (Lib.byteCells l) w' := by
  rintro p ⟨hB, v, hb, hown, hne⟩
  have hlt : b < w.heap.size := (Array.getElem?_eq_some_iff.1 hb).1
  exact ⟨hB, v, (hE.block b hlt).trans hb, hown.kept (row := none) ⟨hE.os, hE.tape, hE.output, hE.size, fun k hk _ => hE.block k hk⟩ (by cases v.ownBlock <;> simp), hne⟩
 exact h.imp (key _) (key _)
theorem check_n {B b : Nat} {l : List UInt8} {w : World} (h : Bld B b l w) : Calls Tryz.prog 293 #[.pointer (some ⟨b, 0, none⟩)] w fun e w' => e = .returned (.tuple #[]) ∧ (Lib.BuilderAtF TB T8 B b (.pointer (some ⟨b, 0, none⟩)) (Lib.byteCells l) w' ∧ Below B w w' ∧ Lib.OthersKept T8 (some b) w w') := by
 rcases h with h | h
 ·refine (check_new b w h.cell0 h.shape h.frozen0).mono ?_
  rintro e w' ⟨rfl, rfl⟩
  exact ⟨rfl, h.used _, (Below.refl B w).setCell (p := ⟨b, 0, none⟩) h.1 _, (Lib.OthersKept.refl _ _ w).setCell ⟨b, 0, none⟩ rfl _⟩
 ·refine (check_old b w h.cell0).mono ?_
  rintro e w' ⟨rfl, rfl⟩
  exact ⟨rfl, h, Below.refl B _, Lib.OthersKept.refl _ _ _⟩
set_option maxHeartbeats 2000000 in
set_option maxRecDepth 100000 in
theorem writeS_n {B b : Nat} {l : List UInt8} {w : World} (h : Bld B b l w) (s : List UInt8) (hlen : l.length + s.length ≤ 1000000000000) (hBw : B ≤ w.heap.size) :
 Calls Tryz.prog 253 #[.pointer (some ⟨b, 0, none⟩), str s] w fun e w' => e = .returned (.tuple #[.int .i64 s.length, .nilIface]) ∧ (Bld B b (l ++ s) w' ∧ Below B w w' ∧ Lib.OthersKept T8 (some b) w w') := by
 obtain ⟨i0, hi, hz0, hz1, hz2⟩ := info_parts (Tryz.Builder_Extra_169.infoByte)
 have hsz : (⟨s.toArray⟩ : ByteArray).size = s.length := by rw [Lib.size_eq]
 have hbl := Lib.byteCells_length l
 have H := hid (check_n h)
 go_enter Tryz.func253, Tryz.ntmps253
 go_wp2_with fail
 refine H.out.mono ?_
 rintro e w1 ⟨rfl, ⟨hB, v, hbk, hown, hne⟩, hb1, hk1⟩
 have c0 : w1.cell? ⟨b, 0, none⟩ = some (.pointer (some ⟨b, 0, none⟩)) := by rw [Lib.cell_of_heap hbk]; rfl
 have c1 : w1.cell? ⟨b, 1, none⟩ = some v := by rw [Lib.cell_of_heap hbk]; rfl
 go_wp2_with (at_builtin; refine Lib.wpList_append_own_stringF _ rfl _ _ 52 9 rfl B T8 i0 Tryz.underlying52 Tryz.underlying9 hi hz0 hz1 hz2 _ _ _ rfl hown ⟨s.toArray⟩ rfl ?c3 ?c4 ?c5 ?_)
 case c3 => rw [hsz, hbl]; unfold maxLen; omega
 case c4 => rw [hsz, hbl]; omega
 case c5 => have := hb1.size; omega
 intro v' w2 hown' hgrow _
 have hlt : b < w1.heap.size := (Array.getElem?_eq_some_iff.1 hbk).1
 have hb2 : w2.heap[b]? = some (.cells #[.pointer (some ⟨b, 0, none⟩), v] TB (0, 0)) := by
  rw [hgrow.block b hlt (fun e => hne e.symm)]; exact hbk
 have d0 : w2.cell? ⟨b, 0, none⟩ = some (.pointer (some ⟨b, 0, none⟩)) := by rw [Lib.cell_of_heap hb2]; rfl
 have d1 : w2.cell? ⟨b, 1, none⟩ = some v := by rw [Lib.cell_of_heap hb2]; rfl
 have f1 : w2.frozen? ⟨b, 1, none⟩ = false := Lib.frozen_of_heap hb2 1
 obtain ⟨ao, n', cap, rfl⟩ : ∃ ao n' cap, v' = .slice ao n' cap := by
  rcases hown'.2 with ⟨hv, _⟩ | ⟨g, cap, cur, fz, hv, _⟩
  ·exact ⟨_, _, _, hv⟩
  ·exact ⟨_, _, _, hv⟩
 have HO := hid hown'
 have HG := hid hgrow
 clear hown' hgrow
 go_wp2
 go_ret2
 refine ⟨rfl, ?_, ?_, (hk1.grown HG.out (Lib.ownsRowF_kind hown)).setCell ⟨b, 1, none⟩ rfl _⟩
 ·have h5 := HO.out
  have e : Lib.byteCells (l ++ s) = Lib.byteCells l ++ Lib.strCells ⟨s.toArray⟩ := by rw [Lib.byteCells_append, Lib.strCells_eq]
  have e2 : (Lib.byteCells (l ++ s)).length = (Lib.byteCells l).length + (⟨s.toArray⟩ : ByteArray).size := by rw [Lib.byteCells_length, Lib.byteCells_length, hsz, List.length_append]
  refine .inr (Lib.BuilderAtF.put (T := TB) (e := T8) hB hb2 (bs' := Lib.byteCells (l ++ s)) ?_ (by decide))
  rw [e2, hbl, hsz, e]; exact h5
 ·exact (hb1.grown HG.out (by have := hb1.size; omega) (fun k hk => (hown.lt k hk).1)).setCell (p := ⟨b, 1, none⟩) hB _

namespace M
theorem print_len : ∀ (ts : List Tok) (k : Nat), (print (ts.take k)).length ≤ (print ts).length
 | ts, k => by
  rcases Nat.lt_or_ge k ts.length with h | h
  ·have e : ts = ts.take k ++ ts.drop k := (List.take_append_drop k ts).symm
   have key : ∀ (a b : List Tok), (print a).length ≤ (print (a ++ b)).length := by
    intro a b
    cases a with
    | nil => exact Nat.zero_le _
    | cons x r => simp [print]
   conv => rhs; rw [e]
   exact key _ _
  ·rw [List.take_of_length_le h]; exact Nat.le_refl _
theorem word_len {ts : List Tok} {k : Nat} {t : Tok} (h : ts[k]? = some t) : (word t).length ≤ (print ts).length := by
 refine Nat.le_trans ?_ (print_len ts (k + 1))
 rw [print_take h]
 split
 ·exact Nat.le_refl _
 ·rw [List.length_append, List.length_cons]; omega
end M
/-- The box of a word that lies beside a builder. -/
theorem box_by {b g : Nat} {w w' : World} {x y : Value} (hbox : w.heap[g]? = some (.cells #[x, y] 23 (0, 0))) (hne : g ≠ b) (hk : Lib.OthersKept T8 (some b) w w') : w'.heap[g]? = some (.cells #[x, y] 23 (0, 0)) :=
 hk _ _ hbox (by simpa using hne) (by intro c fz e; injection e with e1 e2; exact absurd e2 (by decide))
theorem box_cells {g : Nat} {w : World} {x y : Value} {T : TypeId} (h : w.heap[g]? = some (.cells #[x, y] T (0, 0))) : w.cell? ⟨g, 0, none⟩ = some x ∧ w.cell? ⟨g, 1, none⟩ = some y := by
 refine ⟨?_, ?_⟩
 ·rw [cell_of_row w _ 0 _ T (0, 0) h]; rfl
 ·rw [cell_of_row w _ 1 _ T (0, 0) h]; rfl
def PrintAt (W wr : World) (ts : List M.Tok) (k : Nat) : Prop := Bld W.heap.size W.heap.size (M.print (ts.take k)) wr ∧ Ext W wr
set_option maxHeartbeats 4000000 in
set_option maxRecDepth 100000 in
theorem print_n {w : World} {v : Value} {ts : List M.Tok} (h : TList w v ts) (hlen : (M.print ts).length ≤ 1000000000) (htx : ∀ t ∈ ts, t.2.length ≤ 1000000000) : Calls Tryz.prog 197 #[v] w (GivesT w (M.print ts)) := by
 obtain ⟨A, n, c, rfl, hn, hnc, hcm, hA⟩ := h
 have HT := hid (show TList w (.slice A n c) ts from ⟨A, n, c, rfl, hn, hnc, hcm, hA⟩)
 have HN := hid hn
 have HX := hid htx
 have hc9 : c ≤ 9223372036854775807 := by unfold maxLen at hcm; omega
 clear hn hA htx
 go_enter Tryz.func197, Tryz.ntmps197
 go_wp2
 go_loopw [8] (fun i wr => ∃ (k : Nat), i = .int .i64 (k : Int) ∧ k ≤ n ∧ Hid (PrintAt w wr ts k)) (fun i _ => n - (intOf i).toNat)
 case atStart => exact ⟨0, rfl, Nat.zero_le _, Bld.new w, Ext.alloc _ _⟩
 case round =>
  obtain ⟨k, rfl, hk, hR⟩ := hrel
  rcases Nat.lt_or_ge k n with hlt | hge
  ·obtain ⟨ad, t, rfl, ht, c0, c1⟩ := TList.get (HT.out.up hR.out.2) (k := k) (by rw [← HN.out]; exact hlt)
   have hlt' : (k : Int) < (n : Int) := by omega
   have HK := hid ht
   have hw := M.word_len ht
   have hp := M.print_len ts k
   have hB := hid (show w.heap.size ≤ wr.heap.size from hR.out.2.size)
   have HP := hid (show ∀ w, Calls Tryz.prog 254 #[.agg #[.int .i64 t.1, str t.2]] w (GivesT w (M.word t)) from fun w => printed_n t (by have := HX.out t (List.mem_of_getElem? HK.out); omega) w)
   have hsz := hR.out.2.size
   clear ht
   have hsp := M.print_take HK.out
   rcases Nat.eq_zero_or_pos k with h0 | h0
   ·have hqa : decide (0 < (k : Int)) = false := by simp; omega
    have hqb : decide (0 < k) = false := by simp; omega
    have HS := hid (show M.print (ts.take (k + 1)) = M.print (ts.take k) ++ M.word t by rw [hsp, if_pos h0, h0]; rfl)
    clear hsp h0
    go_wp2_with fail
    refine (HP.out _).mono ?_
    rintro e w2 ⟨rfl, hb⟩
    have E2 := hid hb
    clear hb
    go_wp2_with fail
    refine (writeS_n ((hR.out.1.alloc _).up E2.out) (M.word t) (by omega) (by have := E2.out.size; simp at this; omega)).mono ?_
    rintro e w3 ⟨rfl, hbl, hbe, -⟩
    have HB := hid hbl
    have HE := hid (show Ext w w3 from Below.trans (B := w.heap.size) ((hR.out.2.alloc' _).trans E2.out) hbe)
    clear hbl hbe
    go_wp2
    go_roundw
    case rel => exact ⟨k + 1, by simp, by omega, by rw [HS.out]; exact HB.out, HE.out⟩
    case measure => simp [intOf]; omega
   ·have hqa : (0 < (k : Int)) := by omega
    have HS := hid (show M.print (ts.take (k + 1)) = M.print (ts.take k) ++ 32 :: M.word t by rw [hsp, if_neg (by omega)])
    clear hsp
    go_wp2_with fail
    refine (writeS_n (hR.out.1.alloc _) [32] (by simp; omega) (Nat.le_trans hB.out (by simp))).mono ?_
    rintro e w1 ⟨rfl, hbl1, hbe1, hk1⟩
    obtain ⟨d0, d1⟩ := box_cells (box_by (heap_alloc_new wr _) (by have := hR.out.1.lt; omega) hk1)
    have HB1 := hid hbl1
    have HE1 := hid (show Ext w w1 from Below.trans (B := w.heap.size) (hR.out.2.alloc' _) hbe1)
    clear hbl1 hbe1 hk1
    go_wp2_with fail
    refine (HP.out _).mono ?_
    rintro e w2 ⟨rfl, hb⟩
    have E2 := hid hb
    clear hb
    go_wp2_with fail
    refine (writeS_n (HB1.out.up E2.out) (M.word t) (by simp; omega) (by have := E2.out.size; have := HE1.out.size; omega)).mono ?_
    rintro e w3 ⟨rfl, hbl, hbe, -⟩
    have HB := hid hbl
    have HE := hid (show Ext w w3 from Below.trans (B := w.heap.size) (HE1.out.trans E2.out) hbe)
    clear hbl hbe
    go_wp2
    go_roundw
    case rel => exact ⟨k + 1, by simp, by omega, by rw [HS.out, show M.print (ts.take k) ++ 32 :: M.word t = M.print (ts.take k) ++ [32] ++ M.word t by simp]; exact HB.out, HE.out⟩
    case measure => simp [intOf]; omega
  ·obtain rfl : k = n := by omega
   have HE := hid (show M.print (ts.take k) = M.print ts by rw [HN.out, List.take_length])
   go_wp2_with fail
   refine (Tryz.Builder_String_any_k w.heap.size w.heap.size (M.print (ts.take k)) _ hR.out.1 hR.out.2.size).mono ?_
   rintro e w2 ⟨rfl, -, hb, -⟩
   have E := hid (Below.trans (B := w.heap.size) hR.out.2 hb)
   clear hb
   rw [HE.out]
   go_wp2
   go_ret
   exact ⟨rfl, E.out⟩
end Go.Proofs.YtgkofipifjfjhaaGreatDoor.Q

/-
  Contracts: slices.Equal over words; package lex's Same; the reference's Same.
-/
namespace Go.Proofs.YtgkofipifjfjhaaGreatDoor.Q
set_option linter.unusedSimpArgs false
set_option linter.unusedVariables false
open Go.RowKit

def SameAt (W wr : World) (ts us : List M.Tok) (k : Nat) : Prop := ts.take k = us.take k ∧ Ext W wr
theorem same_step {ts us : List M.Tok} {k : Nat} {t : M.Tok} (h : ts.take k = us.take k) (h1 : ts[k]? = some t) (h2 : us[k]? = some t) : ts.take (k + 1) = us.take (k + 1) := by
 rw [List.take_add_one, List.take_add_one, h, h1, h2]
theorem same_not {ts us : List M.Tok} {k : Nat} {t u : M.Tok} (h1 : ts[k]? = some t) (h2 : us[k]? = some u) (hne : t ≠ u) : decide (ts = us) = false := by
 rw [decide_eq_false_iff_not]
 rintro rfl
 rw [h1] at h2
 exact hne (Option.some.inj h2)
set_option maxHeartbeats 4000000 in
theorem equal_n {w : World} {A B : Option Addr} {n m c d : Nat} {ts us : List M.Tok} (h1 : TList w (.slice A n c) ts) (h2 : TList w (.slice B m d) us) : Calls Tryz.prog 256 #[.slice A n c, .slice B m d] w (GivesB w (decide (ts = us))) := by
 have hn : n = ts.length ∧ n ≤ c ∧ c ≤ maxLen := by obtain ⟨A', n', c', e, h, h', h'', _⟩ := h1; injection e with e1 e2 e3; subst e2 e3; exact ⟨h, h', h''⟩
 have hm : m = us.length ∧ m ≤ d ∧ d ≤ maxLen := by obtain ⟨A', n', c', e, h, h', h'', _⟩ := h2; injection e with e1 e2 e3; subst e2 e3; exact ⟨h, h', h''⟩
 have H1 := hid h1
 have H2 := hid h2
 have HN := hid hn.1
 have HM := hid hm.1
 have hc9 : n ≤ c ∧ c ≤ 9223372036854775807 := by unfold maxLen at hn; omega
 have hd9 : m ≤ d ∧ d ≤ 9223372036854775807 := by unfold maxLen at hm; omega
 obtain ⟨hc8, hc9⟩ := hc9
 obtain ⟨hd8, hd9⟩ := hd9
 clear hn hm h1 h2
 by_cases hnm : n = m
 ·subst hnm
  go_enter Tryz.func256, Tryz.ntmps256
  go_wp2
  go_loopw [13] (fun i wr => ∃ (k : Nat), i = .int .i64 (k : Int) ∧ k ≤ n ∧ Hid (SameAt w wr ts us k)) (fun i _ => n - (intOf i).toNat)
  case atStart => exact ⟨0, rfl, Nat.zero_le _, rfl, Ext.refl _⟩
  case round =>
   obtain ⟨k, rfl, hk, hR⟩ := hrel
   rcases Nat.lt_or_ge k n with hlt | hge
   ·obtain ⟨ad, t, rfl, ht, c0, c1⟩ := TList.get (H1.out.up hR.out.2) (k := k) (by rw [← HN.out]; exact hlt)
    obtain ⟨bd, u, rfl, hu, d0, d1⟩ := TList.get (H2.out.up hR.out.2) (k := k) (by rw [← HM.out]; exact hlt)
    have hlt' : (k : Int) < (n : Int) := by omega
    have HK := hid ht
    have HU := hid hu
    clear ht hu
    by_cases hne : t = u
    ·subst hne
     go_wp2
     go_region
     go_wp2
     go_roundw
     case rel => exact ⟨k + 1, by simp, by omega, same_step hR.out.1 HK.out HU.out, hR.out.2.drewN' 1⟩
     case measure => simp [intOf]; omega
    ·have HS := hid (same_not HK.out HU.out hne)
     obtain ⟨a, x⟩ := t
     obtain ⟨b, y⟩ := u
     by_cases hab : a = b
     ·subst hab
      have hxy : ¬ x = y := fun e => hne (by rw [e])
      clear hne
      go_wp2
      go_region
      go_wp2
      go_ret
      rw [HS.out]
      exact ⟨rfl, hR.out.2.drewN' 1⟩
     ·clear hne
      go_wp2
      go_region
      go_wp2
      go_ret
      rw [HS.out]
      exact ⟨rfl, hR.out.2.drewN' 1⟩
   ·obtain rfl : k = n := by omega
    have HS := hid (show decide (ts = us) = true by
     have := hR.out.1
     rw [HN.out, List.take_length, ← HN.out, HM.out, List.take_length] at this
     rw [this]; simp)
    go_wp2
    go_ret
    rw [HS.out]
    exact ⟨rfl, hR.out.2⟩
 ·have hq : ((n : Int) == (m : Int)) = false := by simp; omega
  have HS := hid (show decide (ts = us) = false by
   rw [decide_eq_false_iff_not]; rintro rfl; rw [← HN.out] at HM; exact hnm HM.out.symm)
  go_enter Tryz.func256, Tryz.ntmps256
  go_wp2
  go_ret
  rw [HS.out]
  exact ⟨rfl, Ext.refl _⟩
theorem same_n {w : World} {A B : Option Addr} {n m c d : Nat} {ts us : List M.Tok} (h1 : TList w (.slice A n c) ts) (h2 : TList w (.slice B m d) us) : Calls Tryz.prog 198 #[.slice A n c, .slice B m d] w (GivesB w (decide (ts = us))) := by
 have H := hid (equal_n h1 h2)
 clear h1 h2
 go_enter Tryz.func198, Tryz.ntmps198
 go_wp2_with fail
 refine H.out.mono ?_
 rintro e w' ⟨rfl, hb⟩
 have E := hid hb
 clear hb
 go_wp2
 go_ret
 exact ⟨rfl, E.out⟩
end Go.Proofs.YtgkofipifjfjhaaGreatDoor.Q

