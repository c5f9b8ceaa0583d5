/-
  Contracts of package lex: the word with which a text begins.
-/
import Derived.Test.YtceplnfjlncekaaQLexB
namespace Go.Proofs.Ytceplnfjlncekaa
set_option linter.unusedSimpArgs false
set_option linter.unusedVariables false
open Go.RowKit

namespace M
def firstT (l : List UInt8) : Tok := match first l with | some (t, _) => t | none => (0, [])
def firstN (l : List UInt8) : Nat := match first l with | some (_, k) => k | none => 0
theorem first_some {l : List UInt8} (h : firstN l ≠ 0) : first l = some (firstT l, firstN l) := by
 unfold firstN firstT at *
 rcases hf : first l with _ | ⟨t, k⟩
 ·rw [hf] at h; simp at h
 ·rfl
theorem first_none {l : List UInt8} (h : firstN l = 0) : first l = none := by
 rcases hf : first l with _ | ⟨t, k⟩
 ·rfl
 ·have := (first_len hf).1
  unfold firstN at h; rw [hf] at h; simp at h; omega
end M
def GivesFirst (w : World) (t : M.Tok) (k : Nat) (e : Ending) (w' : World) : Prop := e = .returned (.tuple #[tok t, .int .i64 (k : Int)]) ∧ Ext w w'
theorem box2 {w wN : World} {x y : Value} {T : TypeId} (h : Ext (w.alloc (.cells #[x, y] T)) wN) :
 wN.cell? ⟨w.heap.size, 0, none⟩ = some x ∧ wN.cell? ⟨w.heap.size, 1, none⟩ = some y ∧ wN.frozen? ⟨w.heap.size, 0, none⟩ = false ∧ wN.frozen? ⟨w.heap.size, 1, none⟩ = false ∧ w.heap.size < wN.heap.size := by
 have h1 : (w.alloc (.cells #[x, y] T)).heap[w.heap.size]? = some (.cells #[x, y] T (0, 0)) := heap_alloc_new w _
 have h2 : wN.heap[w.heap.size]? = some (.cells #[x, y] T (0, 0)) := (h.block _ (by simp)).trans h1
 refine ⟨?_, ?_, ?_, ?_, (Array.getElem?_eq_some_iff.1 h2).1⟩
 ·rw [cell_of_row wN _ 0 _ T (0, 0) h2]; rfl
 ·rw [cell_of_row wN _ 1 _ T (0, 0) h2]; rfl
 ·simp [World.frozen?, h2]
 ·simp [World.frozen?, h2]
theorem cutP_n (l : List UInt8) (w : World) {u : List UInt8} {q : Bool} (hu : Lib.trimPrefix l [58] = u) (hq : Lib.hasPrefix l [58] = q) : Calls Try.prog 62 #[str l, .string ⟨#[58]⟩] w fun e w' => e = .returned (.tuple #[str u, .bool q]) ∧ w = w' := by
 subst hu hq
 exact (Try.strings_CutPrefix ⟨l.toArray⟩ ⟨#[58]⟩ w).mono fun e w' ⟨h1, h2⟩ => ⟨h1, h2.symm⟩
theorem ext_head (b : UInt8) (r : List UInt8) : (⟨(b :: r).toArray⟩ : ByteArray).extract 0 1 = ⟨#[b]⟩ := by rw [ext_str]; rfl
theorem takeWhile_take (p : UInt8 → Bool) (l : List UInt8) : l.takeWhile p = l.take (l.takeWhile p).length := by
 induction l with
 | nil => rfl
 | cons b r ih =>
  rw [List.takeWhile_cons]
  split
  ·rw [List.length_cons, List.take_succ_cons, ← ih]
  ·rfl

set_option maxHeartbeats 1000000 in
theorem first_par (b : UInt8) (r : List UInt8) (w : World) (hb : b = 40 ∨ b = 41) : Calls Try.prog 50 #[str (b :: r)] w (GivesFirst w (M.firstT (b :: r)) (M.firstN (b :: r))) := by
 have hx := ext_head b r
 rcases hb with rfl | rfl
 ·go_enter Try.func50, Try.ntmps50
  go_wp2
  refine bodyPost_ret (v := .tuple #[.agg #[.int .i64 1, str []], .int .i64 1]) (by simp [results, Try.results50, go_sem]) rfl ⟨rfl, ?_⟩
  exact Ext.alloc _ _
 ·go_enter Try.func50, Try.ntmps50
  go_wp2
  refine bodyPost_ret (v := .tuple #[.agg #[.int .i64 2, str []], .int .i64 1]) (by simp [results, Try.results50, go_sem]) rfl ⟨rfl, ?_⟩
  exact Ext.alloc _ _

set_option maxHeartbeats 2000000 in
theorem first_key (r : List UInt8) (hr : r.length ≤ 1000000000) (w : World) : Calls Try.prog 50 #[str (58 :: r)] w (GivesFirst w (M.firstT (58 :: r)) (M.firstN (58 :: r))) := by
 have hx := ext_head 58 r
 obtain ⟨m, hm⟩ : ∃ m, (r.takeWhile M.sym).length = m := ⟨_, rfl⟩
 obtain ⟨u, hu⟩ : ∃ u, r.takeWhile M.sym = u := ⟨_, rfl⟩
 have hmr : m ≤ r.length := by rw [← hm]; exact M.takeWhile_len _ _
 have hum : u.length = m := by rw [← hu, hm]
 have hx2 : (⟨r.toArray⟩ : ByteArray).extract 0 m = ⟨u.toArray⟩ := by rw [ext_str, List.drop_zero, Nat.sub_zero, ← hm, ← takeWhile_take, hu]
 have HM := hid hm
 have hu9 : u.length ≤ 1000000000 := by omega
 have hul : (u.length : Int) = (m : Int) := by rw [hum]
 have H0 := hid (fun w => cutP_n (58 :: r) w (u := r) (q := true) (by simp [Lib.trimPrefix, Lib.hasPrefix]) (by simp [Lib.hasPrefix]))
 have H1 := hid (fun w => symbolic_n r (by omega) HM.out w)
 have H3 := hid (fun w => token_n 5 u (by omega) w)
 rcases hq : M.isSym u with _ | _
 ·have H2 := hid (fun w => symbol_n u (by omega) w)
  rw [hq] at H2
  have hn := hid (show M.firstT (58 :: r) = (0, []) ∧ M.firstN (58 :: r) = 0 by unfold M.firstT M.firstN; simp [M.first, hu, hq])
  clear hm hu hq hum
  go_enter Try.func50, Try.ntmps50
  go_wp2_with fail
  refine (H0.out _).mono ?_
  rintro e w' ⟨rfl, rfl⟩
  have E := hid (Ext.refl (w.alloc (.cells #[.int .i64 0, .string ⟨#[]⟩] 33)))
  go_wp2_with (first | (go_at_call 63; refine (H1.out _).mono ?_; rintro e w2 ⟨rfl, hb⟩; replace E := hid (E.out.trans hb); clear hb; obtain ⟨c0, c1, f0, f1, hz⟩ := box2 E.out) | (go_at_call 64; refine (H2.out _).mono ?_; rintro e w3 ⟨rfl, hb⟩; replace E := hid (E.out.trans hb); clear hb; obtain ⟨c0, c1, f0, f1, hz⟩ := box2 E.out))
  rw [hn.out.1, hn.out.2]
  refine bodyPost_ret (v := .tuple #[.agg #[.int .i64 0, str []], .int .i64 0]) (by simp [results, Try.results50, go_sem, c0, c1, hz]) rfl ⟨rfl, ?_⟩
  exact (((Ext.alloc w _).trans E.out).set' (Nat.le_refl _) _).set' (Nat.le_refl _) _
 ·have H2 := hid (fun w => symbol_n u (by omega) w)
  rw [hq] at H2
  have hn := hid (show M.firstT (58 :: r) = (5, u) ∧ M.firstN (58 :: r) = 1 + m by unfold M.firstT M.firstN; simp [M.first, hu, hq, hum])
  clear hm hu hq hum
  go_enter Try.func50, Try.ntmps50
  go_wp2_with fail
  refine (H0.out _).mono ?_
  rintro e w' ⟨rfl, rfl⟩
  have E := hid (Ext.refl (w.alloc (.cells #[.int .i64 0, .string ⟨#[]⟩] 33)))
  go_wp2_with (first | (go_at_call 63; refine (H1.out _).mono ?_; rintro e w2 ⟨rfl, hb⟩; replace E := hid (E.out.trans hb); clear hb; obtain ⟨c0, c1, f0, f1, hz⟩ := box2 E.out) | (go_at_call 64; refine (H2.out _).mono ?_; rintro e w3 ⟨rfl, hb⟩; replace E := hid (E.out.trans hb); clear hb; obtain ⟨c0, c1, f0, f1, hz⟩ := box2 E.out) | (go_at_call 65; refine (H3.out _).mono ?_; rintro e w4 ⟨rfl, hb⟩; replace E := hid (E.out.trans hb); clear hb; obtain ⟨c0, c1, f0, f1, hz⟩ := box2 E.out; simp only [tok]))
  rw [hn.out.1, hn.out.2]
  refine bodyPost_ret (v := .tuple #[.agg #[.int .i64 5, str u], .int .i64 ((1 + m : Nat) : Int)]) (by simp [results, Try.results50, go_sem, c0, c1, hz]) rfl ⟨rfl, ?_⟩
  exact (((Ext.alloc w _).trans E.out).set' (Nat.le_refl _) _).set' (Nat.le_refl _) _

set_option maxHeartbeats 4000000 in
theorem first_other (b : UInt8) (r : List UInt8) (hb1 : b ≠ 40) (hb2 : b ≠ 41) (hb3 : b ≠ 58) (hr : (b :: r).length ≤ 1000000000) (w : World) : Calls Try.prog 50 #[str (b :: r)] w (GivesFirst w (M.firstT (b :: r)) (M.firstN (b :: r))) := by
 have hx := ext_head b r
 have q1 : (b == 40) = false := by simpa using hb1
 have q2 : (b == 41) = false := by simpa using hb2
 obtain ⟨l, hl⟩ : ∃ l, l = b :: r := ⟨_, rfl⟩
 obtain ⟨m, hm⟩ : ∃ m, (l.takeWhile M.sym).length = m := ⟨_, rfl⟩
 obtain ⟨u, hu⟩ : ∃ u, l.takeWhile M.sym = u := ⟨_, rfl⟩
 have hmr : m ≤ l.length := by rw [← hm]; exact M.takeWhile_len _ _
 have hl9 : l.length ≤ 1000000000 := by rw [hl]; exact hr
 have hum : u.length = m := by rw [← hu, hm]
 have hx2 : (⟨l.toArray⟩ : ByteArray).extract 0 m = ⟨u.toArray⟩ := by rw [ext_str, List.drop_zero, Nat.sub_zero, ← hm, ← takeWhile_take, hu]
 have HM := hid hm
 have hu9 : u.length ≤ 1000000000 := by omega
 have hul : (u.length : Int) = (m : Int) := by rw [hum]
 have hp : [58].isPrefixOf (b :: r) = false := by
  rw [Bool.eq_false_iff]; intro h; obtain ⟨v, hv⟩ := List.isPrefixOf_iff_prefix.1 h; simp at hv; exact hb3 hv.1.symm
 have H0 := hid (fun w => cutP_n (b :: r) w (u := l) (q := false) (by simp only [Lib.trimPrefix, Lib.hasPrefix, hp]; rw [hl]; rfl) (by simp only [Lib.hasPrefix, hp]))
 have H1 := hid (fun w => symbolic_n l (by omega) HM.out w)
 have H3 := hid (fun w => token_n 4 u (by omega) w)
 have H4 := hid (fun w => numeral_n u (by omega) w)
 have H5 := hid (fun w => token_n 3 u (by omega) w)
 have H2 := hid (fun w => symbol_n u (by omega) w)
 have hu2 : (b :: r).takeWhile M.sym = u := by rw [← hl]; exact hu
 have hf : M.first (b :: r) = if M.isSym u = true then some ((4, u), m) else if M.isNum u = true then some ((3, u), m) else none := by
  rw [M.first, if_neg hb1, if_neg hb2, if_neg hb3, hu2, hum]
 have HF := hid hf
 clear hm hu hum hu2 hp hf hb1 hb2 hb3 hl hr
 rcases hq : M.isSym u with _ | _
 ·rw [hq] at H2
  rcases hq4 : M.isNum u with _ | _
  ·rw [hq4] at H4
   have hn := hid (show M.firstT (b :: r) = (0, []) ∧ M.firstN (b :: r) = 0 by unfold M.firstT M.firstN; rw [HF.out, hq, hq4]; exact ⟨rfl, rfl⟩)
   clear hq hq4
   go_enter Try.func50, Try.ntmps50
   go_wp2_with fail
   refine (H0.out _).mono ?_
   rintro e w' ⟨rfl, rfl⟩
   have E := hid (Ext.refl (w.alloc (.cells #[.int .i64 0, .string ⟨#[]⟩] 33)))
   go_wp2_with (first | (go_at_call 63; refine (H1.out _).mono ?_; rintro e w2 ⟨rfl, hb⟩; replace E := hid (E.out.trans hb); clear hb; obtain ⟨c0, c1, f0, f1, hz⟩ := box2 E.out) | (go_at_call 64; refine (H2.out _).mono ?_; rintro e w3 ⟨rfl, hb⟩; replace E := hid (E.out.trans hb); clear hb; obtain ⟨c0, c1, f0, f1, hz⟩ := box2 E.out) | (go_at_call 66; refine (H4.out _).mono ?_; rintro e w3 ⟨rfl, hb⟩; replace E := hid (E.out.trans hb); clear hb; obtain ⟨c0, c1, f0, f1, hz⟩ := box2 E.out))
   rw [hn.out.1, hn.out.2]
   refine bodyPost_ret (v := .tuple #[.agg #[.int .i64 0, str []], .int .i64 0]) (by simp [results, Try.results50, go_sem, c0, c1, hz]) rfl ⟨rfl, ?_⟩
   exact (((Ext.alloc w _).trans E.out).set' (Nat.le_refl _) _).set' (Nat.le_refl _) _
  ·rw [hq4] at H4
   have hn := hid (show M.firstT (b :: r) = (3, u) ∧ M.firstN (b :: r) = m by unfold M.firstT M.firstN; rw [HF.out, hq, hq4]; exact ⟨rfl, rfl⟩)
   clear hq hq4
   go_enter Try.func50, Try.ntmps50
   go_wp2_with fail
   refine (H0.out _).mono ?_
   rintro e w' ⟨rfl, rfl⟩
   have E := hid (Ext.refl (w.alloc (.cells #[.int .i64 0, .string ⟨#[]⟩] 33)))
   go_wp2_with (first | (go_at_call 63; refine (H1.out _).mono ?_; rintro e w2 ⟨rfl, hb⟩; replace E := hid (E.out.trans hb); clear hb; obtain ⟨c0, c1, f0, f1, hz⟩ := box2 E.out) | (go_at_call 64; refine (H2.out _).mono ?_; rintro e w3 ⟨rfl, hb⟩; replace E := hid (E.out.trans hb); clear hb; obtain ⟨c0, c1, f0, f1, hz⟩ := box2 E.out) | (go_at_call 66; refine (H4.out _).mono ?_; rintro e w3 ⟨rfl, hb⟩; replace E := hid (E.out.trans hb); clear hb; obtain ⟨c0, c1, f0, f1, hz⟩ := box2 E.out) | (go_at_call 65; refine (H5.out _).mono ?_; rintro e w4 ⟨rfl, hb⟩; replace E := hid (E.out.trans hb); clear hb; obtain ⟨c0, c1, f0, f1, hz⟩ := box2 E.out; simp only [tok]))
   rw [hn.out.1, hn.out.2]
   refine bodyPost_ret (v := .tuple #[.agg #[.int .i64 3, str u], .int .i64 (m : Int)]) (by simp [results, Try.results50, go_sem, c0, c1, hz]) rfl ⟨rfl, ?_⟩
   exact (((Ext.alloc w _).trans E.out).set' (Nat.le_refl _) _).set' (Nat.le_refl _) _
 ·rw [hq] at H2
  have hn := hid (show M.firstT (b :: r) = (4, u) ∧ M.firstN (b :: r) = m by unfold M.firstT M.firstN; rw [HF.out, hq]; exact ⟨rfl, rfl⟩)
  clear hq
  go_enter Try.func50, Try.ntmps50
  go_wp2_with fail
  refine (H0.out _).mono ?_
  rintro e w' ⟨rfl, rfl⟩
  have E := hid (Ext.refl (w.alloc (.cells #[.int .i64 0, .string ⟨#[]⟩] 33)))
  go_wp2_with (first | (go_at_call 63; refine (H1.out _).mono ?_; rintro e w2 ⟨rfl, hb⟩; replace E := hid (E.out.trans hb); clear hb; obtain ⟨c0, c1, f0, f1, hz⟩ := box2 E.out) | (go_at_call 64; refine (H2.out _).mono ?_; rintro e w3 ⟨rfl, hb⟩; replace E := hid (E.out.trans hb); clear hb; obtain ⟨c0, c1, f0, f1, hz⟩ := box2 E.out) | (go_at_call 65; refine (H3.out _).mono ?_; rintro e w4 ⟨rfl, hb⟩; replace E := hid (E.out.trans hb); clear hb; obtain ⟨c0, c1, f0, f1, hz⟩ := box2 E.out; simp only [tok]))
  rw [hn.out.1, hn.out.2]
  refine bodyPost_ret (v := .tuple #[.agg #[.int .i64 4, str u], .int .i64 (m : Int)]) (by simp [results, Try.results50, go_sem, c0, c1, hz]) rfl ⟨rfl, ?_⟩
  exact (((Ext.alloc w _).trans E.out).set' (Nat.le_refl _) _).set' (Nat.le_refl _) _
theorem first_n {b : UInt8} {r : List UInt8} (hr : (b :: r).length ≤ 1000000000) (w : World) : Calls Try.prog 50 #[str (b :: r)] w (GivesFirst w (M.firstT (b :: r)) (M.firstN (b :: r))) := by
 by_cases h1 : b = 40
 ·exact first_par b r w (.inl h1)
 ·by_cases h2 : b = 41
  ·exact first_par b r w (.inr h2)
  ·by_cases h3 : b = 58
   ·subst h3
    exact first_key r (by simp at hr; omega) w
   ·exact first_other b r h1 h2 h3 hr w
end Go.Proofs.Ytceplnfjlncekaa
