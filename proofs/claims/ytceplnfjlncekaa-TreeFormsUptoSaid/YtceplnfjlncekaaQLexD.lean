/-
  Contract of package lex: Words.
-/
import Derived.Test.YtceplnfjlncekaaQLexC
namespace Go.Proofs.Ytceplnfjlncekaa
set_option linter.unusedSimpArgs false
set_option linter.unusedVariables false
open Go.RowKit

namespace M
/-- What the loop over the words keeps: all words up to k are ts. -/
def WordsAt (s : List UInt8) (ts : List Tok) (k : Nat) : Prop := scan s = (ts ++ (scan (s.drop k)).1, (scan (s.drop k)).2) ∧ k ≤ s.length ∧ ts.length ≤ k
def Gapped (s : List UInt8) (k : Nat) : Prop := skip (s.drop k) = s.drop k
theorem WordsAt.zero (s : List UInt8) : WordsAt s [] 0 := ⟨by simp, by simp, by simp⟩
theorem WordsAt.gap {s : List UInt8} {ts : List Tok} {k : Nat} (h : WordsAt s ts k) {u : List UInt8} (hu : s.drop k = u) : WordsAt s ts (k + (u.length - (skip u).length)) ∧ Gapped s (k + (u.length - (skip u).length)) := by
 have e : s.drop (k + (u.length - (skip u).length)) = skip u := by rw [← List.drop_drop, hu, ← skip_drop]
 obtain ⟨h1, h2, h3⟩ := h
 have hul : u.length = s.length - k := by rw [← hu, List.length_drop]
 refine ⟨⟨?_, by omega, by omega⟩, ?_⟩
 ·rw [e, scan_skip, ← hu]; exact h1
 ·unfold Gapped; rw [e]; exact skip_idem u
theorem WordsAt.tok {s : List UInt8} {ts : List Tok} {k f : Nat} {b : UInt8} {r : List UInt8} {t : Tok} (h : WordsAt s ts k) (hd : s.drop k = b :: r) (hs : skip (b :: r) = b :: r) (hf : first (b :: r) = some (t, f)) : WordsAt s (ts ++ [t]) (k + f) := by
 obtain ⟨h1, h2, h3⟩ := h
 have hl : r.length + 1 = s.length - k := by rw [← List.length_cons (a := b), ← hd, List.length_drop]
 have hfl := first_len hf
 simp at hfl
 refine ⟨?_, by omega, by simp; omega⟩
 rw [h1, hd, scan_tok hs hf, ← hd, List.drop_drop]
 simp
theorem WordsAt.done {s : List UInt8} {ts : List Tok} {k : Nat} (h : WordsAt s ts k) (hk : k = s.length) : scan s = (ts, none) := by
 obtain ⟨h1, _, _⟩ := h
 rw [h1, hk, List.drop_length, scan_nil skip_nil]
 simp
theorem WordsAt.bad {s : List UInt8} {ts : List Tok} {k : Nat} {b : UInt8} {r : List UInt8} (h : WordsAt s ts k) (hd : s.drop k = b :: r) (hs : skip (b :: r) = b :: r) (hf : first (b :: r) = none) : (scan s).2 = some (s.length - k) := by
 obtain ⟨h1, h2, _⟩ := h
 have hl : r.length + 1 = s.length - k := by rw [← List.length_cons (a := b), ← hd, List.length_drop]
 rw [h1, hd, scan_bad hs hf, hl]
theorem w_done {s : List UInt8} {ts : List Tok} (hl : s.length ≤ 4000) (h : scan s = (ts, none)) : wToks s = ts ∧ wAt s = s.length ∧ wErr s = 0 := by
 unfold wToks wAt wErr
 rw [if_neg (by omega), if_neg (by omega), if_neg (by omega), h]
 exact ⟨rfl, rfl, rfl⟩
theorem w_bad {s : List UInt8} {k : Nat} (hl : s.length ≤ 4000) (hk : k ≤ s.length) (h : (scan s).2 = some (s.length - k)) : wToks s = [] ∧ wAt s = k ∧ wErr s = 14 := by
 unfold wToks wAt wErr
 rw [if_neg (by omega), if_neg (by omega), if_neg (by omega), h]
 exact ⟨rfl, by simp; omega, rfl⟩
theorem w_large {s : List UInt8} (hl : 4000 < s.length) : wToks s = [] ∧ wAt s = 0 ∧ wErr s = 11 := by
 unfold wToks wAt wErr
 rw [if_pos hl, if_pos hl, if_pos hl]
 exact ⟨rfl, rfl, rfl⟩
def cells (ts : List Tok) : List Value := (ts.map fun t => [Value.int .i64 t.1, str t.2]).flatten
theorem cells_len (ts : List Tok) : (cells ts).length = ts.length * 2 := by
 unfold cells
 induction ts with
 | nil => rfl
 | cons t r ih => rw [List.map_cons, List.flatten_cons, List.length_append, ih, List.length_cons]; simp; omega
theorem cells_snoc (ts : List Tok) (t : Tok) : cells (ts ++ [t]) = cells ts ++ [Value.int .i64 t.1, str t.2] := by unfold cells; simp
theorem cells_at : ∀ {ts : List Tok} {k : Nat} {t : Tok}, ts[k]? = some t → (cells ts)[k * 2]? = some (.int .i64 t.1) ∧ (cells ts)[k * 2 + 1]? = some (str t.2)
 | [], _, _, h => by simp at h
 | x :: r, 0, t, h => by simp at h; subst h; exact ⟨rfl, rfl⟩
 | x :: r, k + 1, t, h => by
  have e : cells (x :: r) = Value.int .i64 x.1 :: str x.2 :: cells r := rfl
  have ih := cells_at (ts := r) (k := k) (t := t) (by simpa using h)
  rw [e, show (k + 1) * 2 = k * 2 + 2 by omega]
  exact ih
end M
/-- A list of words in memory. -/
def TList (w : World) (v : Value) (ts : List M.Tok) : Prop := ∃ A n c, v = .slice A n c ∧ n = ts.length ∧ n ≤ c ∧ c ≤ maxLen ∧
 (ts ≠ [] → ∃ ad, A = some ad ∧ ad.block < w.heap.size ∧ ∀ k t, ts[k]? = some t → w.cell? (ad.add (k * 2)) = some (.int .i64 t.1) ∧ w.cell? ((ad.add (k * 2)).add 1) = some (str t.2))
theorem TList.nil (w : World) : TList w (.slice none 0 0) [] := ⟨none, 0, 0, rfl, rfl, Nat.le_refl _, Nat.zero_le _, fun h => absurd rfl h⟩
theorem TList.up {w w' : World} {v : Value} {ts : List M.Tok} (h : TList w v ts) (e : Ext w w') : TList w' v ts := by
 obtain ⟨A, n, c, h1, h2, h3, h4, h5⟩ := h
 refine ⟨A, n, c, h1, h2, h3, h4, fun hne => ?_⟩
 obtain ⟨ad, ha, hb, hc⟩ := h5 hne
 exact ⟨ad, ha, Nat.lt_of_lt_of_le hb e.size, fun k t hk => ⟨e.cell (hc k t hk).1, e.cell (hc k t hk).2⟩⟩
theorem TList.shape {w : World} {v : Value} {ts : List M.Tok} (h : TList w v ts) : ∃ A c, v = .slice A ts.length c := by
 obtain ⟨A, n, c, h1, h2, _⟩ := h
 exact ⟨A, c, by rw [h1, h2]⟩
theorem TList.get {w : World} {A : Option Addr} {n c : Nat} {ts : List M.Tok} (h : TList w (.slice A n c) ts) {k : Nat} (hk : k < ts.length) :
 ∃ ad t, A = some ad ∧ ts[k]? = some t ∧ w.cell? (ad.add (k * 2)) = some (.int .i64 t.1) ∧ w.cell? ⟨(ad.add (k * 2)).block, (ad.add (k * 2)).off + 1, none⟩ = some (str t.2) := by
 obtain ⟨A', n', c', e, h2, h3, h4, h5⟩ := h
 injection e with e1 e2 e3
 obtain ⟨ad, ha, hb, hc⟩ := h5 (by intro e; subst e; simp at hk)
 have hk' := List.getElem?_eq_getElem hk
 obtain ⟨c0, c1⟩ := hc k _ hk'
 exact ⟨ad, _, by rw [e1, ha], hk', c0, c1⟩
/-- A list of words of the call's own. -/
def OwnT (base : Nat) (w : World) (v : Value) (ts : List M.Tok) : Prop := w.ownsRow base 33 2 v ts.length (M.cells ts)
theorem OwnT.nil (base : Nat) (w : World) : OwnT base w (.slice none 0 0) [] := World.ownsRow_nil w base _ 2
theorem OwnT.alloc {base : Nat} {w : World} {v : Value} {ts : List M.Tok} (h : OwnT base w v ts) (o : Obj) : OwnT base (w.alloc o) v ts := World.ownsRow.alloc h o
theorem OwnT.up {base : Nat} {w w' : World} {v : Value} {ts : List M.Tok} (h : OwnT base w v ts) (hb : Ext w w') : OwnT base w' v ts :=
 World.ownsRow.kept h (row := none) ⟨hb.os, hb.tape, hb.output, hb.size, fun k hk _ => hb.block k hk⟩ (by cases v.ownBlock <;> simp)
theorem OwnT.list {base : Nat} {w : World} {v : Value} {ts : List M.Tok} (h : OwnT base w v ts) : TList w v ts := by
 have hh := h
 obtain ⟨hl, h2⟩ := h
 rcases h2 with ⟨rfl, h0⟩ | ⟨g, cap, cur, rfl, hb, hg, hc, hm, _, _⟩
 ·obtain rfl : ts = [] := List.eq_nil_of_length_eq_zero h0
  exact TList.nil _
 ·refine ⟨_, _, _, rfl, rfl, hc, hm, fun hn => ⟨_, rfl, (Array.getElem?_eq_some_iff.1 hg).1, fun k t hk => ?_⟩⟩
  have hc := M.cells_at hk
  refine ⟨World.ownsRow.cells hh (g := g) rfl _ _ hc.1, ?_⟩
  rw [Addr.add_add]
  exact World.ownsRow.cells hh (g := g) rfl _ _ hc.2
theorem info_Token : (Try.prog.info? 33).map (fun i => (i.zero, i.size, i.bytes)) = some (some (.agg #[.int .i64 0, .string ⟨#[]⟩]), 2, 24) := by kernel_rfl
theorem wpList_appT {w : World} {ops : Array Oper} {rest : List Oper} {o : Oper} {a : Act} {Q : Exit → Act → World → Prop} (hgd : o.guard = none) (s x : Operand)
 (ho : o.op = .call { callee := .builtin .append, args := #[s, x], argTypes := #[22, 22] })
 (base : Nat) (v : Value) (ts : List M.Tok) (hs : a.eval s = v) (hown : OwnT base w v ts) (g : Nat) (t : M.Tok) (hx : a.eval x = .slice (some ⟨g, 0, none⟩) 1 1)
 (hc0 : w.cell? ⟨g, 0, none⟩ = some (.int .i64 t.1)) (hc1 : w.cell? ⟨g, 1, none⟩ = some (str t.2)) (hlen : ts.length + 1 ≤ 1000000000) (hbase : base ≤ w.heap.size)
 (h : ∀ v' w', OwnT base w' v' (ts ++ [t]) → Below base w w' → wpList Try.prog ops Q rest (a.put o.dst v') w') : wpList Try.prog ops Q (o :: rest) a w := by
 obtain ⟨i0, hi, hz0, hz1, hz2⟩ := info_parts info_Token
 refine wpList_append_own w hgd s x 22 ho base 33 i0 _ 2 24 Try.underlying22 hi hz0 hz1 hz2 rfl (by decide) v ts.length _ hs hown ⟨g, 0, none⟩ 1 1 [.int .i64 t.1, str t.2] hx rfl ?_ ?_ (by unfold maxLen; omega) (by omega) hbase ?_
 ·intro j u hj
  rcases j with _ | _ | j
  ·simp at hj; subst hj; rw [Addr.add_lit]; exact hc0
  ·simp at hj; subst hj; rw [Addr.add_lit]; exact hc1
  ·simp at hj
 ·intro u hu; simp at hu; rcases hu with rfl | rfl <;> rfl
 ·intro v' w' h1 h2 _
  refine h v' w' ?_ ((Below.refl _ _).grown h2 hbase fun k hk => (World.ownsRow.lt hown k hk).1)
  unfold OwnT
  rw [List.length_append, M.cells_snoc]
  exact h1
def GivesW (w : World) (ts : List M.Tok) (k : Nat) (z : Int) (e : Ending) (w' : World) : Prop := ∃ v, e = .returned (.tuple #[v, .int .i64 (k : Int), .int .i64 z]) ∧ TList w' v ts ∧ Ext w w'
def RoundW (s : List UInt8) (W : World) (o : Value) (ts : List M.Tok) (k : Nat) (wr : World) : Prop := M.WordsAt s ts k ∧ M.Gapped s k ∧ OwnT W.heap.size wr o ts ∧ Ext W wr
set_option maxHeartbeats 4000000 in
theorem words_n (s : List UInt8) (hs : s.length ≤ 1000000000000) (w : World) : Calls Try.prog 45 #[str s] w (GivesW w (M.wToks s) (M.wAt s) (M.wErr s)) := by
 rcases Nat.lt_or_ge 4000 s.length with hl | hl
 ·obtain ⟨h1, h2, h3⟩ := M.w_large hl
  rw [h1, h2, h3]
  have hq : (4000 < (s.length : Int)) := by omega
  clear h1 h2 h3
  go_enter Try.func45, Try.ntmps45
  go_wp2
  go_ret3
  exact ⟨.slice none 0 0, rfl, TList.nil _, Ext.refl _⟩
 ·have hq : ((s.length : Int) ≤ 4000) := by omega
  have W0 := (M.WordsAt.zero s).gap (u := s) rfl
  obtain ⟨k0, hk0⟩ : ∃ k0, s.length - (M.skip s).length = k0 := ⟨_, rfl⟩
  rw [hk0, Nat.zero_add] at W0
  have H0 := hid (show ∀ w, Calls Try.prog 49 #[str s] w (GivesI w (k0 : Int)) from fun w => hk0 ▸ gap_n s (by omega) w)
  have HW0 := hid W0
  clear W0 hk0
  go_enter Try.func45, Try.ntmps45
  go_wp2_with fail
  refine (H0.out _).mono ?_
  rintro e w1 ⟨rfl, hb⟩
  have E1 := hid hb
  clear hb
  go_upto_region 5 with (fail)
  go_loopw [5, 6] (fun o i wr => ∃ (ts : List M.Tok) (k : Nat), i = .int .i64 (k : Int) ∧ k ≤ s.length ∧ Hid (RoundW s w o ts k wr)) (fun _ i _ => s.length - (intOf i).toNat)
  case atStart => exact ⟨[], k0, rfl, HW0.out.1.2.1, HW0.out.1, HW0.out.2, OwnT.nil _ _, E1.out⟩
  case round =>
   obtain ⟨ts, k, rfl, hk, hR⟩ := hrel
   rcases Nat.lt_or_ge k s.length with hlt | hge
   ·rcases hd : s.drop k with _ | ⟨b, r⟩
    ·exfalso; have := congrArg List.length hd; simp at this; omega
    ·have hdl : r.length + 1 = s.length - k := by rw [← List.length_cons (a := b), ← hd, List.length_drop]
     have hx : (⟨s.toArray⟩ : ByteArray).extract k s.length = ⟨(b :: r).toArray⟩ := by rw [ext_drop, hd]
     have hsk := hR.out.2.1
     unfold M.Gapped at hsk
     rw [hd] at hsk
     obtain ⟨t, ht⟩ : ∃ t, M.firstT (b :: r) = t := ⟨_, rfl⟩
     obtain ⟨f, hf⟩ : ∃ f, M.firstN (b :: r) = f := ⟨_, rfl⟩
     have HF := hid (show ∀ w, Calls Try.prog 50 #[str (b :: r)] w (GivesFirst w t f) from fun w => ht ▸ hf ▸ first_n (by simp; omega) w)
     rcases Nat.eq_zero_or_pos f with h0 | hpos
     ·subst h0
      have HB := hid (M.w_bad hl hk (hR.out.1.bad hd hsk (M.first_none hf)))
      clear hd hdl hsk ht hf
      go_wp2_with (go_at_call 50; refine (HF.out _).mono ?_; rintro e w2 ⟨rfl, hb⟩; have E2 := hid hb; clear hb; simp only [tok])
      go_ret3
      rw [HB.out.1, HB.out.2.1, HB.out.2.2]
      exact ⟨.slice none 0 0, rfl, TList.nil _, (hR.out.2.2.2.trans E2.out).alloc' _⟩
     ·have hfs := M.first_some (l := b :: r) (by omega)
      rw [ht, hf] at hfs
      have hfl := M.first_len hfs
      simp at hfl
      have W1 := hR.out.1.tok hd hsk hfs
      obtain ⟨p, hp⟩ : ∃ p, k + f = p := ⟨_, rfl⟩
      rw [hp] at W1
      have hpl : p ≤ s.length := by omega
      have hpi : (k : Int) + (f : Int) = (p : Int) := by omega
      obtain ⟨u, hu⟩ : ∃ u, s.drop p = u := ⟨_, rfl⟩
      have hul : u.length ≤ 4000 := by rw [← hu, List.length_drop]; omega
      have hx2 : (⟨s.toArray⟩ : ByteArray).extract p s.length = ⟨u.toArray⟩ := by rw [ext_drop, hu]
      obtain ⟨d, hdd⟩ : ∃ d, u.length - (M.skip u).length = d := ⟨_, rfl⟩
      have W2 := W1.gap hu
      rw [hdd] at W2
      obtain ⟨k', hk'⟩ : ∃ k', p + d = k' := ⟨_, rfl⟩
      rw [hk'] at W2
      have hki : (p : Int) + (d : Int) = (k' : Int) := by omega
      have HG := hid (show ∀ w, Calls Try.prog 49 #[str u] w (GivesI w (d : Int)) from fun w => hdd ▸ gap_n u (by omega) w)
      have hz : ((f : Int) == 0) = false := by simp; omega
      have HW := hid W2
      have hkk : k < k' := by omega
      have htl : ts.length ≤ 4000 := Nat.le_trans hR.out.1.2.2 (by omega)
      have hk'l : k' ≤ s.length := HW.out.1.2.1
      clear hd hdl hsk ht hf hfs hfl W1 hp hu hdd W2 hk' hpos
      go_wp2_with (first | (go_at_call 50; refine (HF.out _).mono ?_; rintro e w2 ⟨rfl, hb⟩; have E2 := hid hb; clear hb; simp only [tok]) | (at_builtin; refine wpList_appT rfl (.tmp 34) (.tmp 36) rfl w.heap.size _ ts rfl (((hR.out.2.2.1.up E2.out).alloc _).alloc _) _ t rfl ?c0 ?c1 ?c2 ?c3 ?_))
      case c0 => simp
      case c1 => simp
      case c2 => omega
      case c3 => have h1 := hR.out.2.2.2.size; have h2 := E2.out.size; simp; omega
      intro v' w3 hown hbel
      have HO := hid hown
      have HE := hid (show Ext w w3 from Below.trans (B := w.heap.size) (((hR.out.2.2.2.trans E2.out).alloc' _).alloc' _) hbel)
      clear hown hbel
      go_wp2_with (go_at_call 49; refine (HG.out _).mono ?_; rintro e w4 ⟨rfl, hb⟩; have E4 := hid hb; clear hb)
      go_roundw
      case rel => exact ⟨ts ++ [t], k', rfl, hk'l, HW.out.1, HW.out.2, HO.out.up E4.out, HE.out.trans E4.out⟩
      case measure => simp [intOf]; omega
   ·obtain rfl : k = s.length := by omega
    have HD := hid (M.w_done hl (hR.out.1.done rfl))
    go_wp2
    go_ret3
    rw [HD.out.1, HD.out.2.1, HD.out.2.2]
    exact ⟨_, rfl, hR.out.2.2.1.list, hR.out.2.2.2⟩
end Go.Proofs.Ytceplnfjlncekaa
