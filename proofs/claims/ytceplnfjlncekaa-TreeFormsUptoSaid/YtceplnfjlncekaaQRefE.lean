/-
  Contracts of the reference: one, Words.
-/
import Derived.Test.YtceplnfjlncekaaQRefD
namespace Go.Proofs.Ytceplnfjlncekaa
set_option linter.unusedSimpArgs false
set_option linter.unusedVariables false
open Go.RowKit

theorem one_n (s : List UInt8) (a : Nat) (b : UInt8) (r : List UInt8) (hd : s.drop a = b :: r) (hs : s.length ≤ 1000000) (w : World) : Calls Try.prog 48 #[str s, .int .i64 (a : Int)] w (GivesOne w (b :: r) a) := by
 by_cases h1 : b = 40
 ·exact one_paren s a b r hd hs w (.inl h1)
 by_cases h2 : b = 41
 ·exact one_paren s a b r hd hs w (.inr h2)
 by_cases h3 : b = 58
 ·subst h3
  exact one_colon s a r hd hs w
 have hrl : r.length + 1 = s.length - a := by rw [← List.length_cons (a := b), ← hd, List.length_drop]
 rcases h0 : M.dig b with _ | _
 ·rcases h4 : M.sym b with _ | _
  ·exact one_none s a b r hd hs w h1 h2 h3 h0 h4
  ·exact one_word s a b r hd hs w h1 h2 h3 h0 h4
 ·obtain ⟨u', hu⟩ : ∃ u', (b :: r).takeWhile M.dig = b :: u' := ⟨_, by rw [List.takeWhile_cons, if_pos h0]⟩
  have hul : (b :: u').length ≤ (b :: r).length := by rw [← hu]; exact M.takeWhile_len _ _
  by_cases h48 : b = 48
  ·rcases u' with _ | ⟨c3, u'⟩
   ·subst h48
    rcases Nat.lt_or_ge [(48 : UInt8)].length ((48 : UInt8) :: r).length with hlt | hge
    ·have hc := List.getElem?_eq_getElem hlt
     rcases hsc : M.sym ((48 :: r)[[(48 : UInt8)].length]) with _ | _
     ·exact one_digBN s a 48 r hd hs w h0 rfl hu _ hc hsc
     ·exact one_digBS s a 48 r hd hs w h0 rfl hu _ hc hsc
    ·exact one_digBE s a 48 r hd hs w h0 rfl hu (by simp only [List.length_cons, List.length_nil] at hge hul ⊢; omega)
   ·subst h48
    rcases Nat.lt_or_ge (48 :: c3 :: u').length ((48 : UInt8) :: r).length with hlt | hge
    ·have hc := List.getElem?_eq_getElem hlt
     rcases hsc : M.sym ((48 :: r)[(48 :: c3 :: u').length]) with _ | _
     ·exact one_digCN s a 48 r hd hs w h0 c3 u' rfl hu _ hc hsc
     ·exact one_digCS s a 48 r hd hs w h0 c3 u' rfl hu _ hc hsc
    ·exact one_digCE s a 48 r hd hs w h0 c3 u' rfl hu (by simp only [List.length_cons, List.length_nil] at hge hul ⊢; omega)
  ·rcases Nat.lt_or_ge (b :: u').length (b :: r).length with hlt | hge
   ·have hc := List.getElem?_eq_getElem hlt
    rcases hsc : M.sym ((b :: r)[(b :: u').length]) with _ | _
    ·exact one_digAN s a b r hd hs w h0 u' hu h48 _ hc hsc
    ·exact one_digAS s a b r hd hs w h0 u' hu h48 _ hc hsc
   ·exact one_digAE s a b r hd hs w h0 u' hu h48 (by simp only [List.length_cons, List.length_nil] at hge hul ⊢; omega)
namespace M
theorem WordsAt.same {s : List UInt8} {ts : List Tok} {k k' : Nat} (h : WordsAt s ts k) (hk : k ≤ k') (hl : k' ≤ s.length) (hs : skip (s.drop k) = skip (s.drop k')) : WordsAt s ts k' := by
 obtain ⟨h1, h2, h3⟩ := h
 rw [scan_of_skip hs] at h1
 exact ⟨h1, hl, by omega⟩
theorem drop_at {s r : List UInt8} {k : Nat} {b : UInt8} (hd : s.drop k = b :: r) : s.drop (k + 1) = r := by rw [← List.drop_drop, hd]; rfl
theorem WordsAt.blank {s r : List UInt8} {ts : List Tok} {k : Nat} {b : UInt8} (h : WordsAt s ts k) (hd : s.drop k = b :: r) (hb : blank b = true) : WordsAt s ts (k + 1) := by
 have hl : r.length + 1 = s.length - k := by rw [← List.length_cons (a := b), ← hd, List.length_drop]
 exact h.same (by omega) (by omega) (by rw [hd, skip_blank hb, drop_at hd])
theorem WordsAt.remark {s r : List UInt8} {ts : List Tok} {k m : Nat} (h : WordsAt s ts k) (hd : s.drop k = 59 :: r) (hm : ((59 :: r).takeWhile (fun b => b != 10)).length = m) : WordsAt s ts (k + m) ∧ 1 ≤ m ∧ k + m ≤ s.length := by
 have hl : r.length + 1 = s.length - k := by rw [← List.length_cons (a := (59 : UInt8)), ← hd, List.length_drop]
 have h1 : m ≤ r.length + 1 := by rw [← hm]; exact takeWhile_len _ (59 :: r)
 refine ⟨h.same (by omega) (by omega) ?_, ?_, by omega⟩
 ·rw [hd, skip_remark, skipT, ← List.drop_drop, hd, ← hm, ← dropWhile_drop, List.dropWhile_cons_of_pos (by decide)]
 ·rw [← hm, List.takeWhile_cons, if_pos (by decide)]; simp
end M
def RRound (s : List UInt8) (W : World) (o : Value) (ts : List M.Tok) (k : Nat) (wr : World) : Prop := M.WordsAt s ts k ∧ OwnT W.heap.size wr o ts ∧ Ext W wr
set_option maxHeartbeats 8000000 in
set_option maxRecDepth 100000 in
theorem rWords_n (s : List UInt8) (hs : s.length ≤ 1000000000000) (w : World) : Calls Try.prog 42 #[str s] w (GivesW w (M.wToks s) (M.wAt s) (M.wErr s)) := by
 rcases Nat.lt_or_ge 4000 s.length with hl | hl
 ·obtain ⟨h1, h2, h3⟩ := M.w_large hl
  rw [h1, h2, h3]
  have hq : (4000 < (s.length : Int)) := by omega
  clear h1 h2 h3
  go_enter Try.func42, Try.ntmps42
  go_wp2
  go_ret3
  exact ⟨.slice none 0 0, rfl, TList.nil _, Ext.refl _⟩
 ·have hq : ((s.length : Int) ≤ 4000) := by omega
  obtain ⟨L, hL⟩ : ∃ L, L = s.length := ⟨_, rfl⟩
  have HL := hid hL
  have hsz : (s.length : Int) = (L : Int) := by rw [hL]
  have hL4 : L ≤ 4000 := by omega
  have hL5 : (L : Int) ≤ 4000 := by omega
  have HW0 := hid (M.WordsAt.zero s)
  clear hL hq
  go_enter Try.func42, Try.ntmps42
  go_wp2
  go_loopw [5, 6] (fun o i wr => ∃ (ts : List M.Tok) (k : Nat), i = .int .i64 (k : Int) ∧ k ≤ L ∧ Hid (RRound s w o ts k wr)) (fun _ i _ => L - (intOf i).toNat)
  case atStart => exact ⟨[], 0, rfl, Nat.zero_le _, HW0.out, OwnT.nil _ _, Ext.refl _⟩
  case round =>
   obtain ⟨ts, k, rfl, hk, hR⟩ := hrel
   rcases Nat.lt_or_ge k L with hlt | hge
   ·rcases hd : s.drop k with _ | ⟨b, r⟩
    ·exfalso; have := congrArg List.length hd; rw [List.length_drop, ← HL.out] at this; simp at this; omega
    ·have hdl : r.length + 1 = L - k := by rw [← List.length_cons (a := b), ← hd, List.length_drop, HL.out]
     have hb0 : s[k]? = some b := by have := congrArg (fun l => l[0]?) hd; simpa using this
     have hidx := idx_str 9 Try.underlying9 s k b rfl hb0
     have hlt' : (k : Int) < (L : Int) := by omega
     rcases hbl : M.blank b with _ | _
     ·obtain ⟨nb1, nb2, nb3, nb4⟩ : b ≠ 32 ∧ b ≠ 9 ∧ b ≠ 10 ∧ b ≠ 13 := by
       have := M.blank_iff b; rw [hbl] at this; simpa [and_assoc] using this.symm
      have q1 := ne_byte nb1 (n := 32) rfl
      have q2 := ne_byte nb2 (n := 9) rfl
      have q3 := ne_byte nb3 (n := 10) rfl
      have q4 := ne_byte nb4 (n := 13) rfl
      by_cases h59 : b = 59
      ·subst h59
       obtain ⟨m, hm⟩ : ∃ m, ((59 :: r).takeWhile (fun b => b != 10)).length = m := ⟨_, rfl⟩
       obtain ⟨hw1, hw2, hw3⟩ := hR.out.1.remark hd hm
       obtain ⟨E, hE⟩ : ∃ E, k + m = E := ⟨_, rfl⟩
       rw [hE] at hw1 hw3
       have hkE : k < E := by omega
       have hEL : E ≤ L := by rw [HL.out]; exact hw3
       have HW := hid hw1
       have HIN := hid (show ∀ j, k ≤ j → j < E → ∃ x, s[j]? = some x ∧ (x != 10) = true from fun j hj1 hj2 => by
        obtain ⟨x, h5, h6⟩ := takeWhile_get (p := fun b => b != 10) (l := 59 :: r) (j := j - k) (by rw [hm]; omega)
        rw [← hd, List.getElem?_drop, show k + (j - k) = j by omega] at h5
        exact ⟨x, h5, h6⟩)
       have HEND := hid (show E < L → s[E]? = some 10 from fun hlt2 => by
        obtain ⟨x, hx⟩ : ∃ x, s[E]? = some x := ⟨_, List.getElem?_eq_getElem (by rw [← HL.out]; exact hlt2)⟩
        have h5 : (59 :: r)[((59 :: r).takeWhile (fun b => b != 10)).length]? = some x := by rw [hm, ← hd, List.getElem?_drop, hE]; exact hx
        have h6 := M.next_not h5
        rw [hx]
        simpa using h6)
       clear hd hdl hb0 hbl hm hw1 hw2 hw3 hE nb1 nb2 nb3 nb4
       go_wp2
       go_loop [6] (fun i => ∃ j : Nat, k ≤ j ∧ j ≤ E ∧ i = .int .i64 (j : Int)) (fun i => L - (intOf i).toNat)
       case atStart => exact ⟨k, Nat.le_refl _, by omega, rfl⟩
       case round =>
        obtain ⟨j, hkj, hj, rfl⟩ := hrel
        rcases Nat.lt_or_ge j E with hjE | hjE
        ·obtain ⟨x, hx3, hx4⟩ := HIN.out j hkj hjE
         have hidj := idx_str 9 Try.underlying9 s j x rfl hx3
         have hne : x ≠ 10 := by simpa using hx4
         have qa := ne_byte hne (n := 10) rfl
         have qb : ((x.toNat : Int) != 10) = true := by rw [bne, qa]; rfl
         have hjL : (j : Int) < (L : Int) := by omega
         clear hx3 hx4 hne
         go_wp2
         go_round
         case rel => exact ⟨j + 1, by omega, by omega, by simp⟩
         case measure => simp [intOf]; omega
        ·obtain rfl : j = E := by omega
         rcases Nat.lt_or_ge j L with hjL | hjL
         ·have hidj := idx_str 9 Try.underlying9 s j 10 rfl (HEND.out hjL)
          have hjL2 : (j : Int) < (L : Int) := by omega
          go_wp2
          go_roundw
          case rel => exact ⟨ts, j, rfl, by omega, HW.out, hR.out.2⟩
          case measure => simp [intOf]; omega
         ·obtain rfl : j = L := by omega
          go_wp2
          go_roundw
          case rel => exact ⟨ts, j, rfl, Nat.le_refl _, HW.out, hR.out.2⟩
          case measure => simp [intOf]; omega
      ·have q5 := ne_byte h59 (n := 59) rfl
       have HS := hid (M.skip_word hbl h59 r)
       have HO := hid (show ∀ w, Calls Try.prog 48 #[str s, .int .i64 (k : Int)] w (GivesOne w (b :: r) k) from fun w => one_n s k b r hd (by omega) w)
       have HD := hid hd
       clear hd hdl hb0 hbl nb1 nb2 nb3 nb4 h59
       go_wp2_with fail
       refine (HO.out _).mono ?_
       rintro e w2 ⟨t, m, ok, rfl, hone, hb⟩
       have E2 := hid hb
       have H1 := hid hone
       clear hb hone
       cases ok
       ·have HB := hid (M.w_bad hl (by rw [← HL.out]; exact hk) (hR.out.1.bad HD.out HS.out (H1.out.2 rfl)))
        go_wp2
        go_ret3
        rw [HB.out.1, HB.out.2.1, HB.out.2.2]
        exact ⟨.slice none 0 0, rfl, TList.nil _, (hR.out.2.2.trans E2.out).alloc' _⟩
       ·obtain ⟨hf, hkm⟩ := H1.out.1 rfl
        have hfl := M.first_len hf
        have W1 := hR.out.1.tok HD.out HS.out hf
        rw [show k + (m - k) = m by omega] at W1
        have HW := hid W1
        have hkm2 : k < m := by omega
        have hmL : m ≤ L := by rw [HL.out]; exact W1.2.1
        have htl : ts.length ≤ 4000 := Nat.le_trans hR.out.1.2.2 (by omega)
        clear hf hfl W1 hkm
        go_wp2_with (at_builtin; refine wpList_appT rfl (.tmp 61) (.tmp 63) rfl w.heap.size _ ts rfl (((hR.out.2.1.up E2.out).alloc _).alloc _) _ t rfl ?c0 ?c1 ?c2 ?c3 ?_)
        case c0 => simp
        case c1 => simp
        case c2 => omega
        case c3 => have h1 := hR.out.2.2.size; have h2 := E2.out.size; simp; omega
        intro v' w3 hown hbel
        have HOW := hid hown
        have HE := hid (show Ext w w3 from Below.trans (B := w.heap.size) (((hR.out.2.2.trans E2.out).alloc' _).alloc' _) hbel)
        clear hown hbel
        go_wp2
        go_roundw
        case rel => exact ⟨ts ++ [t], m, rfl, hmL, HW.out, HOW.out, HE.out⟩
        case measure => simp [intOf]; omega
     ·have hW := hid (hR.out.1.blank hd hbl)
      have hcase : b = 32 ∨ b = 9 ∨ b = 10 ∨ b = 13 := by
       have := M.blank_iff b; rw [hbl] at this; simpa [or_assoc] using this.symm
      clear hd hdl hb0 hbl
      rcases hcase with rfl | rfl | rfl | rfl
      all_goals
       go_wp2
       go_roundw
       case rel => exact ⟨ts, k + 1, by simp, by omega, hW.out, hR.out.2⟩
       case measure => simp [intOf]; omega
   ·obtain rfl : k = L := by omega
    have HD := hid (M.w_done hl (hR.out.1.done HL.out))
    have hk5 := hid (show (k : Int) = ((s.length : Nat) : Int) by rw [HL.out])
    go_wp2
    go_ret3
    rw [HD.out.1, HD.out.2.1, HD.out.2.2, ← HL.out]
    exact ⟨_, rfl, hR.out.2.1.list, hR.out.2.2⟩
end Go.Proofs.Ytceplnfjlncekaa
