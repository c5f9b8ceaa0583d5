/-
  Mathematics of layer 8: words that were read are printed and read again; a beginning of a text.
-/
import Derived.Test.YtmnchlikhbendaaQKnown
namespace Go.Proofs.Ytmnchlikhbendaa
set_option linter.unusedSimpArgs false
set_option linter.unusedVariables false
namespace M
/-- A word that a text may have. -/
def OkTok (t : Tok) : Prop := (t.1 = 1 ∧ t.2 = []) ∨ (t.1 = 2 ∧ t.2 = []) ∨ (t.1 = 3 ∧ isNum t.2 = true) ∨ (t.1 = 4 ∧ isSym t.2 = true) ∨ (t.1 = 5 ∧ isSym t.2 = true)
theorem first_ok {l : List UInt8} {t : Tok} {k : Nat} (h : first l = some (t, k)) : OkTok t ∧ (word t).length = k := by
  cases l with
  | nil => simp [first] at h
  | cons b r =>
    rw [first] at h
    split at h
    · simp only [Option.some.injEq, Prod.mk.injEq] at h; obtain ⟨rfl, rfl⟩ := h; exact ⟨.inl ⟨rfl, rfl⟩, rfl⟩
    · split at h
      · simp only [Option.some.injEq, Prod.mk.injEq] at h; obtain ⟨rfl, rfl⟩ := h; exact ⟨.inr (.inl ⟨rfl, rfl⟩), rfl⟩
      · split at h
        · split at h
          · rename_i hs
            simp only [Option.some.injEq, Prod.mk.injEq] at h; obtain ⟨rfl, rfl⟩ := h
            exact ⟨.inr (.inr (.inr (.inr ⟨rfl, hs⟩))), by simp [word]; omega⟩
          · cases h
        · split at h
          · rename_i hs
            simp only [Option.some.injEq, Prod.mk.injEq] at h; obtain ⟨rfl, rfl⟩ := h
            exact ⟨.inr (.inr (.inr (.inl ⟨rfl, hs⟩))), by simp [word]⟩
          · split at h
            · rename_i hs
              simp only [Option.some.injEq, Prod.mk.injEq] at h; obtain ⟨rfl, rfl⟩ := h
              exact ⟨.inr (.inr (.inl ⟨rfl, hs⟩)), by simp [word]⟩
            · cases h
/-- All words of a text may be words; together they are no longer than it; as many as there are bytes at most. -/
theorem scan_ok (l : List UInt8) : (∀ t ∈ (scan l).1, OkTok t) ∧ (print (scan l).1).length + (if (scan l).1 = [] then 0 else 1) ≤ 2 * l.length := by
  generalize hn : l.length = n
  induction n using Nat.strongRecOn generalizing l with
  | _ n ih =>
    have hl := skip_len l
    rcases hs : skip l with _ | ⟨b, r⟩
    · rw [scan_nil hs]; simp [print]
    · rw [hs] at hl
      simp at hl
      rcases hf : first (b :: r) with _ | ⟨t, k⟩
      · rw [scan_bad hs hf]; simp [print]
      · rw [scan_tok hs hf]
        have h2 := first_len hf
        obtain ⟨h3, h4⟩ := first_ok hf
        simp at h2
        have hd : ((b :: r).drop k).length = r.length + 1 - k := by rw [List.length_drop, List.length_cons]
        obtain ⟨h5, h6⟩ := ih ((b :: r).drop k).length (by omega) ((b :: r).drop k) rfl
        rw [hd] at h6
        refine ⟨fun x hx => ?_, ?_⟩
        · rcases List.mem_cons.1 hx with rfl | hx
          · exact h3
          · exact h5 x hx
        · simp only [List.cons_ne_nil, if_false]
          rcases hq : (scan ((b :: r).drop k)).1 with _ | ⟨y, q⟩
          · simp [print]; omega
          · rw [hq] at h6
            simp only [List.cons_ne_nil, if_false] at h6
            have e : print (t :: y :: q) = word t ++ 32 :: print (y :: q) := by simp [print]
            rw [e, List.length_append, List.length_cons]
            omega
theorem isSym_parts {l : List UInt8} (h : isSym l = true) : ∃ b r, l = b :: r ∧ sym b = true ∧ dig b = false ∧ l.all sym = true := by
  cases l with
  | nil => simp [isSym] at h
  | cons b r =>
    unfold isSym at h
    simp only [Bool.and_eq_true, List.headD_cons, Bool.not_eq_true'] at h
    obtain ⟨-, -, h1, h2⟩ := h
    refine ⟨b, r, rfl, ?_, h2, h1⟩
    rw [List.all_cons, Bool.and_eq_true] at h1
    exact h1.1
theorem isNum_parts {l : List UInt8} (h : isNum l = true) : ∃ b r, l = b :: r ∧ dig b = true ∧ l.all sym = true := by
  cases l with
  | nil => simp [isNum] at h
  | cons b r =>
    rw [isNum] at h
    split at h
    · rename_i hb
      subst hb
      cases r
      · exact ⟨48, [], rfl, by decide, by decide⟩
      · simp at h
    · refine ⟨b, r, rfl, ?_, List.all_eq_true.2 fun x hx => dig_sym (List.all_eq_true.1 h x hx)⟩
      rw [List.all_cons, Bool.and_eq_true] at h
      exact h.1
/-- Nothing, or a byte that no symbol has. -/
def Ends (rest : List UInt8) : Prop := rest = [] ∨ ∃ b r, rest = b :: r ∧ sym b = false
theorem takeWhile_ends {p : UInt8 → Bool} {l rest : List UInt8} (h : l.all p = true) (hr : rest = [] ∨ ∃ b r, rest = b :: r ∧ p b = false) : (l ++ rest).takeWhile p = l := by
  have hk : ((l ++ rest).take l.length).all p = true := by rw [List.take_left]; exact h
  have := takeWhile_at (p := p) (l := l ++ rest) (k := l.length) (by simp) hk (by
    rcases hr with rfl | ⟨b, r, rfl, hb⟩
    · exact .inl (by simp)
    · exact .inr ⟨b, by simp, hb⟩)
  rw [this.2, List.take_left]
theorem first_word {t : Tok} (ht : OkTok t) {rest : List UInt8} (hr : Ends rest) : first (word t ++ rest) = some (t, (word t).length) ∧ skip (word t ++ rest) = word t ++ rest ∧ word t ++ rest ≠ [] := by
  obtain ⟨k, x⟩ := t
  rcases ht with ⟨rfl, rfl⟩ | ⟨rfl, rfl⟩ | ⟨rfl, h⟩ | ⟨rfl, h⟩ | ⟨rfl, h⟩
  · refine ⟨?_, ?_, by simp [word]⟩
    · show first (40 :: rest) = _
      rw [first, if_pos rfl]; rfl
    · exact skip_word (b := 40) (by decide) (by decide) rest
  · refine ⟨?_, ?_, by simp [word]⟩
    · show first (41 :: rest) = _
      rw [first, if_neg (by decide), if_pos rfl]; rfl
    · exact skip_word (b := 41) (by decide) (by decide) rest
  · have hw : word (3, x) = x := by simp [word]
    obtain ⟨b, r, rfl, hb, ha⟩ := isNum_parts h
    obtain ⟨n1, n2, n3, n4, n5⟩ := sym_not (dig_sym hb)
    rw [hw, List.cons_append]
    refine ⟨?_, skip_word n5 n4 _, by simp⟩
    rw [first_of n1 n2 n3, ← List.cons_append, takeWhile_ends ha hr, isSym_head hb, h]; rfl
  · have hw : word (4, x) = x := by simp [word]
    obtain ⟨b, r, rfl, hb, hd, ha⟩ := isSym_parts h
    obtain ⟨n1, n2, n3, n4, n5⟩ := sym_not hb
    rw [hw, List.cons_append]
    refine ⟨?_, skip_word n5 n4 _, by simp⟩
    rw [first_of n1 n2 n3, ← List.cons_append, takeWhile_ends ha hr, h]; rfl
  · have hw : word (5, x) = 58 :: x := by simp [word]
    obtain ⟨b, r, rfl, hb, hd, ha⟩ := isSym_parts h
    rw [hw, List.cons_append]
    refine ⟨?_, skip_word (by decide) (by decide) _, by simp⟩
    rw [first, if_neg (by decide), if_neg (by decide), if_pos rfl, takeWhile_ends ha hr, h, if_pos rfl, List.length_cons (a := (58 : UInt8)), Nat.add_comm]
theorem scan_word {t : Tok} (ht : OkTok t) {rest : List UInt8} (hr : Ends rest) : scan (word t ++ rest) = (t :: (scan rest).1, (scan rest).2) := by
  obtain ⟨h1, h2, h3⟩ := first_word ht hr
  rcases hc : word t ++ rest with _ | ⟨b, r⟩
  · exact absurd hc h3
  · rw [hc] at h1 h2
    rw [scan_tok h2 h1, ← hc, List.drop_left]
theorem scan_blank {b : UInt8} (h : blank b = true) (r : List UInt8) : scan (b :: r) = scan r := scan_of_skip (skip_blank h r)
theorem ends_nil : Ends [] := .inl rfl
theorem ends_blank (r : List UInt8) : Ends (32 :: r) := .inr ⟨32, r, rfl, by decide⟩
theorem scan_print : ∀ {ts : List Tok}, (∀ t ∈ ts, OkTok t) → scan (print ts) = (ts, none)
  | [], _ => rfl
  | [t], h => by
    have e : print [t] = word t ++ [] := by simp [print]
    rw [e, scan_word (h t (by simp)) ends_nil]; rfl
  | t :: y :: q, h => by
    have e : print (t :: y :: q) = word t ++ 32 :: print (y :: q) := by simp [print]
    rw [e, scan_word (h t (by simp)) (ends_blank _), scan_blank (by decide), scan_print (ts := y :: q) (fun x hx => h x (by simp [hx]))]
theorem skipS_take : ∀ (q : Bool) (l : List UInt8) (c : Nat), skipS q (l.take c) = (skipS q l).take (c - (l.length - (skipS q l).length))
  | q, [], c => by cases q <;> simp [skipS]
  | q, b :: r, 0 => by cases q <;> simp [skipS]
  | false, b :: r, c + 1 => by
    have l1 := skipS_len false r; have l2 := skipS_len true r
    rw [List.take_succ_cons, skipS, skipS]
    split
    · rw [skipS_take false r c, List.length_cons]; congr 1; omega
    · split
      · rw [skipS_take true r c, List.length_cons]; congr 1; omega
      · simp
  | true, b :: r, c + 1 => by
    have l1 := skipS_len false r; have l2 := skipS_len true r
    rw [List.take_succ_cons, skipS, skipS]
    split
    · rw [skipS_take false r c, List.length_cons]; congr 1; omega
    · rw [skipS_take true r c, List.length_cons]; congr 1; omega
theorem takeWhile_short {p : UInt8 → Bool} {l : List UInt8} {c : Nat} (h : ((l.take c).takeWhile p).length < (l.take c).length) : l.takeWhile p = (l.take c).takeWhile p := by
  obtain ⟨x, hx⟩ : ∃ x, (l.take c)[((l.take c).takeWhile p).length]? = some x := ⟨_, List.getElem?_eq_getElem h⟩
  have hn := next_not hx
  have hx' : l[((l.take c).takeWhile p).length]? = some x := by
    rw [List.getElem?_take] at hx
    split at hx
    · exact hx
    · cases hx
  have hlt := (List.getElem?_eq_some_iff.1 hx').1
  have hle : ((l.take c).takeWhile p).length ≤ c := by rw [List.length_take] at h; omega
  have e : l.take ((l.take c).takeWhile p).length = (l.take c).takeWhile p := by
    have := takeWhile_take p (l.take c)
    rw [List.take_take, Nat.min_eq_left hle] at this
    exact this.symm
  have := takeWhile_at (p := p) (l := l) (k := ((l.take c).takeWhile p).length) (Nat.le_of_lt hlt) (by rw [e]; exact List.all_takeWhile) (.inr ⟨x, hx', hn⟩)
  rw [this.2, e]
theorem first_take {b : UInt8} {r : List UInt8} {j : Nat} {t : Tok} {k : Nat} (h : first (b :: r.take j) = some (t, k)) (hk : k < (b :: r.take j).length) : first (b :: r) = some (t, k) := by
  have hkj : k < (r.take j).length + 1 := by simpa using hk
  rw [first] at h ⊢
  split at h
  · rename_i hb; rw [if_pos hb]; exact h
  · rename_i hb; rw [if_neg hb]
    split at h
    · rename_i hb2; rw [if_pos hb2]; exact h
    · rename_i hb2; rw [if_neg hb2]
      split at h
      · rename_i hb3; rw [if_pos hb3]
        split at h
        · rename_i hs
          simp only [Option.some.injEq, Prod.mk.injEq] at h
          rw [takeWhile_short (p := sym) (l := r) (c := j) (by omega), if_pos hs]
          simp [h]
        · cases h
      · rename_i hb3; rw [if_neg hb3]
        have e : b :: r.take j = (b :: r).take (j + 1) := rfl
        rw [e] at h
        rw [e] at hk
        split at h
        · rename_i hs
          simp only [Option.some.injEq, Prod.mk.injEq] at h
          rw [takeWhile_short (p := sym) (l := b :: r) (c := j + 1) (by omega), if_pos hs]
          rw [h.1, h.2]
        · rename_i hs
          split at h
          · rename_i hs2
            simp only [Option.some.injEq, Prod.mk.injEq] at h
            rw [takeWhile_short (p := sym) (l := b :: r) (c := j + 1) (by omega), if_neg hs, if_pos hs2]
            rw [h.1, h.2]
          · cases h
/-- What is told of a beginning has no more words. -/
theorem scan_take (l : List UInt8) (c : Nat) (h1 : (scan (l.take c)).2 = none) (h2 : (scan l).2 = none) : (scan (l.take c)).1.length ≤ (scan l).1.length := by
  generalize hn : l.length = n
  induction n using Nat.strongRecOn generalizing l c with
  | _ n ih =>
    have hl := skip_len l
    have hst := skipS_take false l c
    change skip (l.take c) = (skip l).take _ at hst
    generalize c - (l.length - (skipS false l).length) = c' at hst
    rcases hs : skip l with _ | ⟨b, r⟩
    · rw [hs] at hst
      rw [scan_nil (by rw [hst]; simp)]; exact Nat.zero_le _
    · rw [hs] at hst hl
      simp at hl
      rcases c' with _ | j
      · rw [scan_nil (by rw [hst]; rfl)]; exact Nat.zero_le _
      · rw [List.take_succ_cons] at hst
        rcases hf : first (b :: r.take j) with _ | ⟨t, k⟩
        · rw [scan_bad hst hf] at h1; cases h1
        · have hfl := first_len hf
          rcases hg : first (b :: r) with _ | ⟨t', k'⟩
          · rw [scan_bad hs hg] at h2; cases h2
          · rw [scan_tok hst hf] at h1 ⊢
            rcases Nat.lt_or_ge k (b :: r.take j).length with hlt | hge
            · have := first_take hf hlt
              rw [hg] at this
              injection this with this
              injection this with e1 e2
              subst e1 e2
              rw [scan_tok hs hg] at h2 ⊢
              have e : (b :: r.take j).drop k' = ((b :: r).drop k').take (j + 1 - k') := by
                rw [← List.take_succ_cons, List.drop_take]
              simp only [List.length_cons]
              simp only [e] at h1 ⊢
              have := ih ((b :: r).drop k').length (by rw [List.length_drop, List.length_cons]; omega) ((b :: r).drop k') _ h1 h2 rfl
              omega
            · have e : (b :: r.take j).drop k = [] := List.drop_eq_nil_of_le hge
              rw [scan_tok hs hg]
              simp only [e, List.length_cons]
              rw [scan_nil skip_nil]
              simp
end M
end Go.Proofs.Ytmnchlikhbendaa
