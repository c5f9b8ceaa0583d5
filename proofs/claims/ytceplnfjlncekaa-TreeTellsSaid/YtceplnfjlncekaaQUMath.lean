/-
  Layer 9, mathematics: words read by a machine with a row of trees for each open list; trees' words read back.
-/
import Derived.Test.YtceplnfjlncekaaQTMath
namespace Go.Proofs.Ytceplnfjlncekaa
set_option linter.unusedSimpArgs false
set_option linter.unusedVariables false
namespace M
/-- A word that a script may have, which is no parenthesis. -/
def leafOk (tk : Tok) : Bool := (decide (tk.1 = 3) || (decide (tk.1 = 4) || decide (tk.1 = 5))) && decide (wToks (print [tk]) = [tk])
mutual
def formT : T → Bool
 | .mk l tk ks => if l = true then formTs ks && decide (tk = (0, [])) else ks.isEmpty && leafOk tk
def formTs : List T → Bool
 | [] => true
 | t :: r => formT t && formTs r
end
/-- A tree as the document has it. -/
def isU (t : T) : Bool := decide (cnt t ≤ 400) && (decide (dep t ≤ 60) && formT t)
theorem isU_parts {t : T} (h : isU t = true) : cnt t ≤ 400 ∧ dep t ≤ 60 ∧ formT t = true := by
 unfold isU at h
 rw [Bool.and_eq_true, Bool.and_eq_true, decide_eq_true_iff, decide_eq_true_iff] at h
 exact h
theorem formTs_app (a b : List T) : formTs (a ++ b) = (formTs a && formTs b) := by
 induction a with
 | nil => simp [formTs]
 | cons x r ih => simp [formTs, ih, Bool.and_assoc]
theorem formTs_take {ks : List T} {k : Nat} {t : T} (h : ks[k]? = some t) : formTs (ks.take (k + 1)) = (formTs (ks.take k) && formT t) := by
 rw [List.take_add_one, h, formTs_app]; simp [formTs]
theorem formTs_at : ∀ {ks : List T} {k : Nat} {t : T}, formTs ks = true → ks[k]? = some t → formT t = true
 | [], _, _, _, h => by simp at h
 | x :: r, 0, t, h, e => by simp at e; subst e; simp [formTs] at h; exact h.1
 | x :: r, k + 1, t, h, e => by simp [formTs] at h; exact formTs_at h.2 (k := k) (by simpa using e)
theorem not_formTs {ks : List T} {k : Nat} {t : T} (e : ks[k]? = some t) (h : formT t = false) : formTs ks = false := by
 rcases hq : formTs ks with _ | _
 ·rfl
 ·rw [formTs_at hq e] at h; cases h
theorem formTs_of : ∀ {ks : List T}, (∀ t ∈ ks, formT t = true) → formTs ks = true
 | [], _ => by simp [formTs]
 | x :: r, h => by rw [formTs, h x (by simp), formTs_of fun t ht => h t (by simp [ht])]; rfl
theorem leafOk_kind {tk : Tok} (h : leafOk tk = true) : tk.1 = 3 ∨ tk.1 = 4 ∨ tk.1 = 5 := by
 unfold leafOk at h
 rw [Bool.and_eq_true, Bool.or_eq_true, Bool.or_eq_true, decide_eq_true_iff, decide_eq_true_iff, decide_eq_true_iff] at h
 exact h.1
/-- All that stands in the reader's row ahead of the innermost open list's kids. -/
def rowUp : List (List T) → List T
 | [] => []
 | u :: r => rowUp r ++ u
/-- Where the kids of each open list begin. -/
def opens : List (List T) → List Nat
 | [] => []
 | u :: r => opens r ++ [(rowUp (u :: r)).length]
theorem opens_len : ∀ up, (opens up).length = up.length
 | [] => rfl
 | u :: r => by simp [opens, opens_len r]
/-- The kids of the innermost open list so far (the whole trees, if none is open); those of the lists around it; how many nodes. -/
structure St where
 cur : List T
 up : List (List T)
 n : Nat
def fault (s : St) (k : Int) : Int := if k < 1 ∨ 5 < k then 10 else if k = 2 ∧ s.up.isEmpty = true then 10 else if k = 1 ∧ s.up.length = 60 then 15 else if k ≠ 2 ∧ s.n = 400 then 11 else 0
def put (s : St) (t : Tok) : St :=
 if t.1 = 1 then ⟨[], s.cur :: s.up, s.n + 1⟩
 else if t.1 = 2 then (match s.up with | [] => s | u :: r => ⟨u ++ [.mk true (0, []) s.cur], r, if r.isEmpty = true then 0 else s.n⟩)
 else ⟨s.cur ++ [.mk false t []], s.up, if s.up.isEmpty = true then 0 else s.n + 1⟩
def mach : St → Nat → List Tok → List T × Nat × Int
 | s, i, [] => if s.up.isEmpty = true then (s.cur, i, 0) else ([], i, 13)
 | s, i, t :: r => if fault s t.1 = 0 then mach (put s t) (i + 1) r else ([], i, fault s t.1)
def readM (L : List Tok) : List T × Nat × Int := mach ⟨[], [], 0⟩ 0 L
def good (s : St) (i : Nat) : Prop := s.up.length ≤ 60 ∧ s.n ≤ 400 ∧ (rowUp s.up ++ s.cur).length ≤ i
theorem good_put {s : St} {i : Nat} {t : Tok} (h : good s i) (hf : fault s t.1 = 0) : good (put s t) (i + 1) := by
 obtain ⟨h1, h2, h3⟩ := h
 unfold fault at hf
 by_cases a1 : t.1 < 1 ∨ 5 < t.1
 ·rw [if_pos a1] at hf; cases hf
 rw [if_neg a1] at hf
 by_cases a2 : t.1 = 2 ∧ s.up.isEmpty = true
 ·rw [if_pos a2] at hf; cases hf
 rw [if_neg a2] at hf
 by_cases a3 : t.1 = 1 ∧ s.up.length = 60
 ·rw [if_pos a3] at hf; cases hf
 rw [if_neg a3] at hf
 by_cases a4 : t.1 ≠ 2 ∧ s.n = 400
 ·rw [if_pos a4] at hf; cases hf
 unfold put
 split
 ·rename_i e
  refine ⟨?_, ?_, ?_⟩
  ·simp; omega
  ·simp; omega
  ·simp [rowUp] at h3 ⊢; omega
 ·split
  ·rcases hu : s.up with _ | ⟨u, r⟩
   ·exact ⟨by simp [hu], h2, by rw [hu] at h3; simp [hu, rowUp] at h3 ⊢; omega⟩
   ·rw [hu] at h1 h3
    refine ⟨?_, ?_, ?_⟩
    ·simp at h1 ⊢; omega
    ·show (if r.isEmpty = true then 0 else s.n) ≤ 400
     split <;> omega
    ·simp [rowUp] at h3 ⊢; omega
  ·refine ⟨h1, ?_, ?_⟩
   ·show (if s.up.isEmpty = true then 0 else s.n + 1) ≤ 400
    split <;> omega
   ·simp at h3 ⊢; omega
theorem mach_left {s : St} {i : Nat} {l : List Tok} (h1 : s.up.length < 60) (h2 : s.n < 400) (tx : List UInt8) : mach s i ((1, tx) :: l) = mach ⟨[], s.cur :: s.up, s.n + 1⟩ (i + 1) l := by
 have hf : fault s (1, tx).1 = 0 := by
  unfold fault
  rw [if_neg (by simp), if_neg (by simp), if_neg (by simp; omega), if_neg (by simp; omega)]
 rw [mach, if_pos hf]
 rfl
theorem mach_right {cur u : List T} {r : List (List T)} {n i : Nat} {l : List Tok} (tx : List UInt8) : mach ⟨cur, u :: r, n⟩ i ((2, tx) :: l) = mach ⟨u ++ [.mk true (0, []) cur], r, if r.isEmpty = true then 0 else n⟩ (i + 1) l := by
 have hf : fault ⟨cur, u :: r, n⟩ (2, tx).1 = 0 := by
  unfold fault
  rw [if_neg (by simp), if_neg (by simp), if_neg (by simp), if_neg (by simp)]
 rw [mach, if_pos hf]
 rfl
theorem mach_leaf {s : St} {i : Nat} {l : List Tok} {t : Tok} (hk : t.1 = 3 ∨ t.1 = 4 ∨ t.1 = 5) (h2 : s.n < 400) : mach s i (t :: l) = mach ⟨s.cur ++ [.mk false t []], s.up, if s.up.isEmpty = true then 0 else s.n + 1⟩ (i + 1) l := by
 have hf : fault s t.1 = 0 := by
  unfold fault
  rw [if_neg (by omega), if_neg (by omega), if_neg (by omega), if_neg (by omega)]
 rw [mach, if_pos hf]
 unfold put
 rw [if_neg (by omega), if_neg (by omega)]
mutual
theorem mach_wds : ∀ (t : T) (s : St) (i : Nat) (l : List Tok), formT t = true → s.up.length + dep t ≤ 60 → s.n + cnt t ≤ 400 →
 mach s i (wds t ++ l) = mach ⟨s.cur ++ [t], s.up, if s.up.isEmpty = true then 0 else s.n + cnt t⟩ (i + (wds t).length) l
 | .mk lb tk ks, s, i, l, hf, hd, hc => by
  rw [formT] at hf
  rw [dep] at hd
  rw [cnt] at hc
  rw [wds]
  cases lb with
  | false =>
   simp only [Bool.false_eq_true, if_false] at hf hd ⊢
   rw [Bool.and_eq_true, List.isEmpty_iff] at hf
   obtain ⟨rfl, hl⟩ := hf
   rw [List.singleton_append, mach_leaf (leafOk_kind hl) (by omega), cnt, cnts]
   rfl
  | true =>
   simp only [if_true] at hf hd ⊢
   rw [Bool.and_eq_true, decide_eq_true_iff] at hf
   obtain ⟨hk, rfl⟩ := hf
   rw [List.cons_append, List.append_assoc, mach_left (by omega) (by omega), mach_wdss ks [] s.cur s.up (s.n + 1) (i + 1) _ hk (by omega) (by omega), List.singleton_append, mach_right, cnt]
   congr 1
   ·congr 1
    rw [show s.n + 1 + cnts ks = s.n + (1 + cnts ks) by omega]
   ·simp; omega
theorem mach_wdss : ∀ (ks : List T) (cur u : List T) (r : List (List T)) (n i : Nat) (l : List Tok), formTs ks = true → r.length + 1 + deps ks ≤ 60 → n + cnts ks ≤ 400 →
 mach ⟨cur, u :: r, n⟩ i (wdss ks ++ l) = mach ⟨cur ++ ks, u :: r, n + cnts ks⟩ (i + (wdss ks).length) l
 | [], cur, u, r, n, i, l, _, _, _ => by simp [wdss, cnts]
 | t :: q, cur, u, r, n, i, l, hf, hd, hc => by
  rw [formTs, Bool.and_eq_true] at hf
  rw [deps] at hd
  rw [cnts] at hc
  rw [wdss, List.append_assoc, mach_wds t ⟨cur, u :: r, n⟩ i _ hf.1 (by simp; omega) (by simp; omega)]
  simp only [List.isEmpty_cons, Bool.false_eq_true, if_false]
  rw [mach_wdss q (cur ++ [t]) u r (n + cnt t) _ l hf.2 (by omega) (by omega), cnts]
  congr 1
  ·congr 1
   ·simp
   ·omega
  ·simp; omega
end
/-- Trees one behind the other. -/
theorem mach_rows : ∀ (ks : List T) (cur : List T) (i : Nat) (l : List Tok), (∀ t ∈ ks, isU t = true) → mach ⟨cur, [], 0⟩ i (wdss ks ++ l) = mach ⟨cur ++ ks, [], 0⟩ (i + (wdss ks).length) l
 | [], cur, i, l, _ => by simp [wdss]
 | t :: q, cur, i, l, h => by
  obtain ⟨h1, h2, h3⟩ := isU_parts (h t (by simp))
  rw [wdss, List.append_assoc, mach_wds t ⟨cur, [], 0⟩ i _ h3 (by simpa using h2) (by simpa using h1)]
  simp only [List.isEmpty_nil, if_true]
  rw [mach_rows q (cur ++ [t]) _ l fun x hx => h x (by simp [hx])]
  congr 1
  ·congr 1
   simp
  ·simp; omega
theorem readM_rows {ks : List T} (h : ∀ t ∈ ks, isU t = true) : readM (wdss ks) = (ks, (wdss ks).length, 0) := by
 have := mach_rows ks [] 0 [] h
 rw [List.append_nil] at this
 unfold readM
 rw [this, mach]
 simp
theorem readM_one {t : T} (h : isU t = true) : readM (wds t) = ([t], (wds t).length, 0) := by
 have := readM_rows (ks := [t]) (by simpa using h)
 simpa [wdss] using this
/-- A list without its last word. -/
theorem readM_short {tk : Tok} {ks : List T} (h : isU (.mk true tk ks) = true) : readM ((wds (.mk true tk ks)).dropLast) = ([], (wds (.mk true tk ks)).length - 1, 13) := by
 obtain ⟨h1, h2, h3⟩ := isU_parts h
 rw [cnt] at h1
 rw [dep] at h2
 rw [formT] at h3
 simp only [if_true] at h2 h3
 rw [Bool.and_eq_true] at h3
 have e : wds (.mk true tk ks) = ((1, []) :: wdss ks) ++ [(2, [])] := by rw [wds]; simp
 rw [e, List.dropLast_concat]
 unfold readM
 rw [mach_left (by simp) (by simp)]
 have := mach_wdss ks [] [] [] 1 1 [] h3.1 (by simp; omega) (by omega)
 rw [List.append_nil] at this
 rw [this, mach]
 simp; omega
/-- How many right parentheses. -/
def rts (l : List Tok) : Nat := (l.filter fun t => decide (t.1 = 2)).length
theorem rts_app (a b : List Tok) : rts (a ++ b) = rts a + rts b := by simp [rts]
theorem rts_take {l : List Tok} {k : Nat} {t : Tok} (h : l[k]? = some t) : rts (l.take (k + 1)) = rts (l.take k) + (if t.1 = 2 then 1 else 0) := by
 rw [List.take_add_one, h, rts_app]
 congr 1
 unfold rts
 by_cases e : t.1 = 2 <;> simp [e]
theorem rts_le (l : List Tok) : rts l ≤ l.length := by unfold rts; exact List.length_filter_le _ _
mutual
theorem wds_len : ∀ (t : T), formT t = true → (wds t).length = cnt t + rts (wds t)
 | .mk lb tk ks, h => by
  rw [formT] at h
  rw [wds, cnt]
  cases lb with
  | false =>
   simp only [Bool.false_eq_true, if_false] at h ⊢
   rw [Bool.and_eq_true, List.isEmpty_iff] at h
   obtain ⟨rfl, hl⟩ := h
   have := leafOk_kind hl
   have h2 : ¬ tk.1 = 2 := by omega
   simp [rts, cnts, h2]
  | true =>
   simp only [if_true] at h ⊢
   rw [Bool.and_eq_true] at h
   have := wdss_len ks h.1
   rw [show ((1, []) :: (wdss ks ++ [(2, [])]) : List Tok) = [(1, [])] ++ wdss ks ++ [(2, [])] by simp, rts_app, rts_app]
   simp [rts] at this ⊢
   omega
theorem wdss_len : ∀ (ks : List T), formTs ks = true → (wdss ks).length = cnts ks + rts (wdss ks)
 | [], _ => by simp [wdss, cnts, rts]
 | t :: r, h => by
  rw [formTs, Bool.and_eq_true] at h
  rw [wdss, cnts, rts_app, List.length_append, wds_len t h.1, wdss_len r h.2]
  omega
end
theorem wds_le {t : T} (h : isU t = true) : (wds t).length ≤ 800 := by
 obtain ⟨h1, h2, h3⟩ := isU_parts h
 have key : ∀ (t : T), formT t = true → (wds t).length ≤ 2 * cnt t := by
  intro t
  refine T.indA (P := fun t => formT t = true → (wds t).length ≤ 2 * cnt t) (fun lb tk ks ih hf => ?_) t
  rw [formT] at hf
  rw [wds, cnt]
  have key2 : ∀ (qs : List T), (∀ t ∈ qs, (wds t).length ≤ 2 * cnt t) → (wdss qs).length ≤ 2 * cnts qs := by
   intro qs
   induction qs with
   | nil => intro _; simp [wdss, cnts]
   | cons x r ihq =>
    intro hx
    have a := hx x (by simp)
    have b := ihq fun t ht => hx t (by simp [ht])
    rw [wdss, cnts, List.length_append]; omega
  cases lb with
  | false => simp; omega
  | true =>
   simp only [if_true] at hf ⊢
   rw [Bool.and_eq_true] at hf
   have := key2 ks fun t ht => by
    obtain ⟨k, hk⟩ := List.mem_iff_getElem?.1 ht
    exact ih k t hk (formTs_at hf.1 hk)
   simp; omega
 have := key t h3
 omega
/-- Lists within one another. -/
def nest : Nat → T
 | 0 => .mk true (0, []) []
 | k + 1 => .mk true (0, []) [nest k]
theorem nest_wds : ∀ k, wds (nest k) = List.replicate (k + 1) (1, []) ++ List.replicate (k + 1) (2, [])
 | 0 => by simp [nest, wds, wdss]
 | k + 1 => by
  rw [nest, wds]
  simp only [if_true, wdss, List.append_nil]
  rw [nest_wds k, List.replicate_succ (n := k + 1), List.append_assoc, ← List.replicate_succ' (n := k + 1), List.cons_append]
theorem nest_parts : ∀ k, cnt (nest k) = k + 1 ∧ dep (nest k) = k + 1 ∧ formT (nest k) = true
 | 0 => by simp [nest, cnt, cnts, dep, deps, formT, formTs]
 | k + 1 => by
  obtain ⟨h1, h2, h3⟩ := nest_parts k
  rw [nest, cnt, dep, formT]
  simp [cnts, deps, formTs, h1, h2, h3]
  omega
theorem mach_lefts : ∀ (j : Nat) (s : St) (i : Nat) (l : List Tok), s.up.length + j ≤ 60 → s.n + j ≤ 400 → ∃ s', mach s i (List.replicate j (1, []) ++ l) = mach s' (i + j) l ∧ s'.up.length = s.up.length + j ∧ s'.n = s.n + j
 | 0, s, i, l, _, _ => ⟨s, by simp, by simp, by simp⟩
 | j + 1, s, i, l, h1, h2 => by
  obtain ⟨s', e, e1, e2⟩ := mach_lefts j ⟨[], s.cur :: s.up, s.n + 1⟩ (i + 1) l (by simp; omega) (by simp; omega)
  refine ⟨s', ?_, by simp at e1; omega, by simp at e2; omega⟩
  rw [List.replicate_succ, List.cons_append, mach_left (by omega) (by omega), e, show i + 1 + j = i + (j + 1) by omega]
theorem readM_deep (l : List Tok) : readM (List.replicate 61 (1, []) ++ l) = ([], 60, 15) := by
 obtain ⟨s, e, e1, e2⟩ := mach_lefts 60 ⟨[], [], 0⟩ 0 ((1, []) :: l) (by simp) (by simp)
 unfold readM
 rw [show List.replicate 61 (((1, []) : Tok)) ++ l = List.replicate 60 (1, []) ++ ((1, []) :: l) by
  rw [List.replicate_succ' (n := 60), List.append_assoc]; rfl, e, mach]
 have hf : fault s ((1, []) : Tok).1 = 15 := by
  unfold fault
  rw [if_neg (by simp), if_neg (by simp), if_pos (by simp at e1 ⊢; omega)]
 rw [hf]
 simp
/-- A list of so many words. -/
def wide (m : Nat) : T := .mk true (0, []) (List.replicate m (.mk false (3, [49]) []))
theorem leaf49 : leafOk (3, [49]) = true := by decide +kernel
theorem wides : ∀ m, cnts (List.replicate m (.mk false (3, [49]) [])) = m ∧ deps (List.replicate m (.mk false (3, [49]) [])) = 0 ∧ formTs (List.replicate m (.mk false (3, [49]) [])) = true ∧ wdss (List.replicate m (.mk false (3, [49]) [])) = List.replicate m (3, [49])
 | 0 => by simp [cnts, deps, formTs, wdss]
 | m + 1 => by
  obtain ⟨h1, h2, h3, h4⟩ := wides m
  rw [List.replicate_succ, List.replicate_succ, cnts, deps, formTs, wdss, h1, h2, h3, h4]
  simp [cnt, cnts, dep, formT, wds, leaf49]
  omega
theorem wide_wds (m : Nat) : wds (wide m) = (1, []) :: (List.replicate m (3, [49]) ++ [(2, [])]) := by
 rw [wide, wds, (wides m).2.2.2]; simp
theorem wide_cnt (m : Nat) : cnt (wide m) = m + 1 := by rw [wide, cnt, (wides m).1]; omega
theorem wide_isU {m : Nat} (h : m < 400) : isU (wide m) = true := by
 unfold isU
 rw [wide_cnt, decide_eq_true (by omega), wide, dep, formT, (wides m).2.1, (wides m).2.2.1]
 simp
theorem readM_wide {m : Nat} (h : 400 ≤ m) (l : List Tok) : readM ((1, []) :: (List.replicate m (3, [49]) ++ l)) = ([], 400, 11) := by
 obtain ⟨q, rfl⟩ : ∃ q, m = 399 + (q + 1) := ⟨m - 400, by omega⟩
 unfold readM
 obtain ⟨h1, h2, h3, h4⟩ := wides 399
 obtain ⟨W, hW⟩ : ∃ W, W = List.replicate 399 (T.mk false (3, [49]) []) := ⟨_, rfl⟩
 rw [← hW] at h1 h2 h3 h4
 have e : List.replicate (399 + (q + 1)) ((3, [49]) : Tok) = wdss W ++ ((3, [49]) :: List.replicate q (3, [49])) := by
  rw [h4, ← List.replicate_succ, List.replicate_append_replicate]
 rw [mach_left (by simp) (by simp), e, List.append_assoc, mach_wdss W [] [] [] 1 1 _ h3 (by rw [h2]; simp) (by rw [h1]; exact Nat.le_refl _), h1, h4, List.cons_append, mach]
 have hf : fault ⟨[] ++ W, [[]], 1 + 399⟩ ((3, [49]) : Tok).1 = 11 := by
  unfold fault; simp
 rw [hf, if_neg (by decide), List.length_replicate]
end M
end Go.Proofs.Ytceplnfjlncekaa
