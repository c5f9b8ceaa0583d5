/-
  Layer 11's laws, mathematics: what a let binds, put in its place.
-/
import Derived.Test.YtgkofipifjfjhaaGreatDoorJSC
import Derived.Test.YtgkofipifjfjhaaGreatDoorJSF
namespace Go.Proofs.YtgkofipifjfjhaaGreatDoor.Q
set_option linter.unusedSimpArgs false
set_option linter.unusedVariables false
namespace M
mutual
/-- Is that word in it? -/
def hasW (s : List UInt8) : T → Bool
 | .mk l tk ks => if l = true then hasWs s ks else decide (tk.1 = 4) && decide (tk.2 = s)
def hasWs (s : List UInt8) : List T → Bool
 | [] => false
 | t :: r => hasW s t || hasWs s r
end
/-- Is the first one that word? -/
def headK (s : List UInt8) (ks : List T) : Bool := match ks with | [] => false | h :: _ => !h.list && decide (h.tok.2 = s)
mutual
/-- Does a list begin with that word? -/
def headsT (s : List UInt8) : T → Bool
 | .mk _ _ ks => headK s ks || headsTs s ks
def headsTs (s : List UInt8) : List T → Bool
 | [] => false
 | t :: r => headsT s t || headsTs s r
end
mutual
/-- A tree in a name's place. -/
def putT (s : List UInt8) (x : T) : T → T
 | .mk l tk ks => if l = true then .mk true (0, []) (putTs s x ks) else if tk.1 = 4 ∧ tk.2 = s then x else .mk l tk ks
def putTs (s : List UInt8) (x : T) : List T → List T
 | [] => []
 | t :: r => putT s x t :: putTs s x r
end
theorem putTs_map (s : List UInt8) (x : T) : ∀ ks, putTs s x ks = ks.map (putT s x)
 | [] => rfl
 | t :: r => by rw [putTs, List.map_cons, putTs_map s x r]
theorem hasWs_mem {s : List UInt8} : ∀ {ks : List T} {t : T}, hasWs s ks = false → t ∈ ks → hasW s t = false
 | [], _, _, h => by cases h
 | x :: r, t, hw, h => by
  rw [hasWs, Bool.or_eq_false_iff] at hw
  rcases List.mem_cons.1 h with rfl | h
  ·exact hw.1
  ·exact hasWs_mem hw.2 h
theorem headsTs_mem {s : List UInt8} : ∀ {ks : List T} {t : T}, headsTs s ks = false → t ∈ ks → headsT s t = false
 | [], _, _, h => by cases h
 | x :: r, t, hw, h => by
  rw [headsTs, Bool.or_eq_false_iff] at hw
  rcases List.mem_cons.1 h with rfl | h
  ·exact hw.1
  ·exact headsTs_mem hw.2 h
theorem mapE_put {f g : T → Tm × Int} {p : T → T} {l : List T} (h : ∀ t ∈ l, f t = g (p t)) : mapE f l = mapE g (l.map p) := by
 rw [mapE_congr h]
 clear h
 unfold mapE
 rw [List.find?_map]
 cases hf : l.find? ((fun t => decide ((g t).2 ≠ 0)) ∘ p) with
 | none =>
  have hf' : l.find? (fun t => decide ((g (p t)).2 ≠ 0)) = none := hf
  rw [hf']
  show (l.map (fun t => (g (p t)).1), (0 : Int)) = ((l.map p).map (fun t => (g t).1), 0)
  rw [List.map_map]; rfl
 | some t =>
  have hf' : l.find? (fun t => decide ((g (p t)).2 ≠ 0)) = some t := hf
  rw [hf']; rfl
theorem bindOf_one_ne {s r : List UInt8} {X : Tm} (h : r ≠ s) : bindOf [(s, X)] r = none := bindOf_none (by intro p hp; simp at hp; subst hp; exact fun e => h e.symm)
theorem bindOf_nil (r : List UInt8) : bindOf [] r = none := bindOf_none (fun p hp => by cases hp)
theorem bindOf_one (s : List UInt8) (X : Tm) : bindOf [(s, X)] s = some X := by unfold bindOf; simp
theorem isSym_put {s : List UInt8} {x h : T} (hf : formT h = true) (hh : (!h.list && decide (h.tok.2 = s)) = false) : isSymT (putT s x h) = isSymT h ∧ (isSymT h = true → putT s x h = h ∧ h.list = false) := by
 obtain ⟨l, tk, ks⟩ := h
 cases l with
 | true =>
  rw [formT, if_pos rfl, Bool.and_eq_true, decide_eq_true_iff] at hf
  have e : tk = (0, []) := hf.2
  subst e
  rw [putT, if_pos rfl]
  exact ⟨rfl, fun h => by simp [isSymT, T.tok] at h⟩
 | false =>
  have hne : tk.2 ≠ s := by
   have h2 : decide (tk.2 = s) = false := hh
   exact of_decide_eq_false h2
  rw [putT, if_neg (by decide), if_neg (fun h => hne h.2)]
  exact ⟨rfl, fun _ => ⟨rfl, rfl⟩⟩
theorem rd_put {l : List Sg} {s : List UInt8} {x : T} {X : Tm} (hs1 : s ≠ bTrue) (hs2 : s ≠ bFalse) (hx : ∀ n, hgt x ≤ n → rd barred l n [] x = (X, 0)) :
 ∀ (n m : Nat) (t : T), hgt t ≤ n → hgt (putT s x t) ≤ m → formT t = true → hasW bLet t = false → headsT s t = false → rd barred l n [(s, X)] t = rd barred l m [] (putT s x t) := by
 intro n
 induction n with
 | zero => intro m t h; exfalso; cases t; rw [hgt] at h; omega
 | succ n ih =>
  intro m t h1 h2 hf hw hd
  obtain ⟨tl, tk, ks⟩ := t
  cases tl with
  | true =>
   rw [formT, if_pos rfl, Bool.and_eq_true] at hf
   rw [hasW, if_pos rfl] at hw
   rw [headsT, Bool.or_eq_false_iff] at hd
   rw [hgt] at h1
   rw [putT, if_pos rfl, putTs_map] at h2 ⊢
   rw [hgt] at h2
   obtain ⟨m, rfl⟩ : ∃ k, m = k + 1 := ⟨m - 1, by omega⟩
   have hk : ∀ t ∈ ks, rd barred l n [(s, X)] t = rd barred l m [] (putT s x t) := fun t ht => by
    have a1 := hgts_mem ht
    have a2 := hgts_mem (List.mem_map_of_mem (f := putT s x) ht)
    obtain ⟨k, hk⟩ := List.mem_iff_getElem?.1 ht
    exact ih m t (by omega) (by omega) (formTs_at hf.1 hk) (hasWs_mem hw ht) (headsTs_mem hd.2 ht)
   rw [rd, rd]
   show rlist barred l (rd barred l n) [(s, X)] ks = rlist barred l (rd barred l m) [] (ks.map (putT s x))
   cases ks with
   | nil => rfl
   | cons h r =>
    have hr : mapE (rd barred l n [(s, X)]) r = mapE (rd barred l m []) (r.map (putT s x)) := mapE_put fun t ht => hk t (List.mem_cons_of_mem _ ht)
    obtain ⟨q1, q2⟩ := isSym_put (x := x) (formTs_at hf.1 (k := 0) rfl) hd.1
    rw [List.map_cons]
    unfold rlist
    simp only
    rw [q1]
    by_cases hsym : isSymT h = true
    ·obtain ⟨e, el⟩ := q2 hsym
     rw [e]
     have hs0 : ¬ (isSymT h = false) := by simp [hsym]
     have hne : h.tok.2 ≠ s := by
      have := hd.1
      simp only [headK, el] at this
      simpa using this
     have hnl : h.tok.2 ≠ bLet := by
      intro e2
      have := hasWs_mem hw (List.mem_cons_self ..)
      obtain ⟨a, b, c⟩ := h
      simp only [T.list] at el
      subst el
      rw [hasW, if_neg (by decide)] at this
      have h4 : b.1 = 4 := of_decide_eq_true hsym
      simp [T.tok] at e2
      simp [h4, e2] at this
     unfold rop rapp
     rw [hr, bindOf_one_ne hne, bindOf_nil]
     simp only [if_neg hs0, if_neg hnl]
    ·have hs0 : isSymT h = false := by simpa using hsym
     simp only [if_pos hs0]
  | false =>
   rw [formT, if_neg (by decide), Bool.and_eq_true, List.isEmpty_iff] at hf
   obtain rfl := hf.1
   rw [rd]
   show (if tk.1 = 3 then rnum tk.2 else if tk.1 = 4 then rsym (rd barred l n [(s, X)]) l [(s, X)] tk.2 else (K0, 10)) = _
   by_cases hp : tk.1 = 4 ∧ tk.2 = s
   ·have e : putT s x (.mk false tk []) = x := by rw [putT, if_neg Bool.false_ne_true, if_pos hp]
    rw [e] at h2 ⊢
    rw [hx m h2, if_neg (by rw [hp.1]; decide), if_pos hp.1, hp.2]
    unfold rsym
    rw [if_neg hs1, if_neg hs2, bindOf_one]
   ·have e : putT s x (.mk false tk []) = .mk false tk [] := by rw [putT, if_neg Bool.false_ne_true, if_neg hp]
    rw [e] at h2 ⊢
    rw [hgt] at h2
    obtain ⟨m, rfl⟩ : ∃ k, m = k + 1 := ⟨m - 1, by omega⟩
    rw [rd]
    show _ = (if tk.1 = 3 then rnum tk.2 else if tk.1 = 4 then rsym (rd barred l m []) l [] tk.2 else (K0, 10))
    by_cases h4 : tk.1 = 4
    ·have hne : tk.2 ≠ s := fun e => hp ⟨h4, e⟩
     unfold rsym
     rw [bindOf_one_ne hne, bindOf_nil]
     rfl
    ·simp only [if_neg h4]
theorem rd_fuel {l : List Sg} : ∀ (n m : Nat) (t : T), hgt t ≤ n → hgt t ≤ m → formT t = true → hasW bLet t = false → rd barred l n [] t = rd barred l m [] t := by
 intro n
 induction n with
 | zero => intro m t h; exfalso; cases t; rw [hgt] at h; omega
 | succ n ih =>
  intro m t h1 h2 hf hw
  obtain ⟨tl, tk, ks⟩ := t
  have h1' := h1
  rw [hgt] at h2
  obtain ⟨m, rfl⟩ : ∃ k, m = k + 1 := ⟨m - 1, by omega⟩
  cases tl with
  | true =>
   rw [formT, if_pos rfl, Bool.and_eq_true] at hf
   rw [hasW, if_pos rfl] at hw
   rw [hgt] at h1
   have hk : ∀ t ∈ ks, rd barred l n [] t = rd barred l m [] t := fun t ht => by
    have a1 := hgts_mem ht
    obtain ⟨k, hk⟩ := List.mem_iff_getElem?.1 ht
    exact ih m t (by omega) (by omega) (formTs_at hf.1 hk) (hasWs_mem hw ht)
   rw [rd, rd]
   show rlist barred l (rd barred l n) [] ks = rlist barred l (rd barred l m) [] ks
   cases ks with
   | nil => rfl
   | cons h r =>
    have hr : mapE (rd barred l n []) r = mapE (rd barred l m []) r := mapE_congr fun t ht => hk t (List.mem_cons_of_mem _ ht)
    unfold rlist
    simp only
    by_cases hsym : isSymT h = true
    ·have hnl : h.tok.2 ≠ bLet := by
      intro e2
      have := hasWs_mem hw (List.mem_cons_self ..)
      have hfh := formTs_at hf.1 (k := 0) (t := h) rfl
      obtain ⟨a, b, c⟩ := h
      have h4 : b.1 = 4 := of_decide_eq_true hsym
      cases a with
      | true =>
       rw [formT, if_pos rfl, Bool.and_eq_true, decide_eq_true_iff] at hfh
       rw [hfh.2] at h4
       simp at h4
      | false =>
       rw [hasW, if_neg (by decide)] at this
       simp [T.tok] at e2
       simp [h4, e2] at this
     unfold rop rapp
     have hs0 : ¬ (isSymT h = false) := by simp [hsym]
     rw [hr]
     simp only [if_neg hs0, if_neg hnl]
    ·have hs0 : isSymT h = false := by simpa using hsym
     simp only [if_pos hs0]
  | false =>
   rw [rd, rd]
   rfl
mutual
theorem putT_cnt {s : List UInt8} {x : T} : ∀ t, cnt (putT s x t) ≤ cnt t * cnt x
 | .mk l tk ks => by
  have hx : 1 ≤ cnt x := by cases x; rw [cnt]; omega
  rw [putT]
  split
  ·have := putTs_cnt (s := s) (x := x) ks
   rw [cnt, cnt, Nat.add_mul]; omega
  ·split
   ·rw [cnt, Nat.add_mul]; omega
   ·exact Nat.le_mul_of_pos_right _ hx
theorem putTs_cnt {s : List UInt8} {x : T} : ∀ ks, cnts (putTs s x ks) ≤ cnts ks * cnt x
 | [] => by rw [putTs, cnts]; omega
 | t :: r => by
  have h1 := putT_cnt (s := s) (x := x) t
  have h2 := putTs_cnt (s := s) (x := x) r
  rw [putTs, cnts, cnts, Nat.add_mul]; omega
end
mutual
theorem putT_dep {s : List UInt8} {x : T} : ∀ t, dep (putT s x t) ≤ dep t + dep x
 | .mk l tk ks => by
  rw [putT]
  split
  ·rename_i h
   have := putTs_dep (s := s) (x := x) ks
   rw [dep, dep, if_pos rfl, if_pos h]; omega
  ·split
   ·omega
   ·omega
theorem putTs_dep {s : List UInt8} {x : T} : ∀ ks, deps (putTs s x ks) ≤ deps ks + dep x
 | [] => by rw [putTs, deps]; omega
 | t :: r => by
  have h1 := putT_dep (s := s) (x := x) t
  have h2 := putTs_dep (s := s) (x := x) r
  rw [putTs, deps, deps]; omega
end
mutual
theorem putT_form {s : List UInt8} {x : T} (hx : formT x = true) : ∀ t, formT t = true → formT (putT s x t) = true
 | .mk l tk ks, h => by
  rw [putT]
  split
  ·rename_i hl
   rw [formT, if_pos hl, Bool.and_eq_true] at h
   rw [formT, if_pos rfl, Bool.and_eq_true]
   exact ⟨putTs_form hx ks h.1, by simp⟩
  ·split
   ·exact hx
   ·exact h
theorem putTs_form {s : List UInt8} {x : T} (hx : formT x = true) : ∀ ks, formTs ks = true → formTs (putTs s x ks) = true
 | [], _ => by rw [putTs, formTs]
 | t :: r, h => by
  rw [formTs, Bool.and_eq_true] at h
  rw [putTs, formTs, Bool.and_eq_true]
  exact ⟨putT_form hx t h.1, putTs_form hx r h.2⟩
end
mutual
theorem putT_txt {s : List UInt8} {x : T} (hx : txtN x = true) : ∀ t, txtN t = true → txtN (putT s x t) = true
 | .mk l tk ks, h => by
  rw [putT]
  split
  ·rw [txtN, Bool.and_eq_true] at h
   rw [txtN, Bool.and_eq_true]
   exact ⟨by simp, putTs_txt hx ks h.2⟩
  ·split
   ·exact hx
   ·exact h
theorem putTs_txt {s : List UInt8} {x : T} (hx : txtN x = true) : ∀ ks, txtNs ks = true → txtNs (putTs s x ks) = true
 | [], _ => by rw [putTs, txtNs]
 | t :: r, h => by
  rw [txtNs, Bool.and_eq_true] at h
  rw [putTs, txtNs, Bool.and_eq_true]
  exact ⟨putT_txt hx t h.1, putTs_txt hx r h.2⟩
end
def letT (s : List UInt8) (t body : T) : T := LI [SY bLet, LI [LI [SY s, t]], body]
theorem let_isU {s : List UInt8} {t body : T} (hs : leafOk (4, s) = true) (ht : isU t = true) (hb : isU body = true) (hc : cnt t + cnt body ≤ 24) (hd : dep t ≤ 10 ∧ dep body ≤ 10) : isU (letT s t body) = true := by
 obtain ⟨a1, a2, a3⟩ := isU_parts ht
 obtain ⟨b1, b2, b3⟩ := isU_parts hb
 have k1 : leafOk (4, bLet) = true := by kernel_rfl
 unfold isU letT
 simp [cnt, cnts, dep, deps, formT, formTs, hs, k1, a3, b3]
 exact ⟨decide_eq_true (by omega), by omega⟩
theorem put_isU {s : List UInt8} {t body : T} (ht : isU t = true) (hb : isU body = true) (hc : cnt t + cnt body ≤ 24) (hd : dep t ≤ 10 ∧ dep body ≤ 10) : isU (putT s t body) = true := by
 obtain ⟨a1, a2, a3⟩ := isU_parts ht
 obtain ⟨b1, b2, b3⟩ := isU_parts hb
 have h1 := putT_cnt (s := s) (x := t) body
 have h2 := putT_dep (s := s) (x := t) body
 have h3 : cnt body * cnt t ≤ 24 * 24 / 4 + 256 := by
  have e1 : cnt body ≤ 24 := by omega
  have e2 : cnt t ≤ 24 - cnt body := by omega
  have : cnt body * cnt t ≤ cnt body * (24 - cnt body) := Nat.mul_le_mul_left _ e2
  have hh : ∀ k : Fin 25, k.val * (24 - k.val) ≤ 144 := by decide
  have := hh ⟨cnt body, by omega⟩
  simp only at this
  omega
 unfold isU
 rw [Bool.and_eq_true, Bool.and_eq_true, decide_eq_true_iff, decide_eq_true_iff]
 exact ⟨by omega, by omega, putT_form a3 _ b3⟩
/-- What the law says of the three terms. -/
theorem lets_said {l : List Sg} {s : List UInt8} {t body : T} (hs : leafOk (4, s) = true) (hr : resv s = false) (ht : isU t = true) (hb : isU body = true) (hc : cnt t + cnt body ≤ 24) (hd : dep t ≤ 10 ∧ dep body ≤ 10) (hwt : hasW bLet t = false) (hwb : hasW bLet body = false) :
 ((rTerm barred l t).2 ≠ 0 → (rTerm barred l (letT s t body)).2 = (rTerm barred l t).2) ∧ ((rTerm barred l t).2 = 0 → headsT s body = false → rTerm barred l (letT s t body) = rTerm barred l (putT s t body)) := by
 obtain ⟨a1, a2, a3⟩ := isU_parts ht
 obtain ⟨b1, b2, b3⟩ := isU_parts hb
 have ht61 := hgt_isU ht
 have dt : hgt t ≤ 11 := by have := hgt_dep t a3; omega
 have db : hgt body ≤ 11 := by have := hgt_dep body b3; omega
 have hu := put_isU (s := s) ht hb hc hd
 have hpu := hgt_isU hu
 have hfu : ∀ n, hgt t ≤ n → rd barred l n [] t = rTerm barred l t := fun n hn => by
  unfold rTerm
  rw [ht, if_pos rfl]
  exact rd_fuel n 61 t hn (by omega) a3 hwt
 have hfree : freeN [s] = true := by unfold freeN freeA freeA; rw [hr]; rfl
 have hlet : rTerm barred l (letT s t body) = if (rTerm barred l t).2 ≠ 0 then (K0, (rTerm barred l t).2) else rd barred l 60 [(s, (rTerm barred l t).1)] body := by
  have e1 : rTerm barred l (letT s t body) = rlet (rd barred l 60) [] [LI [LI [SY s, t]], body] := by
   unfold rTerm
   rw [let_isU hs ht hb hc hd, if_pos rfl]
   rfl
  rw [e1]
  have hm : mapE (rd barred l 60 []) [t] = if (rTerm barred l t).2 ≠ 0 then ([], (rTerm barred l t).2) else ([(rTerm barred l t).1], 0) := by
   rw [← hfu 60 (by omega)]
   by_cases h0 : (rd barred l 60 [] t).2 = 0
   ·rw [if_neg (by simp [h0]), mapE_ok (by intro y hy; simp at hy; subst hy; exact h0)]; rfl
   ·rw [if_pos h0, mapE_err (k := 0) (t := t) (by simp) rfl h0]
  unfold rlet
  have p1 : pairedT (LI [LI [SY s, t]]) = true := rfl
  have p2 : (LI [LI [SY s, t]]).kids.map pName = [s] := rfl
  have p3 : (LI [LI [SY s, t]]).kids.map pTree = [t] := rfl
  simp only [p1, p2, p3, hfree, hm]
  by_cases h0 : (rTerm barred l t).2 = 0
  ·simp [h0]
  ·simp [h0]
 constructor
 ·intro h0
  rw [hlet, if_pos h0]
 ·intro h0 hh
  rw [hlet, if_neg (by simp [h0])]
  have n1 : s ≠ bTrue := by rintro rfl; revert hr; decide +kernel
  have n2 : s ≠ bFalse := by rintro rfl; revert hr; decide +kernel
  have := rd_put (l := l) (x := t) (X := (rTerm barred l t).1) n1 n2 (fun n hn => by rw [hfu n hn]; exact Prod.ext rfl h0) 60 61 body (by omega) (by omega) b3 hwb hh
  rw [this]
  unfold rTerm
  rw [hu, if_pos rfl]
end M
end Go.Proofs.YtgkofipifjfjhaaGreatDoor.Q
