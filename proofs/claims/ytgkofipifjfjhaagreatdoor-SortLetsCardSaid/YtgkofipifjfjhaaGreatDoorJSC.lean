/-
  Layer 11, mathematics: terms out of trees.
-/
import Derived.Test.YtgkofipifjfjhaaGreatDoorJSA
import Derived.Test.YtgkofipifjfjhaaGreatDoorJKC
import Derived.Test.YtgkofipifjfjhaaGreatDoorJSB
import Derived.Test.YtgkofipifjfjhaaGreatDoorJTN
import Derived.Test.YtgkofipifjfjhaaGreatDoorJTB
import Derived.Test.YtgkofipifjfjhaaGreatDoorJTM
import Derived.Test.YtgkofipifjfjhaaGreatDoorJKF
import Derived.Test.YtgkofipifjfjhaaGreatDoorJZI
namespace Go.Proofs.YtgkofipifjfjhaaGreatDoor.Q
set_option linter.unusedSimpArgs false
set_option linter.unusedVariables false
namespace M
/-- The terms that trees tell, else the first one's error that has one. -/
def mapE {α : Type} (f : α → Tm × Int) (l : List α) : List Tm × Int :=
 match l.find? fun t => decide ((f t).2 ≠ 0) with
 | some t => ([], (f t).2)
 | none => (l.map fun t => (f t).1, 0)
theorem mapE_ok {α : Type} {f : α → Tm × Int} {l : List α} (h : ∀ t ∈ l, (f t).2 = 0) : mapE f l = (l.map fun t => (f t).1, 0) := by
 unfold mapE
 rw [List.find?_eq_none.2 fun t ht => by simp [h t ht]]
theorem mapE_err {α : Type} {f : α → Tm × Int} {l : List α} {k : Nat} {t : α} (h : ∀ u ∈ l.take k, (f u).2 = 0) (hk : l[k]? = some t) (he : (f t).2 ≠ 0) : mapE f l = ([], (f t).2) := by
 have e : l = l.take k ++ (t :: l.drop (k + 1)) := by
  obtain ⟨hlt, ht⟩ := List.getElem?_eq_some_iff.1 hk
  rw [← ht, ← List.drop_eq_getElem_cons hlt, List.take_append_drop]
 have hf : l.find? (fun t => decide ((f t).2 ≠ 0)) = some t := by
  rw [e, List.find?_append, List.find?_eq_none.2 fun u hu => by simp [h u hu]]
  simp [he]
 unfold mapE
 rw [hf]
theorem mapE_len {α : Type} {f : α → Tm × Int} {l : List α} (h : (mapE f l).2 = 0) : (∀ t ∈ l, (f t).2 = 0) ∧ (mapE f l).1 = l.map fun t => (f t).1 := by
 unfold mapE at h ⊢
 cases hf : l.find? fun t => decide ((f t).2 ≠ 0) with
 | some t =>
  rw [hf] at h
  have := List.find?_some hf
  simp at this
  exact absurd h this
 | none =>
  refine ⟨fun t ht => ?_, rfl⟩
  have := List.find?_eq_none.1 hf t ht
  simpa using this
theorem mapE_congr {α : Type} {f g : α → Tm × Int} {l : List α} (h : ∀ t ∈ l, f t = g t) : mapE f l = mapE g l := by
 by_cases ha : ∀ t ∈ l, (f t).2 = 0
 ·rw [mapE_ok ha, mapE_ok fun t ht => by rw [← h t ht]; exact ha t ht]
  congr 1
  exact List.map_congr_left fun t ht => by rw [h t ht]
 ·have : ∃ t, l.find? (fun t => decide ((f t).2 ≠ 0)) = some t := by
   cases hf : l.find? fun t => decide ((f t).2 ≠ 0) with
   | some t => exact ⟨t, rfl⟩
   | none =>
    refine absurd (fun t ht => ?_) ha
    have := List.find?_eq_none.1 hf t ht
    simpa using this
  obtain ⟨t, ht⟩ := this
  have hm := List.mem_of_find?_eq_some ht
  have hg : l.find? (fun t => decide ((g t).2 ≠ 0)) = some t := by
   rw [← ht]
   clear ht hm ha
   induction l with
   | nil => rfl
   | cons x r ih =>
    rw [List.find?_cons, List.find?_cons, h x (List.mem_cons_self ..), ih fun y hy => h y (List.mem_cons_of_mem _ hy)]
  unfold mapE
  rw [ht, hg]
  show ([], (f t).2) = ([], (g t).2)
  rw [h t hm]
/-- What a number's text tells. -/
def rnum (s : List UInt8) : Tm × Int := if M.perr s ≠ 0 then (K0, M.perr s) else (knumT (M.pval s), 0)
def kboolT (b : Bool) : Tm := .mk (if b = true then 2 else 3) false [] [] 1 []
/-- What a name of however many terms tells. -/
def rapp (f : T → Tm × Int) (l : List Sg) (s : List UInt8) (ks : List T) : Tm × Int :=
 match sgOf l s with
 | none => (K0, 16)
 | some g => if (mapE f ks).2 ≠ 0 then (K0, (mapE f ks).2) else kapp g (mapE f ks).1
def rop (f : T → Tm × Int) (op : Nat) (ks : List T) : Tm × Int := if (mapE f ks).2 ≠ 0 then (K0, (mapE f ks).2) else kmake (op : Int) (mapE f ks).1
def rsym (f : T → Tm × Int) (l : List Sg) (b : List Bd) (s : List UInt8) : Tm × Int :=
 if s = bTrue then (kboolT true, 0) else if s = bFalse then (kboolT false, 0) else match bindOf b s with | some t => (t, 0) | none => rapp f l s []
def rlet (f : List Bd → T → Tm × Int) (b : List Bd) (ks : List T) : Tm × Int :=
 match ks with
 | [p, t] => if pairedT p = false then (K0, 10) else if freeN (p.kids.map pName) = false then (K0, 16) else
  if (mapE (f b) (p.kids.map pTree)).2 ≠ 0 then (K0, (mapE (f b) (p.kids.map pTree)).2) else f (b ++ (p.kids.map pName).zip (mapE (f b) (p.kids.map pTree)).1) t
 | _ => (K0, 10)
/-- What a list tells; hb: the heads that are told nothing else but ErrName. -/
def rlist (hb : List UInt8 → Bool) (l : List Sg) (f : List Bd → T → Tm × Int) (b : List Bd) (ks : List T) : Tm × Int :=
 match ks with
 | [] => (K0, 10)
 | h :: r => if isSymT h = false then (K0, 10) else if opOf h.tok.2 ≠ 0 then rop (f b) (opOf h.tok.2) r else if h.tok.2 = bLet then rlet f b r
  else if hb h.tok.2 = true then (K0, 16) else if (bindOf b h.tok.2).isSome then (K0, 10) else rapp (f b) l h.tok.2 r
def rd (hb : List UInt8 → Bool) (l : List Sg) : Nat → List Bd → T → Tm × Int
 | 0, _, _ => (K0, 10)
 | n + 1, b, t => if t.list = true then rlist hb l (rd hb l n) b t.kids else if t.tok.1 = 3 then rnum t.tok.2 else if t.tok.1 = 4 then rsym (rd hb l n b) l b t.tok.2 else (K0, 10)
/-- What Term tells. -/
def rTerm (hb : List UInt8 → Bool) (l : List Sg) (t : T) : Tm × Int := if isU t = true then rd hb l 61 [] t else (K0, 10)
theorem pow9 {k n : Nat} (h : n ≤ 9 * k) : 10 ^ n ≤ 1000000000 ^ k := by
 rw [show (1000000000 : Nat) = 10 ^ 9 from rfl, ← Nat.pow_mul]
 exact Nat.pow_le_pow_right (by decide) h
theorem perr_zero {s : List UInt8} (h : M.perr s = 0) : (M.limbs (M.pval s).natAbs).length ≤ 40 := by
 unfold M.perr at h
 split at h
 ·cases h
 rename_i hb
 split at h
 ·cases h
 rename_i hl
 have hn : M.numeral (M.inside s).1 = true := by
  unfold M.bad at hb
  cases hq : M.numeral (M.inside s).1 with
  | true => rfl
  | false => rw [hq] at hb; simp at hb
 have hd : (M.inside s).1.all M.digit = true := by
  rcases he : (M.inside s).1 with _ | ⟨b, r⟩
  ·simp
  ·rw [he, M.numeral] at hn
   split at hn
   ·rename_i hb48
    have : r = [] := by simpa using hn
    subst this
    obtain rfl : b = 48 := UInt8.toNat_inj.1 hb48
    decide
   ·exact hn
 have hlt : M.num (M.inside s).1 < 1000000000 ^ 40 := by
  exact Nat.lt_of_lt_of_le (M.num_lt hd) (pow9 (by omega))
 have e : (M.pval s).natAbs = M.num (M.inside s).1 := by
  unfold M.pval
  rw [if_neg (by simp [hb]; omega)]
  split <;> omega
 rw [e]
 exact M.limbs_length_le hlt
end M
end Go.Proofs.YtgkofipifjfjhaaGreatDoor.Q

/-
  Layer 11, mathematics: what is read is a term.
-/
namespace Go.Proofs.YtgkofipifjfjhaaGreatDoor.Q
set_option linter.unusedSimpArgs false
set_option linter.unusedVariables false
namespace M
/-- An answer: a term, or an error and nothing. -/
def okR (r : Tm × Int) : Prop := (r.2 = 0 → kIs r.1 = true ∧ kfew r.1 = true) ∧ (r.2 ≠ 0 → r.1 = K0)
theorem okR_err {e : Int} (h : e ≠ 0) : okR (K0, e) := ⟨fun h' => absurd h' h, fun _ => rfl⟩
theorem okR_good {t : Tm} (h : kIs t = true) (hf : kfew t = true) : okR (t, 0) := ⟨fun _ => ⟨h, hf⟩, fun h => absurd rfl h⟩
theorem kfew_K0 : kfew K0 = true := by rw [K0, kfew]; simp [kfews]
theorem okR.few {r : Tm × Int} (h : okR r) : kfew r.1 = true := by
 by_cases h0 : r.2 = 0
 ·exact (h.1 h0).2
 ·rw [h.2 h0]; exact kfew_K0
theorem kis_of {t : Tm} (h : kIs t = true) : kis t = true := by
 unfold kIs at h
 rw [Bool.and_eq_true] at h
 exact h.2
theorem kfews_mem : ∀ {l : List Tm}, (∀ t ∈ l, kfew t = true) → kfews l = true
 | [], _ => rfl
 | t :: r, h => by
  rw [kfews, h t (List.mem_cons_self ..), Bool.true_and]
  exact kfews_mem fun u hu => h u (List.mem_cons_of_mem _ hu)
theorem kmake_okR {op : Int} {l : List Tm} (hf : kfews l = true) : okR (kmake op l) := by
 refine ⟨fun h => ?_, kmake_ne⟩
 obtain ⟨e, ho, ha, hi, hc⟩ := kmake_ok h
 rw [e]
 refine ⟨kIs_made ho ha hi hc, ?_⟩
 show kfew (.mk op false [] [] (kres op l) l) = true
 rw [kfew]; simp [hf]
theorem kapp_okR {s : Sg} {l : List Tm} (hf : kfews l = true) : okR (kapp s l) := by
 unfold kapp
 split
 ·exact okR_err (by decide)
 rename_i h1
 split
 ·exact okR_err (by decide)
 rename_i h2
 split
 ·exact okR_err (by decide)
 rename_i h3
 split
 ·exact okR_err (by decide)
 rename_i h4
 split
 ·exact okR_err (by decide)
 rename_i h5
 have hs : ksig s = true := by simpa using h1
 unfold ksig at hs
 simp only [Bool.and_eq_true, decide_eq_true_iff] at hs
 obtain ⟨-, hsym, hl3, hr⟩ := hs
 have hi : kIss l = true := by simpa using h3
 have hnm : s.name.length ≤ 20 := by
  unfold isSym at hsym
  simp only [Bool.and_eq_true, decide_eq_true_iff] at hsym
  exact hsym.2.1
 have hlen : l.length = s.args.length := by simpa using h2
 refine okR_good ?_ (by rw [kfew]; simp [hf]; omega)
 unfold kIs
 rw [Bool.and_eq_true, decide_eq_true_iff, kcnt, kis, kIss_kiss hi]
 refine ⟨by omega, ?_⟩
 unfold khead
 rw [if_neg (by decide), if_neg (by decide), if_pos rfl, hsym]
 simp [nil0_eq, hlen, hl3]
 exact hr
theorem kIs_num (Z : Int) : kIs (knumT Z) = true := by
 unfold kIs knumT
 rw [Bool.and_eq_true, decide_eq_true_iff, kcnt, kcnts, kis, kiss]
 refine ⟨by decide, ?_⟩
 unfold khead
 rw [if_pos rfl, M.isZ_of]
 simp
theorem kIs_bool (b : Bool) : kIs (kboolT b) = true := by cases b <;> decide +kernel
theorem kfew_bool (b : Bool) : kfew (kboolT b) = true := by cases b <;> (rw [kboolT, kfew]; simp [kfews])
theorem rnum_ok (s : List UInt8) : okR (rnum s) := by
 unfold rnum
 by_cases h : M.perr s ≠ 0
 ·rw [if_pos h]; exact okR_err h
 ·rw [if_neg h]
  refine okR_good (kIs_num _) ?_
  rw [knumT, kfew]
  simp [kfews, perr_zero (by simpa using h)]
theorem mapE_ok_all {α : Type} {f : α → Tm × Int} {l : List α} (h : ∀ t ∈ l, okR (f t)) : (∀ t ∈ (mapE f l).1, kIs t = true ∧ kfew t = true) := by
 intro t ht
 by_cases h0 : (mapE f l).2 = 0
 ·obtain ⟨h1, h2⟩ := mapE_len h0
  rw [h2] at ht
  obtain ⟨u, hu, rfl⟩ := List.mem_map.1 ht
  exact (h u hu).1 (h1 u hu)
 ·unfold mapE at h0 ht
  cases hf : l.find? fun t => decide ((f t).2 ≠ 0) with
  | some u => rw [hf] at ht; simp at ht
  | none => rw [hf] at h0; exact absurd rfl h0
theorem mapE_few {α : Type} {f : α → Tm × Int} {l : List α} (h : ∀ t ∈ l, okR (f t)) : kfews (mapE f l).1 = true := kfews_mem fun t ht => (mapE_ok_all h t ht).2
theorem rapp_ok {f : T → Tm × Int} (hf : ∀ t, okR (f t)) (l : List Sg) (s : List UInt8) (ks : List T) : okR (rapp f l s ks) := by
 unfold rapp
 split
 ·exact okR_err (by decide)
 ·split
  ·rename_i h; exact okR_err h
  ·exact kapp_okR (mapE_few fun t _ => hf t)
theorem rop_ok {f : T → Tm × Int} (hf : ∀ t, okR (f t)) (op : Nat) (ks : List T) : okR (rop f op ks) := by
 unfold rop
 split
 ·rename_i h; exact okR_err h
 ·exact kmake_okR (mapE_few fun t _ => hf t)
/-- Names stand for terms. -/
def goodB (b : List Bd) : Prop := ∀ p ∈ b, kIs p.2 = true ∧ kfew p.2 = true
theorem goodB_nil : goodB [] := fun _ h => by cases h
theorem goodB.find {b : List Bd} (h : goodB b) {s : List UInt8} {t : Tm} (hs : bindOf b s = some t) : kIs t = true ∧ kfew t = true := by
 unfold bindOf at hs
 obtain ⟨p, hp, rfl⟩ := Option.map_eq_some_iff.1 hs
 exact h p (by simpa using List.mem_of_find?_eq_some hp)
theorem goodB.zip {b : List Bd} (h : goodB b) (ns : List (List UInt8)) {ts : List Tm} (ht : ∀ t ∈ ts, kIs t = true ∧ kfew t = true) : goodB (b ++ ns.zip ts) := by
 intro p hp
 rcases List.mem_append.1 hp with hp | hp
 ·exact h p hp
 ·exact ht _ (List.of_mem_zip (show (p.1, p.2) ∈ ns.zip ts from hp)).2
theorem rsym_ok {f : T → Tm × Int} (hf : ∀ t, okR (f t)) (l : List Sg) {b : List Bd} (hb : goodB b) (s : List UInt8) : okR (rsym f l b s) := by
 unfold rsym
 split
 ·exact okR_good (kIs_bool _) (kfew_bool _)
 split
 ·exact okR_good (kIs_bool _) (kfew_bool _)
 split
 ·rename_i h; exact okR_good (hb.find h).1 (hb.find h).2
 ·exact rapp_ok hf l s []
theorem rlet_ok {f : List Bd → T → Tm × Int} (hf : ∀ b t, goodB b → okR (f b t)) {b : List Bd} (hb : goodB b) (ks : List T) : okR (rlet f b ks) := by
 unfold rlet
 split
 ·split
  ·exact okR_err (by decide)
  split
  ·exact okR_err (by decide)
  split
  ·rename_i h; exact okR_err h
  ·exact hf _ _ (hb.zip _ (mapE_ok_all fun t _ => hf b t hb))
 ·exact okR_err (by decide)
theorem rlist_ok {hd : List UInt8 → Bool} {l : List Sg} {f : List Bd → T → Tm × Int} (hf : ∀ b t, goodB b → okR (f b t)) {b : List Bd} (hb : goodB b) (ks : List T) : okR (rlist hd l f b ks) := by
 unfold rlist
 split
 ·exact okR_err (by decide)
 split
 ·exact okR_err (by decide)
 split
 ·exact rop_ok (fun t => hf b t hb) _ _
 split
 ·exact rlet_ok hf hb _
 split
 ·exact okR_err (by decide)
 split
 ·exact okR_err (by decide)
 ·exact rapp_ok (fun t => hf b t hb) _ _ _
theorem rd_ok (hd : List UInt8 → Bool) (l : List Sg) : ∀ (n : Nat) (b : List Bd) (t : T), goodB b → okR (rd hd l n b t)
 | 0, _, _, _ => okR_err (by decide)
 | n + 1, b, t, hb => by
  have ih := rd_ok hd l n
  rw [rd]
  split
  ·exact rlist_ok ih hb _
  split
  ·exact rnum_ok _
  split
  ·exact rsym_ok (fun t => ih b t hb) l hb _
  ·exact okR_err (by decide)
end M
end Go.Proofs.YtgkofipifjfjhaaGreatDoor.Q

/-
  Layer 11, words: terms among some blocks; lists of terms, trees, names, bindings of the call's own; bindings and names in memory.
-/
namespace Go.Proofs.YtgkofipifjfjhaaGreatDoor.Q
set_option linter.unusedSimpArgs false
set_option linter.unusedVariables false
open Go.RowKit

/-- A call gives a term among the blocks p or on new memory, and an error. -/
def GivesTmG (p : Nat → Prop) [DecidablePred p] (w : World) (r : M.Tm × Int) (e : Ending) (w' : World) : Prop := ∃ v, e = .returned (.tuple #[v, .int .i64 r.2]) ∧ IsTm (gp (fun b => p b ∨ w.heap.size ≤ b) w') r.1 v ∧ Ext w w'
theorem give_put {p : Nat → Prop} [DecidablePred p] {B S k : Nat} {w1 : World} {t : M.Tm} {v : Value} {x0 x1 x2 x3 x4 x5 : Value} (h : IsTm (gp (fun b => p b ∨ S ≤ b) w1) t v) (hp : ∀ b, p b → b < B) (hB : B ≤ k) (hS : k < S) : IsTm (gp (fun b => p b ∨ B ≤ b) (put6 w1 k x0 x1 x2 x3 x4 x5)) t v :=
 h.sub (gp_mono (by simp) fun b h1 h2 => ⟨h2.imp id (fun h => by omega), put6_kept.2 b h1 (by
  rcases h2 with h2 | h2
  ·have := hp b h2; simp; omega
  ·simp; omega)⟩)
theorem give_new {p : Nat → Prop} [DecidablePred p] {S : Nat} {w1 : World} {t : M.Tm} {v : Value} (h : IsTm (gp (fun b => S ≤ b) w1) t v) : IsTm (gp (fun b => p b ∨ S ≤ b) w1) t v :=
 h.sub (gp_mono (Nat.le_refl _) fun b _ h2 => ⟨.inr h2, rfl⟩)
theorem gp_ext {p : Nat → Prop} [DecidablePred p] {w w' : World} (e : Ext w w') : Sub (gp p w) (gp p w') := gp_mono e.size fun k hk h => ⟨h, e.block k hk⟩
/-- Terms among the blocks p or from B on, beside the list's own block. -/
abbrev besP (p : Nat → Prop) (B : Nat) (v : Value) (k : Nat) : Prop := (p k ∨ B ≤ k) ∧ v.ownBlock ≠ some k
def OwnTG (p : Nat → Prop) [DecidablePred p] (B : Nat) (w : World) (v : Value) (l : List M.Tm) : Prop := ∃ xs, w.ownsRow B 33 6 v l.length xs ∧ TmC (gp (besP p B v) w) l xs
theorem OwnTG.nil (p : Nat → Prop) [DecidablePred p] (B : Nat) (w : World) : OwnTG p B w (.slice none 0 0) [] := ⟨[], World.ownsRow_nil w _ _ 6, rfl⟩
theorem OwnTG.up {p : Nat → Prop} [DecidablePred p] {B : Nat} {w w' : World} {v : Value} {l : List M.Tm} (h : OwnTG p B w v l) (e : Ext w w') : OwnTG p B w' v l := by
 obtain ⟨xs, h1, h2⟩ := h
 exact ⟨xs, kframe h1 (fun b _ hb => e.block b hb), h2.sub (gp_ext e)⟩
theorem OwnTG.shape {p : Nat → Prop} [DecidablePred p] {B : Nat} {w : World} {v : Value} {l : List M.Tm} (h : OwnTG p B w v l) : ∃ A c, v = .slice A l.length c ∧ l.length ≤ c ∧ c ≤ maxLen := by
 obtain ⟨xs, h1, _⟩ := h
 exact kshape h1
theorem OwnTG.tms {p : Nat → Prop} [DecidablePred p] {B : Nat} {w : World} {v : Value} {l : List M.Tm} (h : OwnTG p B w v l) : Tms (gp (fun b => p b ∨ B ≤ b) w) l v := by
 obtain ⟨xs, h1, h2⟩ := h
 have hs : Sub (gp (besP p B v) w) (gp (fun b => p b ∨ B ≤ b) w) := gp_mono (Nat.le_refl _) fun k _ hk => ⟨hk.1, rfl⟩
 have hh := h1
 obtain ⟨hl, h3⟩ := h1
 rcases h3 with ⟨rfl, h0⟩ | ⟨b, cap, cur, rfl, hb, hc, hc1, hm, _, _⟩
 ·obtain rfl : l = [] := List.eq_nil_of_length_eq_zero h0
  exact Tms.nil _
 ·refine Tms.mk_ ⟨_, _, _, rfl, rfl, hc1, hm, fun hn => ⟨_, rfl, by rw [gp_size]; exact (Array.getElem?_eq_some_iff.1 hc).1, fun k t hk => ?_⟩⟩
  obtain ⟨N, nn, nc, A, n, c, ⟨g0, g1, g2, g3, g4, g5⟩, g6, g7⟩ := h2.get k t hk
  have key : ∀ j u, xs[j]? = some u → (gp (fun b => p b ∨ B ≤ b) w).cell? ((⟨b, 0, none⟩ : Addr).add j) = some u := fun j u hu => gp_cell.2 ⟨by rw [addr_block]; exact .inr hb, World.ownsRow.cells hh (g := b) rfl _ _ hu⟩
  have cell : ∀ {j : Nat} {u : Value}, xs[k * 6 + j]? = some u → (gp (fun b => p b ∨ B ≤ b) w).cell? (((⟨b, 0, none⟩ : Addr).add (k * 6)).add j) = some u := fun hj => by
   rw [Addr.add_add]; exact key _ _ hj
  obtain ⟨op, g, ls, nm, so, ks⟩ := t
  exact tmAt_mk.2 ⟨N, nn, nc, _, ⟨⟨key _ _ g0, cell g1, cell g2⟩, cell g3, cell g4, cell g5⟩, g6.sub hs, g7.sub hs⟩
/-- A term that lies beside all that was made from B on. -/
theorem OwnTG.far {p : Nat → Prop} [DecidablePred p] {B S : Nat} {w w1 : World} {v : Value} {l : List M.Tm} {t : M.Tm} {u : Value} (h : OwnTG p B w v l) (hp : ∀ b, p b → b < B) (hB : B ≤ w.heap.size) (hS : w.heap.size ≤ S) (hu : IsTm (gp (fun b => p b ∨ S ≤ b) w1) t u) : IsTm (gp (besP p B v) w1) t u := by
 obtain ⟨xs, h1, _⟩ := h
 refine hu.sub (gp_mono (Nat.le_refl _) fun k _ hk => ⟨⟨hk.imp id (fun h => by omega), fun e => ?_⟩, rfl⟩)
 have h2 := World.ownsRow.lt h1 k e
 rcases hk with hk | hk
 ·have := hp k hk; omega
 ·omega
theorem appTG_run {p : Nat → Prop} [DecidablePred p] {B : Nat} {w : World} {v : Value} {l : List M.Tm} {op : Int} {g : Bool} {ls : List Nat} {nm : List UInt8} {so : Int} {ks : List M.Tm} {N A : Option Addr} {nn nc n c gL : Nat} {tL : TypeId} (h : OwnTG p B w v l)
 (hL : Box w gL #[.int .i64 op, .bool g, .slice N nn nc, str nm, .int .i64 so, .slice A n c] tL) (hn : LNum (gp (besP p B v) w) (.slice N nn nc) ls) (hk : Tms (gp (besP p B v) w) ks (.slice A n c)) (hlen : l.length + 1 ≤ 1000000) (hbase : B ≤ w.heap.size) (ty : TypeId) :
 ∃ v' w', (Builtin.append_ #[31, 31] ty #[v, .slice (some ⟨gL, 0, none⟩) 1 1]).run Tryz.prog w = .ok v' w' ∧ OwnTG p B w' v' (l ++ [.mk op g ls nm so ks]) ∧ Below B w w' := by
 obtain ⟨i0, hi, hz0, hz1, hz2⟩ := info_parts info_tm8
 obtain ⟨xs, ho, hs⟩ := h
 obtain ⟨v', w', hrun, ho', hg, _, hv'⟩ := run_append_own_at (P := Tryz.prog) w B 31 ty 33 i0 _ 6 88 Tryz.underlying31 hi hz0 hz1 hz2 rfl (by decide) v l.length xs ho ⟨gL, 0, none⟩ 1 1 [.int .i64 op, .bool g, .slice N nn nc, str nm, .int .i64 so, .slice A n c] rfl (by
  intro j u hu
  rw [Addr.add_lit, Nat.zero_add]
  match j, hu with
  | 0, hu => simp at hu; subst hu; exact hL.k 0
  | 1, hu => simp at hu; subst hu; exact hL.k 1
  | 2, hu => simp at hu; subst hu; exact hL.k 2
  | 3, hu => simp at hu; subst hu; exact hL.k 3
  | 4, hu => simp at hu; subst hu; exact hL.k 4
  | 5, hu => simp at hu; subst hu; exact hL.k 5) (by intro u hu; simp at hu; rcases hu with rfl | rfl | rfl | rfl | rfl | rfl <;> rfl) (by unfold maxLen; omega) (by omega) hbase
 have hbel : Below B w w' := (Below.refl _ _).grown hg hbase fun k hk => (World.ownsRow.lt ho k hk).1
 refine ⟨v', w', hrun, ⟨_, by rw [List.length_append]; exact ho', ?_⟩, hbel⟩
 have hsub : Sub (gp (besP p B v) w) (gp (besP p B v') w') := gp_mono hbel.size fun k hk hq => ⟨⟨hq.1, fun e => by
  rcases hv' with e' | e'
  ·rw [e'] at e; exact hq.2 e
  ·rw [e'] at e; injection e with e; omega⟩, hg.block k hk (Ne.symm hq.2)⟩
 exact (hs.sub hsub).app ⟨N, nn, nc, A, n, c, [], rfl, hn.sub hsub, hk.sub hsub, rfl⟩
end Go.Proofs.YtgkofipifjfjhaaGreatDoor.Q

/-
  Contracts of package sort: within (a scope with more names).
-/
namespace Go.Proofs.YtgkofipifjfjhaaGreatDoor.Q
set_option linter.unusedSimpArgs false
set_option linter.unusedVariables false
open Go.RowKit

theorem wpList_appB {base : Nat} {V w : World} {ops : Array Oper} {rest : List Oper} {o : Oper} {a : Act} {Q : Exit → Act → World → Prop} (hgd : o.guard = none) (s x : Operand)
 (ho : o.op = .call { callee := .builtin .append, args := #[s, x], argTypes := #[102, 102] }) {v : Value} {l m : List M.Bd} {A : Option Addr} {n c : Nat}
 (hs : a.eval s = v) (hx : a.eval x = .slice A n c) (h : OwnB base V w v l) (hL : BdSrc V w m A n) (hlen : l.length + m.length ≤ 1000000) (hbase : base ≤ w.heap.size)
 (hq : ∀ v' w', OwnB base V w' v' (l ++ m) → Below base w w' → wpList Tryz.prog ops Q rest (a.put o.dst v') w') : wpList Tryz.prog ops Q (o :: rest) a w := by
 obtain ⟨v', w', hr, h2, h3, h4, h5⟩ := appB_run (c := c) h hL hlen hbase o.type
 refine wpList_plain hgd fun K hK => ?_
 unfold Oper.wp execOp
 simp only [ho, resolve, invoke, builtin, Sem.run_bind, Sem.run_pure, Result.andThen_ok, List.map_toArray, List.map_cons, List.map_nil, hs, hx, hr]
 exact hK _ _ (hq v' w' h2 h3)
theorem OwnB.base {B B' : Nat} {V w : World} {v : Value} {l : List M.Bd} (h : OwnB B V w v l) (hB : B' ≤ B) : OwnB B' V w v l := by
 obtain ⟨xs, ⟨h1, h2⟩, h3⟩ := h
 refine ⟨xs, ⟨h1, h2.imp id ?_⟩, h3⟩
 rintro ⟨g, cap, cur, rfl, h4, h5⟩
 exact ⟨g, cap, cur, rfl, Nat.le_trans hB h4, h5⟩
theorem OwnB.ne {B : Nat} {V w : World} {v : Value} {l : List M.Bd} (h : OwnB B V w v l) {g : Nat} {cs : Array Value} {T : TypeId} (hb : Box w g cs T) (hT : T ≠ 227) : v.ownBlock ≠ some g := by
 obtain ⟨xs, ⟨h1, h2⟩, h3⟩ := h
 rcases h2 with ⟨rfl, _⟩ | ⟨b, cap, cur, rfl, h4, h5, h6⟩
 ·simp [Value.ownBlock]
 ·intro e
  have e2 : b = g := by simpa [Value.ownBlock] using e
  subst e2
  have := hb.symm.trans h5
  injection this with this
  injection this with e1 e2 e3
  exact hT e2
/-- A copy of bindings. -/
def GivesOB (V w : World) (b : List M.Bd) (e : Ending) (w' : World) : Prop := ∃ v, e = .returned v ∧ OwnB w.heap.size V w' v b ∧ Ext w w'
theorem cloneB_t {V : World} {b : List M.Bd} {A : Option Addr} {n c : Nat} {w : World} (h : Bds V b (.slice A n c)) (hV : Sub V w) (hn : n = b.length) (hlen : n ≤ 100000) : Calls Tryz.prog 260 #[.slice A n c] w (GivesOB V w b) := by
 by_cases hne : b = []
 ·subst hne
  rcases h with ⟨_, e⟩ | ⟨ad, c', e, h, _⟩
  ·injection e with e1 e2 e3
   subst e1 e2 e3
   clear hn
   have hnil : ∀ (w : World), (binOp .eql 102 (.slice none 0 0) (.slice none 0 0)).run Tryz.prog w = .ok (.bool true) w := fun w => Lib.run_eql_slice_nil (P := Tryz.prog) w 102 227 none 0 0 0 0 Tryz.underlying102
   go_enter Tryz.func260, Tryz.ntmps260
   go_wp2
   go_ret
   exact ⟨_, rfl, OwnB.nil _ _ _, Ext.refl _⟩
  ·exact absurd rfl h
 ·have HS := hid (h.src hne (hV.trans (Ext.alloc w (.cells #[] 227)).sub))
  have HO := hid (OwnB.empty w.heap.size V w (Nat.le_refl _))
  obtain ⟨ad, rfl⟩ : ∃ ad, A = some ad := by
   rcases h with ⟨e, _⟩ | ⟨ad, c', e, _⟩
   ·exact absurd e hne
   ·injection e with e1 e2 e3
    exact ⟨ad, e1⟩
  have hl := hid (show ([] : List M.Bd).length + b.length ≤ 1000000 by simp; omega)
  clear h hn hne
  have hnil : ∀ (w : World), (binOp .eql 102 (.slice (some ad) n c) (.slice none 0 0)).run Tryz.prog w = .ok (.bool false) w := fun w => Lib.run_eql_slice_nil (P := Tryz.prog) w 102 227 (some ad) n c 0 0 Tryz.underlying102
  go_enter Tryz.func260, Tryz.ntmps260
  go_wp2_with (at_builtin; refine wpList_appB rfl (.tmp 5) (.tmp 6) rfl (base := w.heap.size) (V := V) (l := []) (m := b) rfl rfl HO.out HS.out hl.out ?base ?_)
  case base => simp
  intro v' w5 hO5 hB5
  have HO5 := hid hO5
  have E5 := hid (show Ext w w5 from Below.trans (B := w.heap.size) (Ext.alloc w _) hB5)
  clear hO5 hB5
  go_wp2_with fail
  go_ret
  exact ⟨_, rfl, HO5.out, E5.out⟩
/-- A scope. -/
abbrev scv (A : Option Addr) (n c : Nat) (SA : Option Addr) (sn sc : Nat) : Value := .agg #[.slice A n c, .slice SA sn sc]
def GivesSc (p : Nat → Prop) [DecidablePred p] (w : World) (b : List M.Bd) (SA : Option Addr) (sn sc : Nat) (e : Ending) (w' : World) : Prop := ∃ A c, e = .returned (scv A b.length c SA sn sc) ∧ Bds (gp (fun k => p k ∨ w.heap.size ≤ k) w') b (.slice A b.length c) ∧ Ext w w'
theorem zip_take_succ {ns : List (List UInt8)} {ts : List M.Tm} {k : Nat} {x : List UInt8} {t : M.Tm} (h1 : ns[k]? = some x) (h2 : ts[k]? = some t) : (ns.zip ts).take (k + 1) = (ns.zip ts).take k ++ [(x, t)] := by
 have : (ns.zip ts)[k]? = some (x, t) := by rw [List.getElem?_zip_eq_some]; exact ⟨h1, h2⟩
 rw [List.take_add_one, this]; rfl
def RoundWi (w : World) (V : World) (A : Option Addr) (n c : Nat) (SA : Option Addr) (sn sc g : Nat) (bv' : Value) (b : List M.Bd) (wr : World) : Prop :=
 Box wr w.heap.size #[.slice A n c, .slice SA sn sc] 104 ∧ Box wr (w.heap.size + 1) #[.slice none 0 0, .slice none 0 0] 104 ∧ Box wr g #[bv', .slice SA sn sc] 104 ∧ OwnB w.heap.size V wr bv' b ∧ Ext w wr
set_option maxHeartbeats 8000000 in
set_option maxRecDepth 100000 in
theorem within_t {p : Nat → Prop} [DecidablePred p] {b : List M.Bd} {ns : List (List UInt8)} {ts : List M.Tm} {A SA NA TA : Option Addr} {n c sn sc mc m tc : Nat} {w : World} (h : Bds (gp p w) b (.slice A n c)) (hn : n = b.length) (hN : Nms w ns (.slice NA m mc)) (hT : Tms (gp p w) ts (.slice TA m tc))
 (hm0 : 0 < m) (hlen : n + m ≤ 100000) (hp : ∀ k, p k → k < w.heap.size) : Calls Tryz.prog 204 #[scv A n c SA sn sc, .slice NA m mc, .slice TA m tc] w (GivesSc p w (b ++ ns.zip ts) SA sn sc) := by
 obtain ⟨hN1, hN2, hN3⟩ := hN.le
 obtain ⟨hT1, hT2, hT3⟩ := hT.le
 have HCL := hid (show ∀ w', Ext w w' → Calls Tryz.prog 260 #[.slice A n c] w' (GivesOB (gp p w) w' b) from fun w' e => cloneB_t h ((gp_sub p w).trans e.sub) hn (by omega))
 have HN := hid hN
 have HT := hid hT
 have HM := hid (show n = b.length ∧ m = ns.length ∧ m = ts.length from ⟨hn, hN1, hT1⟩)
 have HB0 := hid (show Box ((w.alloc (.cells #[.slice A n c, .slice SA sn sc] 104)).alloc (.cells #[.slice none 0 0, .slice none 0 0] 104)) w.heap.size #[.slice A n c, .slice SA sn sc] 104 from (Box.new w _ _).alloc _)
 have HB1 := hid (show Box ((w.alloc (.cells #[.slice A n c, .slice SA sn sc] 104)).alloc (.cells #[.slice none 0 0, .slice none 0 0] 104)) (w.heap.size + 1) #[.slice none 0 0, .slice none 0 0] 104 from Box.at_ (w := w.alloc _) _ _ (by simp))
 have HE := hid (alloc_two w (.cells #[.slice A n c, .slice SA sn sc] 104) (.cells #[.slice none 0 0, .slice none 0 0] 104))
 clear h hn hN hT hN1 hT1
 go_enter Tryz.func204, Tryz.ntmps204
 go_upto_region 1 with (fail)
 refine swp_at (fun W => Box W w.heap.size #[.slice A n c, .slice SA sn sc] 104 ∧ Box W (w.heap.size + 1) #[.slice none 0 0, .slice none 0 0] 104 ∧ Ext w W) ⟨HB0.out, HB1.out, HE.out⟩ ?_
 intro W ⟨hb0, hb1, he⟩
 clear HB0 HB1 HE
 refine wp_region_L [(0, 0), (1, 0), (3, 0), (4, 0), (2, 2), (5, 0), (6, 3), (7, 4)] 104 #[.slice none 0 0, .slice none 0 0] fun wd hb => ?_
 have E := hid (he.trans hb)
 have HB0 := hid (hb0.up hb)
 have HB1 := hid (hb1.up hb)
 clear hb0 hb1 he hb
 have hlt1 := HB1.out.lt
 have HLT := hid hlt1
 refine WE.p 10 (.pointer (some ⟨w.heap.size, 0, none⟩)) ?_
 refine WE.q 11 (.slice A n c) rfl (fun w' hk => by have ce := (HB0.out.up hk).k 0 (v := .slice A n c); go_simp) ?_
 simp only [Act.put, pA, pB, pC]
 refine WE.p 13 (.pointer (some ⟨w.heap.size, 1, none⟩)) ?_
 refine WE.q 14 (.slice SA sn sc) rfl (fun w' hk => by have ce := (HB0.out.up hk).k 1 (v := .slice SA sn sc); go_simp) ?_
 simp only [Act.put, pA, pB, pC]
 refine WE.callR (d := some 12) rfl rfl (by rfl) (fun w => by go_simp) fun wa hea => ((HCL.out _ (E.out.trans hea)).mono ?_)
 rintro e w1 ⟨v1, rfl, hO1, hx⟩
 refine ⟨_, rfl, hx, ?_⟩
 replace hO1 := hO1.base (E.out.trans hea).size
 replace hx := hea.trans hx
 obtain ⟨A1, c1, rfl⟩ := hO1.shape
 replace E := hid (E.out.trans hx)
 replace HB0 := hid (HB0.out.up hx)
 replace HB1 := hid (HB1.out.up hx)
 have HO1 := hid hO1
 have HX := hid hx
 obtain ⟨n1, hn1⟩ : ∃ n1, b.length = n1 := ⟨_, rfl⟩
 rw [hn1] at HO1
 clear hO1 hx hlt1
 simp only [Act.put, pA, pB, pC, hn1]
 refine WE.p 15 (.agg #[.slice A1 n1 c1, .slice SA sn sc]) ?_
 simp only [Act.put, pA, pB, pC]
 refine WE.var (d := some 7) rfl fun g w2 hx2 hbx hge _ => ?_
 simp only [Act.put, pA, pB, pC]
 have f0 := hbx.free 0
 have f1 := hbx.free 1
 have hz := hbx.lt
 have r0 := hbx.k 0
 have r1 := hbx.k 1
 refine WE.store rfl rfl (by rfl) (w' := (w2.setCell ⟨g, 0, none⟩ (.slice A1 n1 c1)).setCell ⟨g, 1, none⟩ (.slice SA sn sc)) (by go_simp) (by simp) ?_
 refine WE.done ?_
 have hgK : w.heap.size + 1 < g := Nat.lt_of_lt_of_le HLT.out hge
 have hO2 : OwnB w.heap.size (gp p w) w2 (.slice A1 n1 c1) b := HO1.out.frame fun k _ hk _ => hx2.block k hk
 have HR := hid (show RoundWi w (gp p w) A n c SA sn sc g (.slice A1 n1 c1) (b ++ (ns.zip ts).take 0) ((w2.setCell ⟨g, 0, none⟩ (.slice A1 n1 c1)).setCell ⟨g, 1, none⟩ (.slice SA sn sc)) from
  ⟨((HB0.out.up hx2).far (show w.heap.size ≠ g by omega) _).far (show w.heap.size ≠ g by omega) _, ((HB1.out.up hx2).far (show w.heap.size + 1 ≠ g by omega) _).far (show w.heap.size + 1 ≠ g by omega) _, hbx.set2 _ _,
   by
    rw [List.take_zero, List.append_nil]
    have hne := hO2.ne hbx (by decide)
    exact (hO2.frame fun k _ hk hkb => Below.heap_setCell _ _ _ _ (show k ≠ g from fun e => hne (by rw [← e]; exact hkb))).frame fun k _ hk hkb => Below.heap_setCell _ _ _ _ (show k ≠ g from fun e => hne (by rw [← e]; exact hkb)),
   ((E.out.trans hx2).set' (show w.heap.size ≤ g by omega) _).set' (show w.heap.size ≤ g by omega) _⟩)
 have HGK := hid hgK
 have HN1 := hid hn1
 clear f0 f1 hz r0 r1 hbx hge hx2 hO2 HO1 HB0 HB1 E HX HLT hgK hn1 HCL
 obtain ⟨W4, hW4⟩ : ∃ W4, (w2.setCell ⟨g, 0, none⟩ (.slice A1 n1 c1)).setCell ⟨g, 1, none⟩ (.slice SA sn sc) = W4 := ⟨_, rfl⟩
 rw [hW4] at HR ⊢
 clear hW4
 go_wp2_with fail
 go_loopw [18] (fun i wr => ∃ (k : Nat) (bv' : Value), i = .int .i64 (k : Int) ∧ k ≤ m ∧ Hid (RoundWi w (gp p w) A n c SA sn sc g bv' (b ++ (ns.zip ts).take k) wr)) (fun i _ => m - (intOf i).toNat)
 case atStart => exact ⟨0, _, rfl, Nat.zero_le _, HR⟩
 case round =>
  obtain ⟨k, bw, rfl, hk, hR⟩ := hrel
  obtain ⟨L, hL⟩ : ∃ L, b ++ (ns.zip ts).take k = L := ⟨_, rfl⟩
  have hR' := hR.out
  rw [hL] at hR'
  obtain ⟨hB0, hB1, hB2, hOw, hE⟩ := hR'
  have HL := hid hL
  have HLK := hid (show L.length = n + k by
   have hm := HM.out
   rw [← HL.out, List.length_append, List.length_take, List.length_zip]; omega)
  obtain ⟨IA, ic, rfl⟩ := hOw.shape
  obtain ⟨q, hq⟩ : ∃ q, L.length = q := ⟨_, rfl⟩
  rw [hq] at hOw hB2
  have HQ := hid hq
  have HB0 := hid hB0
  have HB1 := hid hB1
  have HB2 := hid hB2
  have HO := hid hOw
  have E := hid hE
  clear hR hB0 hB1 hB2 hOw hE hL hq
  rcases Nat.lt_or_ge k m with hlt | hge
  ·have hlt' : (k : Int) < (m : Int) := by omega
   obtain ⟨ad, x, rfl, hx, cx⟩ := (HN.out.up E.out).get hlt
   obtain ⟨ad2, t, N', nn', nc', B, d, rfl, ht, ⟨c0, c1, c2, c3, c4, c5⟩, hv⟩ := HT.out.get hlt
   obtain ⟨top, tg, tls, tnm, tso, tks⟩ := t
   have hvn : LNum (gp p w) (.slice N' nn' nc') tls ∧ Tms (gp p w) tks (.slice B tks.length d) := hv.num
   have hlow := World.block_lt_of_cell? w _ ((gp_sub p w).2 _ _ c4)
   replace c0 : w.cell? (ad2.add (k * 6)) = some (.int .i64 top) := (gp_sub p w).2 _ _ c0
   replace c1 : w.cell? ⟨(ad2.add (k * 6)).block, (ad2.add (k * 6)).off + 1, none⟩ = some (.bool tg) := (gp_sub p w).2 _ _ c1
   replace c2 : w.cell? ⟨(ad2.add (k * 6)).block, (ad2.add (k * 6)).off + 2, none⟩ = some (.slice N' nn' nc') := (gp_sub p w).2 _ _ c2
   replace c3 : w.cell? ⟨(ad2.add (k * 6)).block, (ad2.add (k * 6)).off + 3, none⟩ = some (str tnm) := (gp_sub p w).2 _ _ c3
   replace c4 : w.cell? ⟨(ad2.add (k * 6)).block, (ad2.add (k * 6)).off + 4, none⟩ = some (.int .i64 tso) := (gp_sub p w).2 _ _ c4
   replace c5 : w.cell? ⟨(ad2.add (k * 6)).block, (ad2.add (k * 6)).off + 5, none⟩ = some (.slice B tks.length d) := (gp_sub p w).2 _ _ c5
   obtain ⟨td, htd⟩ : ∃ td, tks.length = td := ⟨_, rfl⟩
   rw [htd] at c5 hvn
   have HX := hid hx
   have HTT := hid ht
   have HVN := hid hvn
   have HLOW := hid hlow
   have HC := hid (show (w.cell? (ad2.add (k * 6)) = some (.int .i64 top) ∧ w.cell? ⟨(ad2.add (k * 6)).block, (ad2.add (k * 6)).off + 1, none⟩ = some (.bool tg) ∧ w.cell? ⟨(ad2.add (k * 6)).block, (ad2.add (k * 6)).off + 2, none⟩ = some (.slice N' nn' nc')) ∧ w.cell? ⟨(ad2.add (k * 6)).block, (ad2.add (k * 6)).off + 3, none⟩ = some (str tnm) ∧ w.cell? ⟨(ad2.add (k * 6)).block, (ad2.add (k * 6)).off + 4, none⟩ = some (.int .i64 tso) ∧ w.cell? ⟨(ad2.add (k * 6)).block, (ad2.add (k * 6)).off + 5, none⟩ = some (.slice B td d) from ⟨⟨c0, c1, c2⟩, c3, c4, c5⟩)
   have HXB := hid (show ∀ y, y ∈ (Value.slice IA q ic).ownBlock.toList → w.heap.size ≤ y ∧ y ≠ g ∧ y ≠ w.heap.size ∧ y ≠ w.heap.size + 1 from fun y hy => by
    have hy' : (Value.slice IA q ic).ownBlock = some y := by simpa using hy
    exact ⟨(HO.out.lt y hy').1, fun e => HO.out.ne HB2.out (by decide) (by rw [← e]; exact hy'), fun e => HO.out.ne HB0.out (by decide) (by rw [← e]; exact hy'), fun e => HO.out.ne HB1.out (by decide) (by rw [← e]; exact hy')⟩)
   clear hx ht hv hvn hlow c0 c1 c2 c3 c4 c5 htd
   go_wp2_with fail
   refine wp_region_K (Value.slice IA q ic).ownBlock.toList [(0, 0), (1, 0), (2, 0), (3, 0), (4, 0), (5, 0), (6, 0), (7, 0), (8, 1), (9, 1), (10, 2), (11, 3)] fun wd hb => ?_
   have Ed := hid hb
   clear hb
   refine WK.p 23 (.pointer (some ⟨g, 0, none⟩)) ?_
   simp only [Act.put, pA, pB, pC]
   refine WK.q 24 (.slice IA q ic) rfl (fun w' hk => by have ce := ((HB2.out.up Ed.out).kept hk (fun h => (HXB.out _ h).2.1 rfl)).k 0 (v := .slice IA q ic); go_simp) ?_
   simp only [Act.put, pA, pB, pC]
   refine WK.p 25 (str x) ?_
   refine WK.p 26 (.slice (some ad2) m tc) ?_
   simp only [Act.put, pA, pB, pC]
   refine WK.p 27 (.int .i64 (k : Int)) ?_
   refine WK.p 28 (.pointer (some (ad2.add (k * 6)))) ?_
   simp only [Act.put, pA, pB, pC]
   refine WK.q 29 (kv top tg N' nn' nc' tnm tso B td d) rfl (fun w' hk => by
    have hno : (ad2.add (k * 6)).block ∉ (Value.slice IA q ic).ownBlock.toList := fun h => by have := (HXB.out _ h).1; have := HLOW.out; omega
    have up : ∀ {a : Addr} {v : Value}, w.cell? a = some v → a.block = (ad2.add (k * 6)).block → w'.cell? a = some v := fun hc ha => hk.cellA (by rw [ha]; exact hno) ((E.out.trans Ed.out).cell hc)
    have d0 := up HC.out.1.1 rfl
    have d1 := up HC.out.1.2.1 rfl
    have d2 := up HC.out.1.2.2 rfl
    have d3 := up HC.out.2.1 rfl
    have d4 := up HC.out.2.2.1 rfl
    have d5 := up HC.out.2.2.2 rfl
    go_simp) ?_
   simp only [Act.put, pA, pB, pC]
   refine WK.p 30 (bv x top tg N' nn' nc' tnm tso B td d) ?_
   simp only [Act.put, pA, pB, pC]
   refine WK.act 31 (v := .slice (some ⟨wd.heap.size, 0, none⟩) 1 1) (w' := wd.alloc (.cells #[str x, .int .i64 top, .bool tg, .slice N' nn' nc', str tnm, .int .i64 tso, .slice B td d] 227)) rfl (by go_simp) ((Ext.alloc _ _).kept _) ?_
   simp only [Act.put, pA, pB, pC]
   have hEd := Ed.out.size
   have hEs := E.out.size
   obtain ⟨v5, w5, hrun, hO5, hB5, hK5, hv5⟩ := appB_run (c := 1) ((HO.out.frame fun y _ hy _ => Ed.out.block y hy).frame (w' := wd.alloc (.cells #[str x, .int .i64 top, .bool tg, .slice N' nn' nc', str tnm, .int .i64 tso, .slice B td d] 227)) fun y _ hy _ => (Ext.alloc wd _).block y hy) (bdSrc_one (ks := tks) (ls := tls) (Box.new wd #[str x, .int .i64 top, .bool tg, .slice N' nn' nc', str tnm, .int .i64 tso, .slice B td d] 227) HVN.out.1 HVN.out.2) (by rw [HLK.out]; simp; omega) (by simp; omega) 102
   obtain ⟨A5, c5, rfl⟩ := hO5.shape
   obtain ⟨m5, hm5⟩ : ∃ m5, (L ++ [(x, M.Tm.mk top tg tls tnm tso tks)]).length = m5 := ⟨_, rfl⟩
   rw [hm5] at hO5 hrun
   refine WK.act 32 rfl (kexec_app (.tmp 24) (.tmp 31) rfl rfl rfl hrun) hK5 ?_
   have HO5 := hid hO5
   have E5 := hid (show Ext w w5 from Below.trans (B := w.heap.size) ((E.out.trans Ed.out).alloc' _) hB5)
   have HB05 := hid (((HB0.out.up Ed.out).alloc (.cells #[str x, .int .i64 top, .bool tg, .slice N' nn' nc', str tnm, .int .i64 tso, .slice B td d] 227)).kept hK5 (fun h => (HXB.out _ h).2.2.1 rfl))
   have HB15 := hid (((HB1.out.up Ed.out).alloc (.cells #[str x, .int .i64 top, .bool tg, .slice N' nn' nc', str tnm, .int .i64 tso, .slice B td d] 227)).kept hK5 (fun h => (HXB.out _ h).2.2.2 rfl))
   have HB25 := hid (((HB2.out.up Ed.out).alloc (.cells #[str x, .int .i64 top, .bool tg, .slice N' nn' nc', str tnm, .int .i64 tso, .slice B td d] 227)).kept hK5 (fun h => (HXB.out _ h).2.1 rfl))
   clear hrun hO5 hB5 hK5 hv5 hEd hEs hm5
   simp only [Act.put, pA, pB, pC]
   have r0 := HB25.out.k 0
   have r1 := HB25.out.k 1
   have f0 := HB25.out.free 0
   have f1 := HB25.out.free 1
   have hl5 := HB25.out.lt
   refine WK.y 33 (.pointer (some ⟨g, 0, none⟩)) ?_
   simp only [Act.put, pA, pB, pC]
   refine WK.st (w' := w5.setCell ⟨g, 0, none⟩ (.slice A5 m5 c5)) ?_
   refine WK.done ?_
   have hg1 := HGK.out
   have hne := HO5.out.ne HB25.out (by decide)
   have HR2 := hid (show RoundWi w (gp p w) A n c SA sn sc g (.slice A5 m5 c5) (b ++ (ns.zip ts).take (k + 1)) (w5.setCell ⟨g, 0, none⟩ (.slice A5 m5 c5)) from
    ⟨HB05.out.far (show w.heap.size ≠ g by omega) _, HB15.out.far (show w.heap.size + 1 ≠ g by omega) _, HB25.out.setAt 0 _, by
     rw [zip_take_succ HX.out HTT.out, ← List.append_assoc, HL.out]
     exact HO5.out.frame fun y _ hy hyb => Below.heap_setCell _ _ _ _ (show y ≠ g from fun e => hne (by rw [← e]; exact hyb)),
     E5.out.set' (show w.heap.size ≤ g by omega) _⟩)
   clear r0 r1 f0 f1 hl5 hg1 hne
   go_wp2_with fail
   go_roundw
   case rel => exact ⟨k + 1, _, by simp, by omega, HR2⟩
   case measure => simp [intOf]; omega
  ·obtain rfl : k = m := by omega
   have hzip : (ns.zip ts).take k = ns.zip ts := List.take_of_length_le (by have := HM.out; rw [List.length_zip]; omega)
   have HL2 := hid (show b ++ ns.zip ts = L by rw [← HL.out, hzip])
   have hne : L ≠ [] := fun e => by have := HLK.out; rw [e] at this; simp at this; omega
   have r0 := HB1.out.k 0
   have r1 := HB1.out.k 1
   have f0 := HB1.out.free 0
   have f1 := HB1.out.free 1
   have hz1 := HB1.out.lt
   have d0 := HB2.out.k 0
   have d1 := HB2.out.k 1
   have hz2 := HB2.out.lt
   have hbd : Bds (gp (fun y => p y ∨ w.heap.size ≤ y) ((wr.setCell ⟨w.heap.size + 1, 0, none⟩ (.slice IA q ic)).setCell ⟨w.heap.size + 1, 1, none⟩ (.slice SA sn sc))) L (.slice IA q ic) := by
    have hn1 := HO.out.ne HB1.out (by decide)
    have hO' : OwnB w.heap.size (gp p w) ((wr.setCell ⟨w.heap.size + 1, 0, none⟩ (.slice IA q ic)).setCell ⟨w.heap.size + 1, 1, none⟩ (.slice SA sn sc)) (.slice IA q ic) L := (HO.out.frame fun y _ hy hyb => Below.heap_setCell _ _ _ _ (show y ≠ w.heap.size + 1 from fun e => hn1 (by rw [← e]; exact hyb))).frame fun y _ hy hyb => Below.heap_setCell _ _ _ _ (show y ≠ w.heap.size + 1 from fun e => hn1 (by rw [← e]; exact hyb))
    have hE' : Ext w ((wr.setCell ⟨w.heap.size + 1, 0, none⟩ (.slice IA q ic)).setCell ⟨w.heap.size + 1, 1, none⟩ (.slice SA sn sc)) := (E.out.set' (show w.heap.size ≤ w.heap.size + 1 by omega) _).set' (show w.heap.size ≤ w.heap.size + 1 by omega) _
    refine hO'.bds hne (gp_mono hE'.size fun y hy h1 => ⟨.inl h1, hE'.block y hy⟩) (fun a u ha hc => gp_cell.2 ⟨.inr ha, hc⟩) (by rw [gp_size]; exact Nat.le_refl _)
   have HBD := hid hbd
   clear hbd hzip hne
   go_wp2_with fail
   refine bodyPost_ret (v := scv IA q ic SA sn sc) (by simp [results, Tryz.results204, go_sem, r0, r1, hz1]) rfl ?_
   rw [HL2.out]
   refine ⟨IA, ic, by rw [HQ.out], by rw [HQ.out]; exact HBD.out, ?_⟩
   exact (E.out.set' (show w.heap.size ≤ w.heap.size + 1 by omega) _).set' (show w.heap.size ≤ w.heap.size + 1 by omega) _
end Go.Proofs.YtgkofipifjfjhaaGreatDoor.Q

/-
  Contracts of package sort: a number's text; term.Num, term.Bool on new memory.
-/
namespace Go.Proofs.YtgkofipifjfjhaaGreatDoor.Q
set_option linter.unusedSimpArgs false
set_option linter.unusedVariables false
open Go.RowKit

set_option maxHeartbeats 4000000 in
theorem bool_tn (b : Bool) (w : World) : Calls Tryz.prog 162 #[.bool b] w (GivesTN w (.mk (if b = true then 2 else 3) false [] [] 1 [])) := by
 have HM := hid (fun op w' => made_none (op := op) (g := false) (ls := []) (nm := []) (so := 1) (by simp) (by simp) (LNum.nil w'))
 have HR := hid (Box.new w zero6 33)
 cases b
 case' true => have ho : (if true = true then (2 : Int) else 3) = 2 := rfl
 case' false => have ho : (if false = true then (2 : Int) else 3) = 3 := rfl
 all_goals
  rw [ho]
  clear ho
  go_enter Tryz.func162, Tryz.ntmps162
  go_wp2_with fail
  refine (HM.out _ _).mono ?_
  rintro e w2 ⟨v2, rfl, hv, hb⟩
  have hlt := HR.out.lt
  have HV := hid (fun x0 x1 x2 x3 x4 x5 => new_putG (B := w.heap.size) (x0 := x0) (x1 := x1) (x2 := x2) (x3 := x3) (x4 := x4) (x5 := x5) hv hlt (Nat.le_of_lt hlt))
  obtain ⟨N2, nn2, nc2, A2, n2, c2, rfl, -, -, -, -, -, -⟩ := hv.shape
  obtain ⟨⟨r0, r1, r2, r3, r4, r5⟩, ⟨f0, f1, f2, f3, f4, f5⟩, hzr⟩ := boxF6 (HR.out.up hb)
  have E := hid ((Ext.alloc w _).trans hb)
  clear hb hv hlt
  go_wp2_with fail
  refine bodyPost_ret (v := kv _ _ N2 nn2 nc2 _ _ A2 n2 c2) (by simp [results, Tryz.results162, go_sem, r0, r1, r2, r3, r4, r5, hzr]; exact ⟨rfl, rfl, rfl, rfl⟩) rfl ?_
  exact ⟨_, rfl, HV.out _ _ _ _ _ _, put6_ext E.out (by omega)⟩

set_option maxHeartbeats 8000000 in
theorem num_tn {Z : Int} {k : Nat} {v : Value} {w : World} (h : Worth w v Z k) (hk : k ≤ 1000000) : Calls Tryz.prog 161 #[v] w (GivesTN w (M.knumT Z)) := by
 obtain ⟨g, N, nn, nc, ls, rfl, hn, hl, rfl⟩ := h
 obtain ⟨q, hq⟩ : ∃ q, M.isZ g ls = q := ⟨_, rfl⟩
 have HI := hid (show ∀ w', Ext w w' → Calls Tryz.prog 190 #[.agg #[.bool g, .slice N nn nc]] w' (GivesB w' q) from fun w' e => wIs_any (Num.keep hn e e.size) hq)
 have HB := hid (show Box ((w.alloc (.cells #[.bool g, .slice N nn nc] 30)).alloc (.cells zero6 33)) w.heap.size #[.bool g, .slice N nn nc] 30 from (Box.new w _ _).alloc _)
 have HR := hid (show Box ((w.alloc (.cells #[.bool g, .slice N nn nc] 30)).alloc (.cells zero6 33)) (w.heap.size + 1) zero6 33 from Box.at_ (w := w.alloc (.cells #[.bool g, .slice N nn nc] 30)) _ _ (by simp))
 cases q
 ·have hr := hid (show M.knumT (M.zv g ls) = .mk 1 false [] [] 2 [] by
   rw [M.zv_off hq]
   exact M.knumT0)
  rw [hr.out]
  have HM := hid (fun w' => made_none (op := 1) (g := false) (ls := []) (nm := []) (so := 2) (by simp) (by simp) (LNum.nil w'))
  clear hn hl hq
  go_enter Tryz.func161, Tryz.ntmps161
  go_wp2_with fail
  refine (HI.out _ (alloc_two w _ _)).mono ?_
  rintro e w1 ⟨rfl, hb⟩
  replace HB := hid (HB.out.up hb)
  replace HR := hid (HR.out.up hb)
  have E := hid ((alloc_two w _ _).trans hb)
  clear hb
  have b0 := HB.out.k 0
  have b1 := HB.out.k 1
  have f0 := HB.out.free 0
  have f1 := HB.out.free 1
  have hzb := HB.out.lt
  go_wp2_with fail
  refine (HM.out _).mono ?_
  rintro e w2 ⟨v2, rfl, hv, hb⟩
  replace HR := hid (show Box ((w1.setCell ⟨w.heap.size, 0, none⟩ (.bool false)).setCell ⟨w.heap.size, 1, none⟩ (.slice none 0 0)) (w.heap.size + 1) zero6 33 from (HR.out.far (show w.heap.size + 1 ≠ w.heap.size by omega) _).far (show w.heap.size + 1 ≠ w.heap.size by omega) _)
  have hlt := HR.out.lt
  have HV := hid (fun x0 x1 x2 x3 x4 x5 => new_putG (B := w.heap.size) (x0 := x0) (x1 := x1) (x2 := x2) (x3 := x3) (x4 := x4) (x5 := x5) hv hlt (by omega))
  obtain ⟨N2, nn2, nc2, A2, n2, c2, rfl, -, -, -, -, -, -⟩ := hv.shape
  obtain ⟨⟨r0, r1, r2, r3, r4, r5⟩, ⟨g0, g1, g2, g3, g4, g5⟩, hzr⟩ := boxF6 (HR.out.up hb)
  replace E := hid (((E.out.set' (show w.heap.size ≤ w.heap.size by omega) _).set' (show w.heap.size ≤ w.heap.size by omega) _).trans hb)
  clear hb hv hlt b0 b1 f0 f1 hzb
  go_wp2_with fail
  refine bodyPost_ret (v := kv _ _ N2 nn2 nc2 _ _ A2 n2 c2) (by simp [results, Tryz.results161, go_sem, r0, r1, r2, r3, r4, r5, hzr]; exact ⟨rfl, rfl, rfl, rfl⟩) rfl ?_
  exact ⟨_, rfl, HV.out _ _ _ _ _ _, put6_ext E.out (by omega)⟩
 ·have hr := hid (show M.knumT (M.zv g ls) = .mk 1 g ls [] 2 [] by
   show M.Tm.mk 1 (decide (M.zv g ls < 0)) (M.limbs (M.zv g ls).natAbs) [] 2 [] = _
   rw [M.zv_lt hq, M.limbs_zv hq])
  rw [hr.out]
  have HM := hid (show ∀ w', Ext w w' → Calls Tryz.prog 212 #[kv 1 g N nn nc [] 2 none 0 0, .slice none 0 0] w' (GivesTN w' (.mk 1 g ls [] 2 [])) from fun w' e => made_none (by simp) (by omega) (Num.keep hn e e.size))
  clear hn hl hq
  go_enter Tryz.func161, Tryz.ntmps161
  go_wp2_with fail
  refine (HI.out _ (alloc_two w _ _)).mono ?_
  rintro e w1 ⟨rfl, hb⟩
  replace HB := hid (HB.out.up hb)
  replace HR := hid (HR.out.up hb)
  have E := hid ((alloc_two w _ _).trans hb)
  clear hb
  have b0 := HB.out.k 0
  have b1 := HB.out.k 1
  go_wp2_with fail
  refine (HM.out _ E.out).mono ?_
  rintro e w2 ⟨v2, rfl, hv, hb⟩
  have hlt := HR.out.lt
  have HV := hid (fun x0 x1 x2 x3 x4 x5 => new_putG (B := w.heap.size) (x0 := x0) (x1 := x1) (x2 := x2) (x3 := x3) (x4 := x4) (x5 := x5) hv hlt (by omega))
  obtain ⟨N2, nn2, nc2, A2, n2, c2, rfl, -, -, -, -, -, -⟩ := hv.shape
  obtain ⟨⟨r0, r1, r2, r3, r4, r5⟩, ⟨g0, g1, g2, g3, g4, g5⟩, hzr⟩ := boxF6 (HR.out.up hb)
  replace E := hid (E.out.trans hb)
  clear hb hv hlt b0 b1
  go_wp2_with fail
  refine bodyPost_ret (v := kv _ _ N2 nn2 nc2 _ _ A2 n2 c2) (by simp [results, Tryz.results161, go_sem, r0, r1, r2, r3, r4, r5, hzr]; exact ⟨rfl, rfl, rfl, rfl⟩) rfl ?_
  exact ⟨_, rfl, HV.out _ _ _ _ _ _, put6_ext E.out (by omega)⟩
set_option maxHeartbeats 8000000 in
theorem number_t {p : Nat → Prop} [DecidablePred p] (s : List UInt8) (hs : s.length ≤ 1000000000000) {w : World} (hp : ∀ k, p k → k < w.heap.size) : Calls Tryz.prog 107 #[str s] w (GivesTmG p w (M.rnum s)) := by
 obtain ⟨Z, hZ⟩ : ∃ Z, M.pval s = Z := ⟨_, rfl⟩
 obtain ⟨x, hx⟩ : ∃ x, M.perr s = x := ⟨_, rfl⟩
 have HP := hid (show ∀ w', Calls Tryz.prog 160 #[str s] w' (GivesP w' Z 40 x) from fun w' => hZ ▸ hx ▸ parse_n s hs w')
 have HR := hid (Box.new w zero6 33)
 have HRN := hid (show M.rnum s = if x ≠ 0 then (M.K0, x) else (M.knumT Z, 0) by rw [M.rnum, hZ, hx])
 clear hZ hx hs
 by_cases hx0 : x = 0
 ·subst hx0
  replace HRN := hid (show M.rnum s = (M.knumT Z, 0) from HRN.out)
  go_enter Tryz.func107, Tryz.ntmps107
  go_wp2_with fail
  refine (HP.out _).mono ?_
  rintro e w1 ⟨v1, rfl, hv1, hb⟩
  have hw1 := hv1.worth
  obtain ⟨A1, n1, c1, rfl, hn1, hk1⟩ := hv1
  obtain ⟨d, hd⟩ : ∃ d, decide (Z < 0) = d := ⟨_, rfl⟩
  rw [hd] at hw1 ⊢
  have HW := hid (show ∀ w', Ext w1 w' → Calls Tryz.prog 161 #[.agg #[.bool d, .slice A1 n1 c1]] w' (GivesTN w' (M.knumT Z)) from fun w' e => num_tn (hw1.up e) (by omega))
  have E := hid ((Ext.alloc w _).trans hb)
  replace HR := hid (HR.out.up hb)
  clear hw1 hn1 hk1 hd hb
  go_wp2_with fail
  refine (HW.out _ (Ext.alloc _ _)).mono ?_
  rintro e w2 ⟨v2, rfl, hv, hb⟩
  replace HR := hid ((HR.out.alloc (.cells #[.bool d, .slice A1 n1 c1] 30)).up hb)
  have hlt := ((HR.out.lt))
  have hk0 : w.heap.size < (w1.alloc (.cells #[.bool d, .slice A1 n1 c1] 30)).heap.size := Nat.lt_of_le_of_lt E.out.size (by simp)
  have HV := hid (fun x0 x1 x2 x3 x4 x5 => give_put (x0 := x0) (x1 := x1) (x2 := x2) (x3 := x3) (x4 := x4) (x5 := x5) (p := p) (B := w.heap.size) (give_new hv) hp (Nat.le_refl _) hk0)
  obtain ⟨N2, nn2, nc2, A2, n2, c2, rfl, -, -, -, -, -, -⟩ := hv.shape
  obtain ⟨⟨r0, r1, r2, r3, r4, r5⟩, ⟨f0, f1, f2, f3, f4, f5⟩, hzr⟩ := boxF6 HR.out
  replace E := hid ((E.out.alloc' _).trans hb)
  clear hb hv hlt hk0
  go_wp2_with fail
  refine bodyPost_ret (v := .tuple #[kv _ _ N2 nn2 nc2 _ _ A2 n2 c2, .int .i64 0]) (by simp [results, Tryz.results107, go_sem, r0, r1, r2, r3, r4, r5, hzr]; exact ⟨rfl, rfl, rfl, rfl⟩) rfl ?_
  rw [HRN.out]
  exact ⟨_, rfl, HV.out _ _ _ _ _ _, put6_ext E.out (Nat.le_refl _)⟩
 ·replace HRN := hid (show M.rnum s = (M.K0, x) by rw [HRN.out, if_pos hx0])
  have hq : (x != 0) = true := by simpa using hx0
  clear hx0
  go_enter Tryz.func107, Tryz.ntmps107
  go_wp2_with fail
  refine (HP.out _).mono ?_
  rintro e w1 ⟨v1, rfl, hv1, hb⟩
  obtain ⟨A1, n1, c1, rfl, hn1, hk1⟩ := hv1
  obtain ⟨d, hd⟩ : ∃ d, decide (Z < 0) = d := ⟨_, rfl⟩
  rw [hd]
  have E := hid ((Ext.alloc w _).trans hb)
  replace HR := hid ((HR.out.up hb).alloc (.cells #[.bool d, .slice A1 n1 c1] 30))
  obtain ⟨⟨r0, r1, r2, r3, r4, r5⟩, ⟨f0, f1, f2, f3, f4, f5⟩, hzr⟩ := boxF6 HR.out
  clear hn1 hk1 hd hb
  go_wp2_with fail
  refine bodyPost_ret (v := .tuple #[kv 0 false none 0 0 [] 0 none 0 0, .int .i64 x]) (by simp [results, Tryz.results107, go_sem, r0, r1, r2, r3, r4, r5, hzr]) rfl ?_
  rw [HRN.out]
  exact ⟨_, rfl, IsTm.zero _, put6_ext (E.out.alloc' _) (Nat.le_refl _)⟩
end Go.Proofs.YtgkofipifjfjhaaGreatDoor.Q

