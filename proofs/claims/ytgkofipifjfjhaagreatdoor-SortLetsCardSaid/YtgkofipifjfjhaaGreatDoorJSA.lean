/-
  Layer 11, mathematics: operators' words, names, trees.
-/
import Derived.Test.YtgkofipifjfjhaaGreatDoorJQT
import Derived.Lib.Strings
import Derived.Lib.LaidTab
import Derived.Test.YtgkofipifjfjhaaGreatDoorJQC
namespace Go.Proofs.YtgkofipifjfjhaaGreatDoor.Q
set_option linter.unusedSimpArgs false
set_option linter.unusedVariables false
namespace M
/-- Operators' words, by their numbers; those ahead of ONot have none. -/
def opWords : List (List UInt8) := [[], [], [], [], [], [110, 111, 116], [97, 110, 100], [111, 114], [120, 111, 114], [61, 62], [61], [100, 105, 115, 116, 105, 110, 99, 116], [105, 116, 101], [43], [45], [42], [100, 105, 118], [109, 111, 100], [97, 98, 115], [60, 61], [60], [62, 61], [62]]
def opFrom : List (List UInt8) → Nat → List UInt8 → Nat
 | [], _, _ => 0
 | x :: r, k, s => if x = s then k else opFrom r (k + 1) s
/-- The operator of which s is the word; else 0. -/
def opOf (s : List UInt8) : Nat := opFrom opWords 0 s
def bTrue : List UInt8 := [116, 114, 117, 101]
def bFalse : List UInt8 := [102, 97, 108, 115, 101]
def bLet : List UInt8 := [108, 101, 116]
def bInt : List UInt8 := [73, 110, 116]
def bBool : List UInt8 := [66, 111, 111, 108]
/-- The words that begin no List. -/
def barred (s : List UInt8) : Bool := decide (s = bTrue ∨ s = bFalse ∨ s = bInt ∨ s = bBool)
def resv (s : List UInt8) : Bool := decide (s = bTrue ∨ s = bFalse ∨ s = bLet ∨ s = bInt ∨ s = bBool) || (Lib.hasPrefix s [33] || decide (opOf s ≠ 0))
theorem opFrom_app : ∀ (a b : List (List UInt8)) (k : Nat) (s : List UInt8), (∀ x ∈ a, x ≠ s) → opFrom (a ++ b) k s = opFrom b (k + a.length) s
 | [], b, k, s, _ => by simp
 | x :: r, b, k, s, h => by
  rw [List.cons_append, opFrom, if_neg (h x (List.mem_cons_self ..)), opFrom_app r b (k + 1) s fun y hy => h y (List.mem_cons_of_mem _ hy), List.length_cons]
  congr 1; omega
theorem opOf_hit {s : List UInt8} {k : Nat} (h1 : ∀ x ∈ opWords.take k, x ≠ s) (h2 : opWords[k]? = some s) : opOf s = k := by
 have hlt : k < opWords.length := (List.getElem?_eq_some_iff.1 h2).1
 have e : opWords = opWords.take k ++ opWords.drop k := (List.take_append_drop k opWords).symm
 have hd : opWords.drop k = s :: opWords.drop (k + 1) := by
  rw [List.drop_eq_getElem_cons hlt, (List.getElem?_eq_some_iff.1 h2).2]
 unfold opOf
 rw [e, opFrom_app _ _ _ _ h1, hd, opFrom, if_pos rfl, List.length_take]
 omega
theorem opOf_miss {s : List UInt8} (h : ∀ x ∈ opWords, x ≠ s) : opOf s = 0 := by
 have := opFrom_app opWords [] 0 s h
 rw [List.append_nil] at this
 exact this
def T0 : T := .mk false (0, []) []
def tkid (t : T) (k : Nat) : T := t.kids.getD k T0
def isSymT (t : T) : Bool := decide (t.tok.1 = 4)
/-- A list of a symbol and a tree. -/
def pairT (t : T) : Bool := decide (t.kids.length = 2) && isSymT (tkid t 0)
def pairedT (t : T) : Bool := !t.kids.isEmpty && t.kids.all pairT
def pName (t : T) : List UInt8 := (tkid t 0).tok.2
def pTree (t : T) : T := tkid t 1
def freeA : List (List UInt8) → List (List UInt8) → Bool
 | _, [] => true
 | seen, x :: r => !(resv x || seen.contains x) && freeA (seen ++ [x]) r
def freeN (l : List (List UInt8)) : Bool := freeA [] l
theorem freeA_app : ∀ (a b seen : List (List UInt8)), freeA seen (a ++ b) = (freeA seen a && freeA (seen ++ a) b)
 | [], b, seen => by simp [freeA]
 | x :: r, b, seen => by rw [List.cons_append, freeA, freeA, freeA_app r b (seen ++ [x]), List.append_assoc, List.singleton_append, Bool.and_assoc]
theorem freeN_take {l : List (List UInt8)} {k : Nat} {x : List UInt8} (h : l[k]? = some x) : freeN (l.take (k + 1)) = (freeN (l.take k) && !(resv x || (l.take k).contains x)) := by
 unfold freeN
 rw [List.take_add_one, h, freeA_app]
 simp [freeA]
theorem freeN_not {l : List (List UInt8)} {k : Nat} {x : List UInt8} (h : l[k]? = some x) (hx : (resv x || (l.take k).contains x) = true) : freeN l = false := by
 have e : l = l.take (k + 1) ++ l.drop (k + 1) := (List.take_append_drop _ _).symm
 unfold freeN
 rw [e, freeA_app]
 have := freeN_take h
 unfold freeN at this
 rw [this, hx]; simp
mutual
/-- How high, whatever its nodes are. -/
def hgt : T → Nat
 | .mk _ _ ks => 1 + hgts ks
def hgts : List T → Nat
 | [] => 0
 | t :: r => max (hgt t) (hgts r)
end
theorem hgts_at : ∀ {ks : List T} {k : Nat} {t : T}, ks[k]? = some t → hgt t ≤ hgts ks
 | [], _, _, h => by simp at h
 | x :: r, 0, t, h => by simp at h; subst h; rw [hgts]; omega
 | x :: r, k + 1, t, h => by have := hgts_at (ks := r) (k := k) (t := t) (by simpa using h); rw [hgts]; omega
theorem hgts_mem {ks : List T} {t : T} (h : t ∈ ks) : hgt t ≤ hgts ks := by
 obtain ⟨k, hk⟩ := List.mem_iff_getElem?.1 h
 exact hgts_at hk
mutual
theorem hgt_dep : ∀ (t : T), formT t = true → hgt t ≤ dep t + 1
 | .mk l tk ks, h => by
  rw [formT] at h
  cases l with
  | false =>
   rw [if_neg (by decide), Bool.and_eq_true, List.isEmpty_iff] at h
   rw [h.1, hgt, hgts]; omega
  | true =>
   rw [if_pos rfl, Bool.and_eq_true] at h
   have := hgts_deps ks h.1
   rw [hgt, dep, if_pos rfl]; omega
theorem hgts_deps : ∀ (ks : List T), formTs ks = true → hgts ks ≤ deps ks + 1
 | [], _ => Nat.zero_le _
 | t :: r, h => by
  rw [formTs, Bool.and_eq_true] at h
  have h1 := hgt_dep t h.1
  have h2 := hgts_deps r h.2
  rw [hgts, deps]; omega
end
theorem hgt_isU {t : T} (h : isU t = true) : hgt t ≤ 61 := by
 obtain ⟨_, h2, h3⟩ := isU_parts h
 have := hgt_dep t h3
 omega
theorem cnts_len : ∀ (ks : List T), ks.length ≤ cnts ks
 | [] => by simp
 | x :: r => by have h1 := cnts_len r; have h2 := cnt_pos x; simp [cnts]; omega
theorem cnts_at {ks : List T} {k : Nat} {t : T} (h : ks[k]? = some t) : cnt t ≤ cnts ks := by
 have h1 := cnts_take h
 have h2 := cnts_take_le ks (k + 1)
 omega
end M
end Go.Proofs.YtgkofipifjfjhaaGreatDoor.Q

/-
  Layer 11, words: lists of trees and names of the call's own; names in memory.
-/
namespace Go.Proofs.YtgkofipifjfjhaaGreatDoor.Q
set_option linter.unusedSimpArgs false
set_option linter.unusedVariables false
open Go.RowKit

theorem sshape {w : World} {base : Nat} {e : TypeId} {size : Nat} {v : Value} {n : Nat} {xs : List Value} (h : w.ownsRow base e size v n xs) : ∃ A c, v = .slice A n c ∧ n ≤ c ∧ c ≤ maxLen := by
 rcases h.2 with ⟨rfl, rfl⟩ | ⟨g, cap', cur, rfl, h3, h4, h5, h6, _⟩
 ·exact ⟨none, 0, rfl, Nat.le_refl _, Nat.zero_le _⟩
 ·exact ⟨_, _, rfl, h5, h6⟩
theorem sgrown {w w' : World} {row : Option Nat} (h : w.grownBy w' row) : Kept row.toList w w' :=
 ⟨⟨h.os, h.tape, h.output, h.size, fun k hk => absurd hk (Nat.not_lt_zero _)⟩, fun k hk hn => h.block k hk fun e => hn (by rw [← e]; simp)⟩
/-- Trees of the call's own; what they reach lies in V. -/
def OwnKV (B : Nat) (V w : World) (v : Value) (ks : List M.T) : Prop := ∃ cs, w.ownsRow B 26 4 v ks.length cs ∧ Reps V ks cs
theorem OwnKV.nil (B : Nat) (V w : World) : OwnKV B V w (.slice none 0 0) [] := ⟨[], World.ownsRow_nil w _ _ 4, rfl⟩
theorem OwnKV.frame {B : Nat} {V w w' : World} {v : Value} {l : List M.T} (h : OwnKV B V w v l) (hb : ∀ b, B ≤ b → b < w.heap.size → v.ownBlock = some b → w'.heap[b]? = w.heap[b]?) : OwnKV B V w' v l := by
 obtain ⟨xs, ⟨h1, h2⟩, h3⟩ := h
 refine ⟨xs, ⟨h1, h2.imp id ?_⟩, h3⟩
 rintro ⟨g, cap, cur, rfl, h4, h5, h6⟩
 exact ⟨g, cap, cur, rfl, h4, by rw [hb g h4 (Array.getElem?_eq_some_iff.1 h5).1 rfl]; exact h5, h6⟩
theorem OwnKV.kids {B : Nat} {V w : World} {v : Value} {ks : List M.T} (h : OwnKV B V w v ks) (e : Sub V w) : Kids w ks v := by
 obtain ⟨cs, h1, h2⟩ := h
 have hh := h1
 obtain ⟨hl, h3⟩ := h1
 rcases h3 with ⟨rfl, h0⟩ | ⟨b, cap, cur, rfl, hb, hc, hc1, hm, _, _⟩
 ·obtain rfl : ks = [] := List.eq_nil_of_length_eq_zero h0
  exact Kids.nil _
 ·refine Kids.mk_ ⟨_, _, _, rfl, rfl, hc1, hm, fun hn => ⟨_, rfl, (Array.getElem?_eq_some_iff.1 hc).1, fun k t hk => ?_⟩⟩
  obtain ⟨v', k0, k1, k2, k3, k4⟩ := h2.get hk
  have key : ∀ j u, cs[j]? = some u → w.cell? ((⟨b, 0, none⟩ : Addr).add j) = some u := fun j u hu => World.ownsRow.cells hh (g := b) rfl _ _ hu
  rw [M.T.eta t]
  refine inAt_mk.2 ⟨v', ⟨key _ _ k0, ?_, ?_, ?_⟩, k4.sub e⟩
  ·rw [Addr.add_add]; exact key _ _ k1
  ·rw [Addr.add_add]; exact key _ _ k2
  ·rw [Addr.add_add]; exact key _ _ k3
theorem OwnKV.lt {B : Nat} {V w : World} {v : Value} {ks : List M.T} (h : OwnKV B V w v ks) : ∀ b, v.ownBlock = some b → B ≤ b ∧ b < w.heap.size := by
 obtain ⟨cs, h1, _⟩ := h
 exact fun b hb => World.ownsRow.lt h1 b hb
theorem OwnKV.shape {B : Nat} {V w : World} {v : Value} {ks : List M.T} (h : OwnKV B V w v ks) : ∃ A c, v = .slice A ks.length c := by
 obtain ⟨xs, h1, _⟩ := h
 obtain ⟨A, c, h, _⟩ := sshape h1
 exact ⟨A, c, h⟩
theorem appKV_run {B : Nat} {V w : World} {v : Value} {ks : List M.T} {t : M.T} {kd : Value} {gL : Nat} {tL : TypeId} (h : OwnKV B V w v ks) (hL : Box w gL #[.bool t.list, .int .i64 t.tok.1, str t.tok.2, kd] tL)
 (hk : Kids V t.kids kd) (h1 : kd.oneCell' = true) (hlen : ks.length + 1 ≤ 1000000) (hbase : B ≤ w.heap.size) (ty : TypeId) :
 ∃ v' w', (Builtin.append_ #[24, 24] ty #[v, .slice (some ⟨gL, 0, none⟩) 1 1]).run Tryz.prog w = .ok v' w' ∧ OwnKV B V w' v' (ks ++ [t]) ∧ Below B w w' ∧ Kept v.ownBlock.toList w w' ∧ (v'.ownBlock = v.ownBlock ∨ v'.ownBlock = some w.heap.size) := by
 obtain ⟨i0, hi, hz0, hz1, hz2⟩ := info_parts info_Tree
 obtain ⟨cs, ho, hr⟩ := h
 obtain ⟨v', w', hrun, ho', hg, _, hv'⟩ := run_append_own_at (P := Tryz.prog) w B 24 ty 26 i0 _ 4 56 Tryz.underlying24 hi hz0 hz1 hz2 rfl (by decide) v ks.length cs ho ⟨gL, 0, none⟩ 1 1
  [.bool t.list, .int .i64 t.tok.1, str t.tok.2, kd] rfl (by
   intro j u hj
   rw [Addr.add_lit, Nat.zero_add]
   rcases j with _ | _ | _ | _ | j
   ·simp at hj; subst hj; exact hL.cell rfl
   ·simp at hj; subst hj; exact hL.cell rfl
   ·simp at hj; subst hj; exact hL.cell rfl
   ·simp at hj; subst hj; exact hL.cell rfl
   ·simp at hj) (by intro u hu; simp at hu; rcases hu with rfl | rfl | rfl | rfl <;> first | rfl | exact h1) (by unfold maxLen; omega) (by omega) hbase
 exact ⟨v', w', hrun, ⟨_, by rw [List.length_append]; exact ho', hr.snoc hk h1⟩, (Below.refl _ _).grown hg hbase fun k hk => (World.ownsRow.lt ho k hk).1, sgrown hg, hv'⟩
/-- A list of names in memory. -/
def Nms (w : World) (l : List (List UInt8)) (v : Value) : Prop := ∃ A n c, v = .slice A n c ∧ n = l.length ∧ n ≤ c ∧ c ≤ maxLen ∧ (l ≠ [] → ∃ ad, A = some ad ∧ ad.block < w.heap.size ∧ ∀ k x, l[k]? = some x → w.cell? (ad.add k) = some (str x))
theorem Nms.up {w w' : World} {l : List (List UInt8)} {v : Value} (h : Nms w l v) (e : Ext w w') : Nms w' l v := by
 obtain ⟨A, n, c, h1, h2, h3, h4, h5⟩ := h
 refine ⟨A, n, c, h1, h2, h3, h4, fun hne => ?_⟩
 obtain ⟨ad, ha, hb, hc⟩ := h5 hne
 exact ⟨ad, ha, Nat.lt_of_lt_of_le hb e.size, fun k s hk => e.cell (hc k s hk)⟩
theorem Nms.shape {w : World} {l : List (List UInt8)} {v : Value} (h : Nms w l v) : ∃ A c, v = .slice A l.length c := by
 obtain ⟨A, n, c, h1, h2, _⟩ := h
 exact ⟨A, c, by rw [h1, h2]⟩
theorem Nms.le {w : World} {A : Option Addr} {n c : Nat} {l : List (List UInt8)} (h : Nms w l (.slice A n c)) : n = l.length ∧ n ≤ c ∧ c ≤ 9223372036854775807 := by
 obtain ⟨A', n', c', e, h2, h3, h4, _⟩ := h
 injection e with e1 e2 e3
 subst e1 e2 e3
 exact ⟨h2, h3, by unfold maxLen at h4; omega⟩
theorem Nms.get {w : World} {A : Option Addr} {n c : Nat} {l : List (List UInt8)} (h : Nms w l (.slice A n c)) {k : Nat} (hk : k < n) : ∃ ad x, A = some ad ∧ l[k]? = some x ∧ w.cell? (ad.add k) = some (str x) := by
 obtain ⟨A', n', c', e, h2, h3, h4, h5⟩ := h
 injection e with e1 e2 e3
 subst e1 e2 e3
 obtain ⟨ad, ha, hb, hc⟩ := h5 (by intro e; subst e; simp at h2; omega)
 obtain ⟨x, hx⟩ : ∃ x, l[k]? = some x := ⟨_, List.getElem?_eq_getElem (by omega)⟩
 exact ⟨ad, x, ha, hx, hc k x hx⟩
/-- The first k of them. -/
theorem Nms.take {w : World} {A : Option Addr} {n c k : Nat} {l : List (List UInt8)} (h : Nms w l (.slice A n c)) (hk : k ≤ n) : Nms w (l.take k) (.slice A k c) := by
 obtain ⟨A', n', c', e, h2, h3, h4, h5⟩ := h
 injection e with e1 e2 e3
 subst e1 e2 e3
 refine ⟨_, _, _, rfl, by rw [List.length_take]; omega, by omega, h4, fun hne => ?_⟩
 obtain ⟨ad, ha, hb, hc⟩ := h5 (by intro e; subst e; simp at hne)
 refine ⟨ad, ha, hb, fun j x hj => hc j x ?_⟩
 rw [List.getElem?_take] at hj
 split at hj
 ·exact hj
 ·cases hj
theorem info_nm : (Tryz.prog.info? 9).map (fun i => (i.zero, i.size, i.bytes)) = some (some (.string ⟨#[]⟩), 1, 16) := by kernel_rfl
def OwnNm (B : Nat) (w : World) (v : Value) (l : List (List UInt8)) : Prop := w.ownsRow B 9 1 v l.length (l.map str)
theorem OwnNm.nil (B : Nat) (w : World) : OwnNm B w (.slice none 0 0) [] := World.ownsRow_nil w _ _ 1
theorem OwnNm.lt {B : Nat} {w : World} {v : Value} {l : List (List UInt8)} (h : OwnNm B w v l) : ∀ b, v.ownBlock = some b → B ≤ b ∧ b < w.heap.size := fun b hb => World.ownsRow.lt h b hb
theorem OwnNm.frame {B : Nat} {w w' : World} {v : Value} {l : List (List UInt8)} (h : OwnNm B w v l) (hb : ∀ b, B ≤ b → b < w.heap.size → v.ownBlock = some b → w'.heap[b]? = w.heap[b]?) : OwnNm B w' v l := by
 obtain ⟨h1, h2⟩ := h
 refine ⟨h1, h2.imp id ?_⟩
 rintro ⟨g, cap, cur, rfl, h4, h5, h6⟩
 exact ⟨g, cap, cur, rfl, h4, by rw [hb g h4 (Array.getElem?_eq_some_iff.1 h5).1 rfl]; exact h5, h6⟩
theorem OwnNm.nms {B : Nat} {w : World} {v : Value} {l : List (List UInt8)} (h : OwnNm B w v l) : Nms w l v := by
 have hh : w.ownsRow B 9 1 v l.length (l.map str) := h
 obtain ⟨hl, h3⟩ := h
 rcases h3 with ⟨rfl, h0⟩ | ⟨b, cap, cur, rfl, hb, hc, hc1, hm, _, _⟩
 ·obtain rfl : l = [] := List.eq_nil_of_length_eq_zero h0
  exact ⟨none, 0, 0, rfl, rfl, Nat.le_refl _, Nat.zero_le _, fun h => absurd rfl h⟩
 ·refine ⟨_, _, _, rfl, rfl, hc1, hm, fun hn => ⟨_, rfl, (Array.getElem?_eq_some_iff.1 hc).1, fun k x hk => ?_⟩⟩
  exact World.ownsRow.cells hh (g := b) rfl k _ (by rw [List.getElem?_map, hk]; rfl)
theorem OwnNm.shape {B : Nat} {w : World} {v : Value} {l : List (List UInt8)} (h : OwnNm B w v l) : ∃ A c, v = .slice A l.length c := by
 obtain ⟨A, c, h, _⟩ := sshape h
 exact ⟨A, c, h⟩
theorem appNm_run {B : Nat} {w : World} {v : Value} {l : List (List UInt8)} {x : List UInt8} {gL : Nat} {tL : TypeId} (h : OwnNm B w v l) (hL : Box w gL #[str x] tL) (hlen : l.length + 1 ≤ 1000000) (hbase : B ≤ w.heap.size) (ty : TypeId) :
 ∃ v' w', (Builtin.append_ #[218, 218] ty #[v, .slice (some ⟨gL, 0, none⟩) 1 1]).run Tryz.prog w = .ok v' w' ∧ OwnNm B w' v' (l ++ [x]) ∧ Below B w w' ∧ Kept v.ownBlock.toList w w' ∧ (v'.ownBlock = v.ownBlock ∨ v'.ownBlock = some w.heap.size) := by
 obtain ⟨i0, hi, hz0, hz1, hz2⟩ := info_parts info_nm
 obtain ⟨v', w', hrun, ho', hg, _, hv'⟩ := run_append_own_at (P := Tryz.prog) w B 218 ty 9 i0 _ 1 16 Tryz.underlying218 hi hz0 hz1 hz2 rfl (by decide) v l.length _ h ⟨gL, 0, none⟩ 1 1 [str x] rfl (by
  intro j u hj
  rw [Addr.add_lit, Nat.zero_add]
  rcases j with _ | j
  ·simp at hj; subst hj; exact hL.cell rfl
  ·simp at hj) (by intro u hu; simp at hu; subst hu; rfl) (by unfold maxLen; omega) (by omega) hbase
 refine ⟨v', w', hrun, ?_, (Below.refl _ _).grown hg hbase fun k hk => (World.ownsRow.lt h k hk).1, sgrown hg, hv'⟩
 unfold OwnNm
 rw [List.length_append, List.map_append]
 exact ho'
end Go.Proofs.YtgkofipifjfjhaaGreatDoor.Q

/-
  Contracts of package sort: its words: operator, Reserved, word, symbolic, free, paired.
-/
namespace Go.Proofs.YtgkofipifjfjhaaGreatDoor.Q
set_option linter.unusedSimpArgs false
set_option linter.unusedVariables false
open Go.RowKit

/-- The table of words reads as the text lays it. -/
def TabW (w : World) : Prop := ∀ k x, M.opWords[k]? = some x → w.cell? ⟨0, k, none⟩ = some (str x)
theorem TabW.up {w w' : World} (h : TabW w) (e : Ext w w') : TabW w' := fun k x hk => e.cell (h k x hk)
def wordsV : Array Value := (M.opWords.map str).toArray
theorem load_words {w : World} (h : TabW w) : (Instr.loadAt 141 (.pointer (some ⟨0, 0, none⟩))).run Tryz.prog w = .ok (.agg wordsV) w := by
 have hc := run_loadCells_list (P := Tryz.prog) (w := w) ⟨0, 0, none⟩ (M.opWords.map str) (fun j v hj => by
  rw [List.getElem?_map] at hj
  obtain ⟨x, hx, rfl⟩ := Option.map_eq_some_iff.1 hj
  rw [Addr.add_lit, Nat.zero_add]
  exact h j x hx)
 rw [show (M.opWords.map str).length = 23 from rfl] at hc
 have ha : (isAgg 141).run Tryz.prog w = .ok true w := by kernel_rfl
 simp [Instr.loadAt, Instr.sureAddr, loadVar, ha, hc]
 rfl
theorem index_words {k : Nat} {x : List UInt8} (h : M.opWords[k]? = some x) (w : World) : (Instr.index 141 (.agg wordsV) (.int .i64 (k : Int))).run Tryz.prog w = .ok (str x) w := by
 have hlt : k < 23 := (List.getElem?_eq_some_iff.1 h).1
 have hv : wordsV[k]? = some (str x) := by unfold wordsV; simp [h]
 have hz : 0 ≤ (k : Int) ∧ (k : Int) < 23 := by omega
 simp [Instr.index, run_underlying Tryz.underlying141, asIntOf, hz, hv, go_sem]
 omega

theorem exec_load {P : Program} {ρ : Operand → Value} {o : Oper} {t : TypeId} {x : Operand} {u v : Value} {w : World} (ho : o.op = .load t x) (hx : ρ x = u) (h : (Instr.loadAt t u).run P w = .ok v w) : (execOp ρ o).run P w = .ok (.value v) w := by
 unfold execOp
 rw [ho]
 subst hx
 simp [h]
set_option maxHeartbeats 1000000 in
theorem operator_n (s : List UInt8) {w : World} (h : TabW w) : Calls Tryz.prog 65 #[str s] w fun e w' => e = .returned (.int .i64 (M.opOf s : Int)) ∧ Ext w w' := by
 have HL := hid (fun (w' : World) (e : Ext w w') => load_words (h.up e))
 have hix := fun (k : Nat) (x : List UInt8) (hk : M.opWords[k]? = some x) (w : World) => index_words hk w
 obtain ⟨WV, hWV⟩ : ∃ WV, wordsV = WV := ⟨_, rfl⟩
 rw [hWV] at HL hix
 have HX := hid hix
 clear hix hWV h
 go_enter Tryz.func65, Tryz.ntmps65
 go_upto_region 1 with (fail)
 refine wp_region_S [(0, 0), (1, 0)] fun wd hb => ?_
 refine WE.q 5 (.agg WV) rfl (fun w' hk => exec_load rfl rfl (HL.out w' (hb.trans hk))) ?_
 refine WE.p 6 (.int .i64 0) ?_
 refine WE.done ?_
 have E := hid hb
 clear hb
 simp only [Act.put, pA, pB, pC]
 go_wp2_with fail
 go_loopw [6] (fun i wr => wr = wd ∧ ∃ (k : Nat), i = .int .i64 (k : Int) ∧ k ≤ 23 ∧ Hid (∀ x ∈ M.opWords.take k, x ≠ s)) (fun i _ => 23 - (intOf i).toNat)
 case atStart => exact ⟨rfl, 0, rfl, Nat.zero_le _, fun x hx => by simp at hx⟩
 case round =>
  obtain ⟨rfl, k, rfl, hk, hR⟩ := hrel
  rcases Nat.lt_or_ge k 23 with hlt | hge
  ·have hlt' : (k : Int) < 23 := by omega
   obtain ⟨x, hx⟩ : ∃ x, M.opWords[k]? = some x := ⟨_, List.getElem?_eq_getElem (show k < M.opWords.length from hlt)⟩
   have hi := HX.out k x hx
   have HK := hid hx
   clear hx
   by_cases hs : x = s
   ·have HS := hid (show M.opOf s = k from M.opOf_hit hR.out (by rw [← hs]; exact HK.out))
    have hs' : (x == s) = true := by simpa using hs
    clear hs
    go_wp2
    go_ret
    rw [HS.out]
    exact ⟨rfl, E.out⟩
   ·have hs' : (x == s) = false := by simpa using hs
    have HN := hid hs
    clear hs
    go_wp2
    go_roundw
    case rel => exact ⟨trivial, k + 1, by simp, by omega, fun y hy => by
     rw [List.take_add_one, HK.out] at hy
     simp only [List.mem_append, Option.toList_some, List.mem_singleton] at hy
     rcases hy with hy | rfl
     ·exact hR.out y hy
     ·exact HN.out⟩
    case measure => simp [intOf]; omega
  ·obtain rfl : k = 23 := by omega
   have HS := hid (show M.opOf s = 0 from M.opOf_miss fun x hx => hR.out x (by rwa [List.take_of_length_le (by decide)]))
   go_wp2
   go_ret
   rw [HS.out]
   exact ⟨rfl, E.out⟩
theorem word_t (s : List UInt8) (w : World) : Calls Tryz.prog 63 #[str s] w fun e w' => e = .returned (.agg #[.int .i64 4, str s]) ∧ Ext w w' := by
 have HR := hid (Box.new w #[.int .i64 0, .string ⟨#[]⟩] 23)
 go_enter Tryz.func63, Tryz.ntmps63
 have r0 := HR.out.k 0
 have r1 := HR.out.k 1
 have f0 := HR.out.free 0
 have f1 := HR.out.free 1
 have hz := HR.out.lt
 go_wp2
 refine bodyPost_ret (v := .agg #[.int .i64 4, str s]) (by simp [results, Tryz.results63, go_sem, r0, r1, hz]) rfl ?_
 exact ⟨rfl, Ext.alloc w _⟩
theorem symbolic_t (t : M.T) {v : Value} {w : World} (h : IsT w t v) : Calls Tryz.prog 155 #[v] w (GivesB w (M.isSymT t)) := by
 obtain ⟨A, c, rfl, hk⟩ := h
 obtain ⟨l, ⟨k, s⟩, ks⟩ := t
 have HZ := hid (show M.isSymT (.mk l (k, s) ks) = (k == 4) by unfold M.isSymT; rw [Bool.eq_iff_iff, decide_eq_true_iff]; simp [M.T.tok])
 rw [HZ.out]
 clear hk HZ
 show Calls Tryz.prog 155 #[tv l (k, s) A ks.length c] w _
 obtain ⟨n, hn⟩ : ∃ n, ks.length = n := ⟨_, rfl⟩
 rw [hn]
 clear hn
 go_enter Tryz.func155, Tryz.ntmps155
 go_wp2
 go_ret
 exact ⟨rfl, Ext.alloc w _⟩
theorem prefix_t (s p : List UInt8) {b : Bool} (hb : Lib.hasPrefix s p = b) (w : World) : Calls Tryz.prog 66 #[str s, str p] w fun e w' => e = .returned (.bool b) ∧ w' = w := by
 have := Tryz.strings_HasPrefix ⟨s.toArray⟩ ⟨p.toArray⟩ w
 subst hb
 exact this
theorem index_t {l : List (List UInt8)} {v : Value} {w : World} (h : Nms w l v) (s : List UInt8) : Calls Tryz.prog 294 #[v, str s] w fun e w' => ∃ z : Int, e = .returned (.int .i64 z) ∧ Hid (decide (0 ≤ z) = l.contains s) ∧ w' = w := by
 obtain ⟨A, c, rfl⟩ := h.shape
 obtain ⟨hl1, hl2, hl3⟩ := h.le
 obtain ⟨n, hn⟩ : ∃ n, l.length = n := ⟨_, rfl⟩
 rw [hn] at h hl2 ⊢
 have HK := hid h
 have HN := hid hn
 clear h hl1 hn
 go_enter Tryz.func294, Tryz.ntmps294
 go_wp2_with fail
 go_loopw [8] (fun i wr => wr = w ∧ ∃ (k : Nat), i = .int .i64 (k : Int) ∧ k ≤ n ∧ Hid ((l.take k).contains s = false)) (fun i _ => n - (intOf i).toNat)
 case atStart => exact ⟨rfl, 0, rfl, Nat.zero_le _, hid (by simp)⟩
 case round =>
  obtain ⟨rfl, k, rfl, hk, hR⟩ := hrel
  rcases Nat.lt_or_ge k n with hlt | hge
  ·have hlt' : (k : Int) < (n : Int) := by omega
   obtain ⟨ad, x, rfl, hx, hc⟩ := HK.out.get hlt
   have HX := hid hx
   clear hx
   by_cases hs : s = x
   ·have hs' : (s == x) = true := by simpa using hs
    have HM := hid (show decide (0 ≤ (k : Int)) = l.contains s by
     rw [decide_eq_true (by omega), eq_comm, List.contains_iff_mem, hs]
     exact List.mem_of_getElem? HX.out)
    clear hs
    go_wp2
    go_ret
    exact ⟨_, rfl, HM.out, rfl⟩
   ·have hs' : (s == x) = false := by simpa using hs
    have HM := hid (show (l.take (k + 1)).contains s = false by
     rw [List.take_add_one, HX.out]
     have := hR.out
     simp only [Option.toList_some, List.contains_append, this, Bool.false_or]
     simp [hs])
    clear hs hR
    go_wp2
    go_roundw
    case rel => exact ⟨trivial, k + 1, by simp, by omega, HM.out⟩
    case measure => simp [intOf]; omega
  ·obtain rfl : k = n := by omega
   have HM := hid (show decide (0 ≤ (-1 : Int)) = l.contains s by
    have := hR.out
    rw [← HN.out, List.take_length] at this
    rw [this]; rfl)
   clear hR
   go_wp2
   go_ret
   exact ⟨_, rfl, HM.out, rfl⟩
theorem contains_t {l : List (List UInt8)} {v : Value} {w : World} (h : Nms w l v) (s : List UInt8) : Calls Tryz.prog 259 #[v, str s] w fun e w' => e = .returned (.bool (l.contains s)) ∧ w' = w := by
 obtain ⟨A, c, rfl⟩ := h.shape
 have HC := hid (index_t h s)
 obtain ⟨q, hq⟩ : ∃ q, l.contains s = q := ⟨_, rfl⟩
 rw [hq] at HC ⊢
 obtain ⟨n, hn⟩ : ∃ n, l.length = n := ⟨_, rfl⟩
 rw [hn] at HC ⊢
 clear h hq hn
 go_enter Tryz.func259, Tryz.ntmps259
 go_wp2_with fail
 refine HC.out.mono ?_
 rintro e w' ⟨z, rfl, hz, rfl⟩
 go_wp2
 go_ret
 exact ⟨ret_bool hz.out, rfl⟩
theorem alone_t (s : List UInt8) (w : World) : Calls Tryz.prog 64 #[str s] w (GivesB w (M.barred s)) := by
 obtain ⟨z, hz⟩ : ∃ z, M.barred s = z := ⟨_, rfl⟩
 have hz' : z = decide (s = M.bTrue ∨ s = M.bFalse ∨ s = M.bInt ∨ s = M.bBool) := by rw [← hz, M.barred]
 rw [hz]
 clear hz
 by_cases h5 : s = M.bTrue ∨ s = M.bFalse ∨ s = M.bInt ∨ s = M.bBool
 ·have HZ := hid (show true = z by rw [hz', decide_eq_true h5])
  clear hz'
  replace h5 : s = [116, 114, 117, 101] ∨ s = [102, 97, 108, 115, 101] ∨ s = [73, 110, 116] ∨ s = [66, 111, 111, 108] := h5
  rcases h5 with rfl | rfl | rfl | rfl <;> (
   go_enter Tryz.func64, Tryz.ntmps64
   go_wp2
   go_ret
   obtain rfl := HZ.out
   exact ⟨rfl, Ext.refl _⟩)
 ·have HZ := hid (show false = z by rw [hz', decide_eq_false h5])
  clear hz'
  have n1 : (s == [116, 114, 117, 101]) = false := by simpa [M.bTrue] using fun e => h5 (.inl e)
  have n2 : (s == [102, 97, 108, 115, 101]) = false := by simpa [M.bFalse] using fun e => h5 (.inr (.inl e))
  have n4 : (s == [73, 110, 116]) = false := by simpa [M.bInt] using fun e => h5 (.inr (.inr (.inl e)))
  have n5 : (s == [66, 111, 111, 108]) = false := by simpa [M.bBool] using fun e => h5 (.inr (.inr (.inr e)))
  clear h5
  go_enter Tryz.func64, Tryz.ntmps64
  go_wp2
  go_ret
  obtain rfl := HZ.out
  exact ⟨rfl, Ext.refl _⟩
set_option maxHeartbeats 1000000 in
theorem reserved_t (s : List UInt8) {w : World} (h : TabW w) : Calls Tryz.prog 21 #[str s] w (GivesB w (M.resv s)) := by
 have HO := hid (fun (w' : World) (e : Ext w w') => operator_n s (h.up e))
 obtain ⟨p, hp⟩ : ∃ p, Lib.hasPrefix s [33] = p := ⟨_, rfl⟩
 have HP := hid (fun (w' : World) => prefix_t s [33] hp w')
 obtain ⟨q, hq⟩ : ∃ q, M.barred s = q := ⟨_, rfl⟩
 have HA := hid (fun (w' : World) => hq ▸ alone_t s w')
 obtain ⟨k, hk⟩ : ∃ k, M.opOf s = k := ⟨_, rfl⟩
 rw [hk] at HO
 obtain ⟨z, hz⟩ : ∃ z, M.resv s = z := ⟨_, rfl⟩
 have hz' : z = (decide (s = M.bLet) || (q || (decide (k ≠ 0) || p))) := by
  rw [← hz, M.resv, hp, hk, ← hq, M.barred, Bool.eq_iff_iff]
  simp only [Bool.or_eq_true, decide_eq_true_iff]
  grind
 rw [hz]
 clear h hp hk hz hq
 by_cases h5 : s = M.bLet
 ·have HZ := hid (show true = z by rw [hz', decide_eq_true h5, Bool.true_or])
  clear hz'
  replace h5 : s = [108, 101, 116] := h5
  subst h5
  go_enter Tryz.func21, Tryz.ntmps21
  go_wp2
  go_ret
  obtain rfl := HZ.out
  exact ⟨rfl, Ext.refl _⟩
 ·have HZ := hid (show z = (q || (decide (k ≠ 0) || p)) by rw [hz', decide_eq_false h5, Bool.false_or])
  clear hz'
  have n3 : (s == [108, 101, 116]) = false := by simpa [M.bLet] using h5
  clear h5
  cases q
  ·by_cases h0 : k = 0
   ·subst h0
    go_enter Tryz.func21, Tryz.ntmps21
    go_wp2_with fail
    refine (HA.out _).mono ?_
    rintro e w1 ⟨rfl, hb⟩
    have E := hid hb
    clear hb
    go_wp2_with fail
    refine (HO.out _ E.out).mono ?_
    rintro e w2 ⟨rfl, hb⟩
    replace E := hid (E.out.trans hb)
    clear hb
    go_wp2_with fail
    refine (HP.out _).mono ?_
    rintro e w' ⟨rfl, rfl⟩
    go_wp2
    go_ret
    exact ⟨ret_bool (by rw [HZ.out]; simp), E.out⟩
   ·have hq : ((k : Int) != 0) = true := by simpa using h0
    have HK := hid h0
    clear h0
    go_enter Tryz.func21, Tryz.ntmps21
    go_wp2_with fail
    refine (HA.out _).mono ?_
    rintro e w1 ⟨rfl, hb⟩
    have E := hid hb
    clear hb
    go_wp2_with fail
    refine (HO.out _ E.out).mono ?_
    rintro e w2 ⟨rfl, hb⟩
    replace E := hid (E.out.trans hb)
    clear hb
    go_wp2
    go_ret
    exact ⟨ret_bool (by rw [HZ.out]; simp [HK.out]), E.out⟩
  ·go_enter Tryz.func21, Tryz.ntmps21
   go_wp2_with fail
   refine (HA.out _).mono ?_
   rintro e w1 ⟨rfl, hb⟩
   have E := hid hb
   clear hb
   go_wp2
   go_ret
   exact ⟨ret_bool (by rw [HZ.out]; simp), E.out⟩
end Go.Proofs.YtgkofipifjfjhaaGreatDoor.Q

/-
  Contracts of package sort: a let's pairs.
-/
namespace Go.Proofs.YtgkofipifjfjhaaGreatDoor.Q
set_option linter.unusedSimpArgs false
set_option linter.unusedVariables false
open Go.RowKit

/-- The first kid, as a constant index spells its cells. -/
theorem Kids.at0 {w : World} {A : Option Addr} {n c : Nat} {ks : List M.T} (h : Kids w ks (.slice A n c)) (hn : 0 < n) :
 ∃ ad t B d, A = some ad ∧ ks[0]? = some t ∧ (w.cell? ad = some (.bool t.list) ∧ w.cell? ⟨ad.block, ad.off + 1, none⟩ = some (.int .i64 t.tok.1) ∧ w.cell? ⟨ad.block, ad.off + 2, none⟩ = some (str t.tok.2) ∧ w.cell? ⟨ad.block, ad.off + 3, none⟩ = some (.slice B t.kids.length d)) ∧ IsT w t (tv t.list t.tok B t.kids.length d) := by
 obtain ⟨ad, t, B, d, ha, ht, c0, c1, c2, c3, hv⟩ := h.get hn
 rw [Nat.zero_mul, Addr.add_zero'] at c0 c1 c2 c3
 exact ⟨ad, t, B, d, ha, ht, ⟨c0, c1, c2, c3⟩, hv⟩
theorem pairT_eq {t : M.T} {n : Nat} (hn : t.kids.length = n) : M.pairT t = (decide (n = 2) && M.isSymT (M.tkid t 0)) := by rw [M.pairT, hn]
theorem tkid_of {t u : M.T} {k : Nat} (h : t.kids[k]? = some u) : M.tkid t k = u := by unfold M.tkid; rw [List.getD_eq_getElem?_getD, h]; rfl
set_option maxHeartbeats 2000000 in
theorem paired_t (t : M.T) {v : Value} {w : World} (h : IsT w t v) : Calls Tryz.prog 201 #[v] w (GivesB w (M.pairedT t)) := by
 obtain ⟨A, c, rfl, hk⟩ := h
 obtain ⟨l, tk, ks⟩ := t
 replace hk : Kids w ks (.slice A ks.length c) := hk
 show Calls Tryz.prog 201 #[tv l tk A ks.length c] w _
 obtain ⟨hl1, hl2, hl3⟩ := hk.le
 have hl4 : c ≤ 9223372036854775807 := by unfold maxLen at hl3; omega
 obtain ⟨n, hn⟩ : ∃ n, ks.length = n := ⟨_, rfl⟩
 obtain ⟨z, hz⟩ : ∃ z, M.pairedT (.mk l tk ks) = z := ⟨_, rfl⟩
 have hz' : z = (!ks.isEmpty && ks.all M.pairT) := by rw [← hz]; rfl
 rw [hz]
 rw [hn] at hk hl2 ⊢
 have HN := hid hn
 clear hl1 hl3 hz
 obtain ⟨kd, tx⟩ := tk
 by_cases hn0 : n = 0
 ·have HZ := hid (show false = z by
   have : ks = [] := List.eq_nil_of_length_eq_zero (by omega)
   rw [hz', this]; rfl)
  subst hn0
  clear hz' hk hn
  go_enter Tryz.func201, Tryz.ntmps201
  go_wp2
  go_ret
  obtain rfl := HZ.out
  exact ⟨rfl, Ext.alloc w _⟩
 ·have HZ := hid (show z = ks.all M.pairT by
   have : ks ≠ [] := fun e => hn0 (by rw [← hn, e]; rfl)
   rw [hz']
   cases ks with
   | nil => exact absurd rfl this
   | cons a b => rfl)
  have hq : ((n : Int) == 0) = false := by simp; omega
  have HK := hid hk
  clear hz' hk hn0 hn
  go_enter Tryz.func201, Tryz.ntmps201
  go_wp2_with fail
  go_loopw [12] (fun i wr => ∃ (k : Nat), i = .int .i64 (k : Int) ∧ k ≤ n ∧ Hid ((ks.take k).all M.pairT = true ∧ Ext (boxed w l (kd, tx) A n c) wr)) (fun i _ => n - (intOf i).toNat)
  case atStart => exact ⟨0, rfl, Nat.zero_le _, hid ⟨by simp, Ext.refl _⟩⟩
  case round =>
   obtain ⟨k, rfl, hk, hR⟩ := hrel
   have E := hid hR.out.2
   have HS := hid hR.out.1
   clear hR
   rcases Nat.lt_or_ge k n with hlt | hge
   ·have hlt' : (k : Int) < (n : Int) := by omega
    obtain ⟨ad, u, B, d, rfl, hu, c0, c1, c2, c3, hv⟩ := (HK.out.up ((Ext.alloc w _).trans E.out)).get hlt
    have HU := hid hu
    obtain ⟨ul, ⟨uk, ux⟩, us⟩ := u
    obtain ⟨m, hm⟩ : ∃ m, us.length = m := ⟨_, rfl⟩
    replace c0 : wr.cell? (ad.add (k * 4)) = some (.bool ul) := c0
    replace c1 : wr.cell? ⟨(ad.add (k * 4)).block, (ad.add (k * 4)).off + 1, none⟩ = some (.int .i64 uk) := c1
    replace c2 : wr.cell? ⟨(ad.add (k * 4)).block, (ad.add (k * 4)).off + 2, none⟩ = some (str ux) := c2
    replace c3 : wr.cell? ⟨(ad.add (k * 4)).block, (ad.add (k * 4)).off + 3, none⟩ = some (.slice B us.length d) := c3
    have hkd : Kids wr us (.slice B us.length d) := by
     obtain ⟨B', d', e, hk'⟩ := hv
     injection e with e
     have := congrArg (·[3]?) e
     simp at this
     obtain ⟨rfl, rfl⟩ := this
     exact hk'
    rw [hm] at c3 hkd
    obtain ⟨hm1, hm2, hm3⟩ := hkd.le
    have hm4 : d ≤ 9223372036854775807 := by unfold maxLen at hm3; omega
    clear hu hv hm1 hm3
    by_cases h2 : m = 2
    ·subst h2
     obtain ⟨ad0, x, B0, d0, rfl, hx, ⟨x0, x1, x2, x3⟩, hvx⟩ := hkd.at0 (by decide)
     have HX := hid hx
     have HC := hid (fun w' (e : Ext wr w') => symbolic_t x (hvx.up e))
     have g0 := fun o => (Ext.alloc wr o).cell x0
     have g1 := fun o => (Ext.alloc wr o).cell x1
     have g2 := fun o => (Ext.alloc wr o).cell x2
     have g3 := fun o => (Ext.alloc wr o).cell x3
     obtain ⟨q, hq'⟩ : ∃ q, M.isSymT x = q := ⟨_, rfl⟩
     have HQ := hid (show M.pairT (.mk ul (uk, ux) us) = q by rw [pairT_eq (t := .mk ul (uk, ux) us) hm, tkid_of (t := .mk ul (uk, ux) us) (k := 0) HX.out, hq']; rfl)
     rw [hq'] at HC
     clear hx hvx hq' hm hkd x0 x1 x2 x3
     cases q
     ·go_wp2_with (go_at_call 155; refine (HC.out _ (Ext.alloc _ _)).mono ?_; rintro e w' ⟨rfl, hb⟩; replace E := hid ((E.out.alloc' _).trans hb); clear hb)
      go_ret
      obtain rfl : false = z := by
       rw [HZ.out, eq_comm, List.all_eq_false]
       exact ⟨_, List.mem_of_getElem? HU.out, by rw [HQ.out]; decide⟩
      exact ⟨rfl, (Ext.alloc w _).trans E.out⟩
     ·go_wp2_with (go_at_call 155; refine (HC.out _ (Ext.alloc _ _)).mono ?_; rintro e w' ⟨rfl, hb⟩; replace E := hid ((E.out.alloc' _).trans hb); clear hb)
      go_roundw
      case rel => exact ⟨k + 1, by simp, by omega, by rw [List.take_add_one, HU.out, List.all_append, HS.out]; simp [HQ.out], E.out⟩
      case measure => simp [intOf]; omega
    ·have h2' : ((m : Int) != 2) = true := by simp; omega
     have HQ := hid (show M.pairT (.mk ul (uk, ux) us) = false by rw [pairT_eq (t := .mk ul (uk, ux) us) hm, decide_eq_false h2]; rfl)
     clear h2 hm hkd
     go_wp2
     go_ret
     obtain rfl : false = z := by
      rw [HZ.out, eq_comm, List.all_eq_false]
      exact ⟨_, List.mem_of_getElem? HU.out, by rw [HQ.out]; decide⟩
     exact ⟨rfl, (Ext.alloc w _).trans (E.out.alloc' _)⟩
   ·obtain rfl : k = n := by omega
    have HM := hid (show true = z by rw [HZ.out, ← HS.out, ← HN.out, List.take_length])
    clear HS
    go_wp2
    go_ret
    obtain rfl := HM.out
    exact ⟨rfl, (Ext.alloc w _).trans E.out⟩
end Go.Proofs.YtgkofipifjfjhaaGreatDoor.Q

/-
  Contracts of package sort: free, Sort.
-/
namespace Go.Proofs.YtgkofipifjfjhaaGreatDoor.Q
set_option linter.unusedSimpArgs false
set_option linter.unusedVariables false
open Go.RowKit

set_option maxHeartbeats 2000000 in
theorem free_t {l : List (List UInt8)} {v : Value} {w : World} (h : Nms w l v) (ht : TabW w) : Calls Tryz.prog 203 #[v] w (GivesB w (M.freeN l)) := by
 obtain ⟨A, c, rfl⟩ := h.shape
 obtain ⟨hl1, hl2, hl3⟩ := h.le
 obtain ⟨n, hn⟩ : ∃ n, l.length = n := ⟨_, rfl⟩
 rw [hn] at h hl2 ⊢
 have HK := hid h
 have HN := hid hn
 have HT := hid ht
 obtain ⟨z, hz⟩ : ∃ z, M.freeN l = z := ⟨_, rfl⟩
 rw [hz]
 have HZ := hid hz
 clear h hl1 hn hz ht
 go_enter Tryz.func203, Tryz.ntmps203
 go_wp2_with fail
 go_loopw [7] (fun i wr => ∃ (k : Nat), i = .int .i64 (k : Int) ∧ k ≤ n ∧ Hid (M.freeN (l.take k) = true ∧ Ext w wr)) (fun i _ => n - (intOf i).toNat)
 case atStart => exact ⟨0, rfl, Nat.zero_le _, hid ⟨rfl, Ext.refl _⟩⟩
 case round =>
  obtain ⟨k, rfl, hk, hR⟩ := hrel
  have E := hid hR.out.2
  have HS := hid hR.out.1
  clear hR
  rcases Nat.lt_or_ge k n with hlt | hge
  ·have hlt' : (k : Int) < (n : Int) := by omega
   have hK := HK.out.up E.out
   have hkt := hK.take (k := k) (by omega)
   obtain ⟨ad, x, rfl, hx, hc⟩ := hK.get hlt
   have HX := hid hx
   obtain ⟨r, hr⟩ : ∃ r, M.resv x = r := ⟨_, rfl⟩
   obtain ⟨q, hq⟩ : ∃ q, (l.take k).contains x = q := ⟨_, rfl⟩
   have HR := hid (show ∀ w', Ext wr w' → Calls Tryz.prog 21 #[str x] w' (GivesB w' r) from fun w' e => hr ▸ reserved_t x ((HT.out.up E.out).up e))
   have HC := hid (show ∀ w', Ext wr w' → Calls Tryz.prog 259 #[.slice (some ad) k c, str x] w' fun e w'' => e = .returned (.bool q) ∧ w'' = w' from fun w' e => hq ▸ contains_t (hkt.up e) x)
   have HB := hid (show M.freeN (l.take (k + 1)) = (true && !(r || q)) by rw [M.freeN_take HX.out, HS.out, hr, hq])
   have HF := hid (show (r || q) = true → z = false from fun hh => by rw [← HZ.out]; exact M.freeN_not HX.out (by rw [hr, hq]; exact hh))
   clear hx hK hkt hr hq
   cases r
   ·cases q
    ·go_wp2_with fail
     refine (HR.out _ (Ext.refl _)).mono ?_
     rintro e w1 ⟨rfl, hb⟩
     have E1 := hid hb
     clear hb
     go_wp2_with fail
     refine (HC.out _ E1.out).mono ?_
     rintro e w2 ⟨rfl, rfl⟩
     go_wp2_with fail
     go_roundw
     case rel => exact ⟨k + 1, by simp, by omega, HB.out, E.out.trans E1.out⟩
     case measure => simp [intOf]; omega
    ·go_wp2_with fail
     refine (HR.out _ (Ext.refl _)).mono ?_
     rintro e w1 ⟨rfl, hb⟩
     have E1 := hid hb
     clear hb
     go_wp2_with fail
     refine (HC.out _ E1.out).mono ?_
     rintro e w2 ⟨rfl, rfl⟩
     go_wp2_with fail
     go_ret
     obtain rfl := HF.out rfl
     exact ⟨rfl, E.out.trans E1.out⟩
   ·go_wp2_with fail
    refine (HR.out _ (Ext.refl _)).mono ?_
    rintro e w1 ⟨rfl, hb⟩
    have E1 := hid hb
    clear hb
    go_wp2_with fail
    go_ret
    obtain rfl := HF.out rfl
    exact ⟨rfl, E.out.trans E1.out⟩
  ·obtain rfl : k = n := by omega
   have HM := hid (show true = z by rw [← HZ.out, ← HS.out, ← HN.out, List.take_length])
   clear HS
   go_wp2
   go_ret
   obtain rfl := HM.out
   exact ⟨rfl, E.out⟩
/-- What Sort tells. -/
def M.sortT (t : M.T) : Int × Int := if t.list = true ∨ t.kids ≠ [] then (0, 10) else if t.tok = (4, M.bInt) then (2, 0) else if t.tok = (4, M.bBool) then (1, 0) else (0, 10)
end Go.Proofs.YtgkofipifjfjhaaGreatDoor.Q

/-
  Contracts of package sort: halves.
-/
namespace Go.Proofs.YtgkofipifjfjhaaGreatDoor.Q
set_option linter.unusedSimpArgs false
set_option linter.unusedVariables false
open Go.RowKit

theorem wpList_appNm {base : Nat} {w : World} {ops : Array Oper} {rest : List Oper} {o : Oper} {a : Act} {Q : Exit → Act → World → Prop} (hgd : o.guard = none) (s x : Operand)
 (ho : o.op = .call { callee := .builtin .append, args := #[s, x], argTypes := #[218, 218] }) {v : Value} {l : List (List UInt8)} {y : List UInt8} {gL : Nat} {tL : TypeId}
 (hs : a.eval s = v) (hx : a.eval x = .slice (some ⟨gL, 0, none⟩) 1 1) (h : OwnNm base w v l) (hL : Box w gL #[str y] tL) (hlen : l.length + 1 ≤ 1000000) (hbase : base ≤ w.heap.size)
 (hq : ∀ v' w', OwnNm base w' v' (l ++ [y]) → Below base w w' → Kept v.ownBlock.toList w w' → (v'.ownBlock = v.ownBlock ∨ v'.ownBlock = some w.heap.size) → wpList Tryz.prog ops Q rest (a.put o.dst v') w') : wpList Tryz.prog ops Q (o :: rest) a w := by
 obtain ⟨v', w', hr, h2, h3, h4, h5⟩ := appNm_run h hL hlen hbase o.type
 refine wpList_plain hgd fun K hK => ?_
 unfold Oper.wp execOp
 simp only [ho, resolve, invoke, builtin, Sem.run_bind, Sem.run_pure, Result.andThen_ok, List.map_toArray, List.map_cons, List.map_nil, hs, hx, hr]
 exact hK _ _ (hq v' w' h2 h3 h4 h5)
theorem wpList_appKV {base : Nat} {V w : World} {ops : Array Oper} {rest : List Oper} {o : Oper} {a : Act} {Q : Exit → Act → World → Prop} (hgd : o.guard = none) (s x : Operand)
 (ho : o.op = .call { callee := .builtin .append, args := #[s, x], argTypes := #[24, 24] }) {v : Value} {l : List M.T} {t : M.T} {kd : Value} {gL : Nat} {tL : TypeId}
 (hs : a.eval s = v) (hx : a.eval x = .slice (some ⟨gL, 0, none⟩) 1 1) (h : OwnKV base V w v l) (hL : Box w gL #[.bool t.list, .int .i64 t.tok.1, str t.tok.2, kd] tL) (hk : Kids V t.kids kd) (h1 : kd.oneCell' = true) (hlen : l.length + 1 ≤ 1000000) (hbase : base ≤ w.heap.size)
 (hq : ∀ v' w', OwnKV base V w' v' (l ++ [t]) → Below base w w' → Kept v.ownBlock.toList w w' → (v'.ownBlock = v.ownBlock ∨ v'.ownBlock = some w.heap.size) → wpList Tryz.prog ops Q rest (a.put o.dst v') w') : wpList Tryz.prog ops Q (o :: rest) a w := by
 obtain ⟨v', w', hr, h2, h3, h4, h5⟩ := appKV_run h hL hk h1 hlen hbase o.type
 refine wpList_plain hgd fun K hK => ?_
 unfold Oper.wp execOp
 simp only [ho, resolve, invoke, builtin, Sem.run_bind, Sem.run_pure, Result.andThen_ok, List.map_toArray, List.map_cons, List.map_nil, hs, hx, hr]
 exact hK _ _ (hq v' w' h2 h3 h4 h5)
/-- The second kid, as a constant index spells its cells. -/
theorem Kids.at1 {w : World} {A : Option Addr} {n c : Nat} {ks : List M.T} (h : Kids w ks (.slice A n c)) (hn : 1 < n) :
 ∃ ad t B d, A = some ad ∧ ks[1]? = some t ∧ (w.cell? ⟨ad.block, ad.off + 4, none⟩ = some (.bool t.list) ∧ w.cell? ⟨ad.block, ad.off + 4 + 1, none⟩ = some (.int .i64 t.tok.1) ∧ w.cell? ⟨ad.block, ad.off + 4 + 2, none⟩ = some (str t.tok.2) ∧ w.cell? ⟨ad.block, ad.off + 4 + 3, none⟩ = some (.slice B t.kids.length d)) ∧ IsT w t (tv t.list t.tok B t.kids.length d) := by
 obtain ⟨ad, t, B, d, ha, ht, c0, c1, c2, c3, hv⟩ := h.get hn
 have e1 : ad.add (1 * 4) = ⟨ad.block, ad.off + 4, none⟩ := by unfold Addr.add; rfl
 rw [e1] at c0 c1 c2 c3
 exact ⟨ad, t, B, d, ha, ht, ⟨c0, c1, c2, c3⟩, hv⟩
theorem T.kv {w : World} {l : Bool} {tk : M.Tok} {us : List M.T} {B : Option Addr} {m d : Nat} (h : IsT w (.mk l tk us) (tv l tk B m d)) : Kids w us (.slice B us.length d) ∧ m = us.length := by
 obtain ⟨B', d', e, hk'⟩ := h
 injection e with e
 have := congrArg (·[3]?) e
 simp at this
 obtain ⟨rfl, rfl, rfl⟩ := this
 exact ⟨hk', rfl⟩
/-- Names and trees. -/
def GivesH (w : World) (ns : List (List UInt8)) (ts : List M.T) (e : Ending) (w' : World) : Prop := ∃ v v', e = .returned (.tuple #[v, v']) ∧ Nms w' ns v ∧ Kids w' ts v' ∧ Ext w w'
set_option maxHeartbeats 4000000 in
theorem halves_t {ks : List M.T} {v : Value} {w : World} (h : Kids w ks v) (hp : ks.all M.pairT = true) (hlen : ks.length ≤ 1000) : Calls Tryz.prog 202 #[v] w (GivesH w (ks.map M.pName) (ks.map M.pTree)) := by
 obtain ⟨A, c, rfl⟩ := h.shape
 obtain ⟨hl1, hl2, hl3⟩ := h.le
 have hl4 : c ≤ 9223372036854775807 := by unfold maxLen at hl3; omega
 obtain ⟨n, hn⟩ : ∃ n, ks.length = n := ⟨_, rfl⟩
 rw [hn] at h hl2 hlen ⊢
 have HK := hid h
 have HN := hid hn
 have HP := hid hp
 clear h hn hl1 hl3 hp
 go_enter Tryz.func202, Tryz.ntmps202
 go_wp2_with fail
 go_loopw [4, 5, 10] (fun x y i wr => ∃ k : Nat, k ≤ n ∧ i = .int .i64 k ∧ Hid (OwnNm w.heap.size wr x ((ks.take k).map M.pName) ∧ OwnKV w.heap.size w wr y ((ks.take k).map M.pTree) ∧ (∀ b, x.ownBlock = some b → y.ownBlock ≠ some b) ∧ Ext w wr)) (fun _ _ i _ => n - (intOf i).toNat)
 case atStart => exact ⟨0, Nat.zero_le _, rfl, hid ⟨OwnNm.nil _ _, OwnKV.nil _ _ _, fun b hb => by simp [Value.ownBlock] at hb, Ext.refl _⟩⟩
 case round =>
  obtain ⟨k, hk, rfl, hR⟩ := hrel
  have E := hid hR.out.2.2.2
  obtain ⟨L, hL⟩ : ∃ L, (ks.take k).map M.pName = L := ⟨_, rfl⟩
  obtain ⟨L2, hL2⟩ : ∃ L, (ks.take k).map M.pTree = L := ⟨_, rfl⟩
  have hO := hR.out.1
  have hO2 := hR.out.2.1
  have HD := hid hR.out.2.2.1
  rw [hL] at hO
  rw [hL2] at hO2
  have HL := hid hL
  have HL2 := hid hL2
  have HLK := hid (show L.length = k ∧ L2.length = k by rw [← HL.out, ← HL2.out, List.length_map, List.length_map, List.length_take, HN.out]; omega)
  obtain ⟨IA, ic, rfl⟩ := hO.shape
  obtain ⟨IB, jc, rfl⟩ := hO2.shape
  obtain ⟨m, hm⟩ : ∃ m, L.length = m := ⟨_, rfl⟩
  obtain ⟨m2, hm2⟩ : ∃ m, L2.length = m := ⟨_, rfl⟩
  rw [hm] at hO HD ⊢
  rw [hm2] at hO2 HD ⊢
  have HO := hid hO
  have HO2 := hid hO2
  clear hR hL hL2 hO hO2 hm hm2
  rcases Nat.lt_or_ge k n with hlt | hge
  ·have hlt' : (k : Int) < (n : Int) := by omega
   obtain ⟨ad, u, B, d, rfl, hu, c0, c1, c2, c3, hv⟩ := HK.out.get hlt
   have HU := hid hu
   have hpu := List.all_eq_true.1 HP.out u (List.mem_of_getElem? hu)
   obtain ⟨ul, ⟨uk, ux⟩, us⟩ := u
   have h2 : us.length = 2 := by
    rw [pairT_eq (t := .mk ul (uk, ux) us) rfl, Bool.and_eq_true, decide_eq_true_iff] at hpu
    exact hpu.1
   have hkd := (T.kv hv).1
   replace c0 : wr.cell? (ad.add (k * 4)) = some (.bool ul) := E.out.cell c0
   replace c1 : wr.cell? ⟨(ad.add (k * 4)).block, (ad.add (k * 4)).off + 1, none⟩ = some (.int .i64 uk) := E.out.cell c1
   replace c2 : wr.cell? ⟨(ad.add (k * 4)).block, (ad.add (k * 4)).off + 2, none⟩ = some (str ux) := E.out.cell c2
   replace c3 : wr.cell? ⟨(ad.add (k * 4)).block, (ad.add (k * 4)).off + 3, none⟩ = some (.slice B us.length d) := E.out.cell c3
   obtain ⟨hm1, hm2, hm3⟩ := hkd.le
   have hm4 : d ≤ 9223372036854775807 := by unfold maxLen at hm3; omega
   rw [h2] at c3 hkd hm2
   obtain ⟨ad0, x, B0, d0, rfl, hx, ⟨x0, x1, x2, x3⟩, hvx⟩ := hkd.at0 (by decide)
   obtain ⟨ad1, y, B1, d1, hadd, hy, ⟨y0, y1, y2, y3⟩, hvy⟩ := hkd.at1 (by decide)
   injection hadd with hadd
   subst hadd
   have g2 := fun o => (Ext.alloc wr o).cell (E.out.cell x2)
   have HPN := hid (show M.pName (.mk ul (uk, ux) us) = x.tok.2 by unfold M.pName; rw [tkid_of (t := .mk ul (uk, ux) us) (k := 0) hx])
   have HPT := hid (show M.pTree (.mk ul (uk, ux) us) = y by unfold M.pTree; rw [tkid_of (t := .mk ul (uk, ux) us) (k := 1) hy])
   have hlen9 := hid (show L.length + 1 ≤ 1000000 ∧ L2.length + 1 ≤ 1000000 by have := HLK.out; omega)
   have Y := hid (And.intro (And.intro y0 y1) (And.intro y2 y3))
   have HVY := hid hvy
   obtain ⟨yl, ⟨yk, yt⟩, ys⟩ := y
   replace Y : Hid ((w.cell? ⟨ad0.block, ad0.off + 4, none⟩ = some (.bool yl) ∧ w.cell? ⟨ad0.block, ad0.off + 4 + 1, none⟩ = some (.int .i64 yk)) ∧ w.cell? ⟨ad0.block, ad0.off + 4 + 2, none⟩ = some (str yt) ∧ w.cell? ⟨ad0.block, ad0.off + 4 + 3, none⟩ = some (.slice B1 ys.length d1)) := Y
   obtain ⟨yn, hyn⟩ : ∃ yn, ys.length = yn := ⟨_, rfl⟩
   have HKY := hid (T.kv hvy).1
   rw [hyn] at Y HKY
   clear hu hv hpu hkd hx hy hvx h2 x0 x1 x2 x3 y0 y1 y2 y3 hvy HVY hm1 hm3 hyn
   go_wp2_with (at_builtin; refine wpList_appNm rfl (.tmp 14) (.tmp 21) rfl (base := w.heap.size) (l := L) (y := x.tok.2) (gL := wr.heap.size + 1) (tL := 9) rfl rfl ?own ?box hlen9.out.1 ?base ?_)
   case own => exact (HO.out.frame fun b _ hb _ => (Ext.alloc wr _).block b hb).frame fun b _ hb _ => (Ext.alloc (wr.alloc _) _).block b hb
   case box => exact Box.at_ (w := wr.alloc _) _ _ (by simp)
   case base => have := E.out.size; simp; omega
   intro v' w5 hO5 hB5 hK5 hv5
   have hs5 := E.out.size
   have hlt1 := HO.out.lt
   have hlt2 := HO2.out.lt
   have hW5 := hid (show wr.heap.size + 2 ≤ w5.heap.size by have := hB5.size; simpa using this)
   have hO25 : OwnKV w.heap.size w w5 (.slice IB m2 jc) L2 := ((HO2.out.frame fun b _ hb _ => (Ext.alloc wr _).block b hb).frame fun b _ hb _ => (Ext.alloc (wr.alloc _) _).block b hb).frame fun b _ hb hob => hK5.2 b hb (fun hmem => HD.out b (by simpa using hmem) hob)
   have HO5 := hid hO5
   have HO25 := hid hO25
   have E5 := hid (show Ext w w5 from Below.trans (B := w.heap.size) ((E.out.alloc' _).alloc' _) hB5)
   have HD5 := hid (show ∀ b, v'.ownBlock = some b → (Value.slice IB m2 jc).ownBlock ≠ some b from fun b hb => by
    rcases hv5 with e | e
    ·exact HD.out b (by rw [← e]; exact hb)
    ·rw [hb] at e
     injection e with e
     intro hq
     have := (hlt2 b hq).2
     omega)
   have HB5 := hid (show Box w5 wr.heap.size #[.bool ul, .int .i64 uk, str ux, .slice (some ad0) 2 d] 26 from ((Box.new wr #[.bool ul, .int .i64 uk, str ux, .slice (some ad0) 2 d] 26).alloc _).kept hK5 (fun hmem => by
    have := (hlt1 wr.heap.size (by simpa using hmem)).2
    omega))
   clear hO5 hO25 hB5 hK5 hv5 hs5 hlt1 hlt2 c0 c1 c2 c3 g2
   have b0 := HB5.out.k 0
   have b1 := HB5.out.k 1
   have b2 := HB5.out.k 2
   have b3 := HB5.out.k 3
   have y0 := E5.out.cell Y.out.1.1
   have y1 := E5.out.cell Y.out.1.2
   have y2 := E5.out.cell Y.out.2.1
   have y3 := E5.out.cell Y.out.2.2
   go_wp2_with (at_builtin; refine wpList_appKV rfl (.tmp 23) (.tmp 28) rfl (base := w.heap.size) (V := w) (l := L2) (t := .mk yl (yk, yt) ys) (kd := .slice B1 yn d1) (gL := w5.heap.size) (tL := 26) rfl rfl ?own ?box HKY.out rfl hlen9.out.2 ?base ?_)
   case own => exact HO25.out.frame fun b _ hb _ => (Ext.alloc w5 _).block b hb
   case box => exact Box.new _ _ _
   case base => have := E5.out.size; simp; omega
   intro v6 w6 hO6 hB6 hK6 hv6
   have hs5 := E5.out.size
   have hlt1 := HO5.out.lt
   have hO16 : OwnNm w.heap.size w6 v' (L ++ [x.tok.2]) := (HO5.out.frame fun b _ hb _ => (Ext.alloc w5 _).block b hb).frame fun b _ hb hob => hK6.2 b hb (fun hmem => HD5.out b hob (by simpa using hmem))
   have HO16 := hid hO16
   have HO6 := hid hO6
   have E6 := hid (show Ext w w6 from Below.trans (B := w.heap.size) (E5.out.alloc' _) hB6)
   have HD6 := hid (show ∀ b, v'.ownBlock = some b → v6.ownBlock ≠ some b from fun b hb => by
    rcases hv6 with e | e
    ·rw [e]; exact HD5.out b hb
    ·rw [e]
     intro hq
     injection hq with hq
     have := (hlt1 b hb).2
     omega)
   clear hO16 hO6 hB6 hK6 hv6 hs5 hlt1 b0 b1 b2 b3 y0 y1 y2 y3 HB5
   go_wp2_with fail
   go_roundw
   case rel => exact ⟨k + 1, by omega, by simp, hid ⟨by rw [List.take_add_one, HU.out, List.map_append, HL.out]; simpa [HPN.out] using HO16.out, by rw [List.take_add_one, HU.out, List.map_append, HL2.out]; simpa [HPT.out] using HO6.out, HD6.out, E6.out⟩⟩
   case measure => simp [intOf]; omega
  ·obtain rfl : k = n := by omega
   have h1 := HL.out
   have h2 := HL2.out
   rw [← HN.out, List.take_length] at h1 h2
   have HNm := hid (show Nms wr (ks.map M.pName) (.slice IA m ic) from h1 ▸ HO.out.nms)
   have HKd := hid (show Kids wr (ks.map M.pTree) (.slice IB m2 jc) from h2 ▸ HO2.out.kids E.out.sub)
   clear h1 h2
   go_wp2
   refine bodyPost_ret (v := .tuple #[.slice IA m ic, .slice IB m2 jc]) (by simp [results, Tryz.results202, go_sem]) rfl ?_
   exact ⟨_, _, rfl, HNm.out, HKd.out, E.out⟩
end Go.Proofs.YtgkofipifjfjhaaGreatDoor.Q

