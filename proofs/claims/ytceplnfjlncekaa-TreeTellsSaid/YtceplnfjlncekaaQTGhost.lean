/-
  Layer 9, words: what stays while a reader's box is written into; a list of trees of the call's own.
-/
import Derived.Test.YtceplnfjlncekaaQTWords
import Derived.Test.YtceplnfjlncekaaQTHeld
import Derived.Maps.AppendAt
namespace Go.Proofs.Ytceplnfjlncekaa
set_option linter.unusedSimpArgs false
set_option linter.unusedVariables false
open Go.RowKit

/-- The world with only those blocks that p tells. -/
def gp (p : Nat → Prop) [DecidablePred p] (w : World) : World := { w with heap := w.heap.mapIdx fun i o => if p i then o else .cells #[] 0 }
theorem gp_size (p : Nat → Prop) [DecidablePred p] (w : World) : (gp p w).heap.size = w.heap.size := by simp [gp]
theorem gp_cell {p : Nat → Prop} [DecidablePred p] {w : World} {a : Addr} {v : Value} : (gp p w).cell? a = some v ↔ p a.block ∧ w.cell? a = some v := by
 unfold World.cell? gp
 simp only [Array.getElem?_mapIdx]
 rcases h : w.heap[a.block]? with _ | o
 ·simp
 ·by_cases hp : p a.block
  ·simp [hp]
  ·simp [hp]
/-- All cells of the one are in the other. -/
def Sub (w w' : World) : Prop := w.heap.size ≤ w'.heap.size ∧ ∀ p v, w.cell? p = some v → w'.cell? p = some v
theorem Sub.refl (w : World) : Sub w w := ⟨Nat.le_refl _, fun _ _ h => h⟩
theorem Sub.trans {a b c : World} (h : Sub a b) (k : Sub b c) : Sub a c := ⟨Nat.le_trans h.1 k.1, fun p v hc => k.2 p v (h.2 p v hc)⟩
theorem Ext.sub {w w' : World} (h : Ext w w') : Sub w w' := ⟨h.size, fun _ _ hc => h.cell hc⟩
theorem Kept.cellA {X : List Nat} {w w' : World} (h : Kept X w w') {p : Addr} {v : Value} (hg : p.block ∉ X) (hc : w.cell? p = some v) : w'.cell? p = some v := by
 have hl := World.block_lt_of_cell? w _ hc
 rw [← hc]; exact World.cell?_of_block (h.2 _ hl hg)
theorem gp_sub (p : Nat → Prop) [DecidablePred p] (w : World) : Sub (gp p w) w := ⟨by rw [gp_size]; exact Nat.le_refl _, fun _ _ hc => (gp_cell.1 hc).2⟩
theorem gp_mono {p q : Nat → Prop} [DecidablePred p] [DecidablePred q] {w w' : World} (hs : w.heap.size ≤ w'.heap.size) (h : ∀ k, k < w.heap.size → p k → q k ∧ w'.heap[k]? = w.heap[k]?) : Sub (gp p w) (gp q w') := by
 refine ⟨by rw [gp_size, gp_size]; exact hs, fun a v hc => ?_⟩
 obtain ⟨h1, h2⟩ := gp_cell.1 hc
 obtain ⟨h3, h4⟩ := h _ (World.block_lt_of_cell? w _ h2) h1
 exact gp_cell.2 ⟨h3, by rw [← h2]; exact World.cell?_of_block h4⟩
/-- What was there, without what lies in X. -/
theorem Ext.gp_new {p : Nat → Prop} [DecidablePred p] {w w' : World} (h : Ext w w') (hp : ∀ k, k < w.heap.size → p k) : Sub w (gp p w') := by
 refine ⟨by rw [gp_size]; exact h.size, fun a v hc => gp_cell.2 ⟨hp _ (World.block_lt_of_cell? w _ hc), h.cell hc⟩⟩
theorem InAt.sub {w w' : World} (e : Sub w w') (t : M.T) : ∀ {a : Addr}, InAt w t a → InAt w' t a := by
 refine M.T.indA (P := fun t => ∀ {a : Addr}, InAt w t a → InAt w' t a) (fun l tk ks ih a h => ?_) t
 obtain ⟨v, ⟨c0, c1, c2, c3⟩, hk⟩ := inAt_mk.1 h
 obtain ⟨A, n, c, h1, h2, h3, h4, h5⟩ := hk.at_
 refine inAt_mk.2 ⟨v, ⟨e.2 _ _ c0, e.2 _ _ c1, e.2 _ _ c2, e.2 _ _ c3⟩, Kids.mk_ ⟨A, n, c, h1, h2, h3, h4, fun hne => ?_⟩⟩
 obtain ⟨ad, e1, e2, e3⟩ := h5 hne
 exact ⟨ad, e1, Nat.lt_of_lt_of_le e2 e.1, fun k t hk => ih k t hk (e3 k t hk)⟩
theorem Kids.sub {w w' : World} {ks : List M.T} {v : Value} (h : Kids w ks v) (e : Sub w w') : Kids w' ks v := by
 obtain ⟨A, n, c, h1, h2, h3, h4, h5⟩ := h.at_
 refine Kids.mk_ ⟨A, n, c, h1, h2, h3, h4, fun hne => ?_⟩
 obtain ⟨ad, e1, e2, e3⟩ := h5 hne
 exact ⟨ad, e1, Nat.lt_of_lt_of_le e2 e.1, fun k t hk => InAt.sub e t (e3 k t hk)⟩
theorem IsT.sub {w w' : World} {t : M.T} {v : Value} (h : IsT w t v) (e : Sub w w') : IsT w' t v := by
 obtain ⟨A, c, h1, h2⟩ := h
 exact ⟨A, c, h1, h2.sub e⟩
theorem TList.sub {w w' : World} {v : Value} {ts : List M.Tok} (h : TList w v ts) (e : Sub w w') : TList w' v ts := by
 obtain ⟨A, n, c, h1, h2, h3, h4, h5⟩ := h
 refine ⟨A, n, c, h1, h2, h3, h4, fun hne => ?_⟩
 obtain ⟨ad, ha, hb, hc⟩ := h5 hne
 exact ⟨ad, ha, Nat.lt_of_lt_of_le hb e.1, fun k t hk => ⟨e.2 _ _ (hc k t hk).1, e.2 _ _ (hc k t hk).2⟩⟩
/-- The cells of trees. -/
def Reps (w : World) : List M.T → List Value → Prop
 | [], cs => cs = []
 | t :: r, cs => ∃ v cs', cs = .bool t.list :: .int .i64 t.tok.1 :: str t.tok.2 :: v :: cs' ∧ (Kids w t.kids v ∧ v.oneCell' = true) ∧ Reps w r cs'
theorem Reps.sub {w w' : World} (e : Sub w w') : ∀ {ks : List M.T} {cs : List Value}, Reps w ks cs → Reps w' ks cs
 | [], _, h => h
 | t :: r, _, ⟨v, cs', h1, h2, h3⟩ => ⟨v, cs', h1, ⟨h2.1.sub e, h2.2⟩, h3.sub e⟩
theorem Reps.snoc {w : World} {t : M.T} {v : Value} (hv : Kids w t.kids v) (h1 : v.oneCell' = true) : ∀ {ks : List M.T} {cs : List Value}, Reps w ks cs → Reps w (ks ++ [t]) (cs ++ [.bool t.list, .int .i64 t.tok.1, str t.tok.2, v])
 | [], _, h => by subst h; exact ⟨v, [], rfl, ⟨hv, h1⟩, rfl⟩
 | x :: r, _, ⟨v', cs', h2, h3, h4⟩ => by subst h2; exact ⟨v', _, rfl, h3, h4.snoc hv h1⟩
theorem Reps.get {w : World} : ∀ {ks : List M.T} {cs : List Value} {k : Nat} {t : M.T}, Reps w ks cs → ks[k]? = some t → ∃ v, cs[k * 4]? = some (.bool t.list) ∧ cs[k * 4 + 1]? = some (.int .i64 t.tok.1) ∧ cs[k * 4 + 2]? = some (str t.tok.2) ∧ cs[k * 4 + 3]? = some v ∧ Kids w t.kids v
 | [], _, _, _, _, h => by simp at h
 | x :: r, _, 0, t, ⟨v, cs', h1, h2, h3⟩, h => by
  simp at h; subst h h1
  exact ⟨v, rfl, rfl, rfl, rfl, h2.1⟩
 | x :: r, _, k + 1, t, ⟨v, cs', h1, h2, h3⟩, h => by
  subst h1
  obtain ⟨v', k0, k1, k2, k3, k4⟩ := h3.get (k := k) (t := t) (by simpa using h)
  refine ⟨v', ?_, ?_, ?_, ?_, k4⟩
  ·rw [show (k + 1) * 4 = k * 4 + 4 by omega]; exact k0
  ·rw [show (k + 1) * 4 + 1 = k * 4 + 1 + 4 by omega]; exact k1
  ·rw [show (k + 1) * 4 + 2 = k * 4 + 2 + 4 by omega]; exact k2
  ·rw [show (k + 1) * 4 + 3 = k * 4 + 3 + 4 by omega]; exact k3
/-- Blocks from base on, without the list's own. -/
abbrev beside (base : Nat) (v : Value) (k : Nat) : Prop := base ≤ k ∧ v.ownBlock ≠ some k
/-- A list of trees of the call's own, in a block of its own; all that they reach lies from base on, beside it. -/
def OwnK (base : Nat) (w : World) (v : Value) (ks : List M.T) : Prop := ∃ cs, w.ownsRow base 35 4 v ks.length cs ∧ Reps (gp (beside base v) w) ks cs
theorem OwnK.nil (base : Nat) (w : World) : OwnK base w (.slice none 0 0) [] := ⟨[], World.ownsRow_nil w base _ 4, rfl⟩
theorem ownsRow_frame {w w' : World} {base size n : Nat} {e : TypeId} {v : Value} {xs : List Value} (h : w.ownsRow base e size v n xs) (hb : ∀ b, base ≤ b → b < w.heap.size → w'.heap[b]? = w.heap[b]?) : w'.ownsRow base e size v n xs := by
 obtain ⟨hl, h2⟩ := h
 refine ⟨hl, h2.imp id ?_⟩
 rintro ⟨g, cap, cur, h3, h4, h5, h6⟩
 exact ⟨g, cap, cur, h3, h4, by rw [hb g h4 (Array.getElem?_eq_some_iff.1 h5).1]; exact h5, h6⟩
theorem OwnK.frame {base : Nat} {w w' : World} {v : Value} {ks : List M.T} (h : OwnK base w v ks) (hs : w.heap.size ≤ w'.heap.size) (hb : ∀ b, base ≤ b → b < w.heap.size → w'.heap[b]? = w.heap[b]?) : OwnK base w' v ks := by
 obtain ⟨cs, h1, h2⟩ := h
 exact ⟨cs, ownsRow_frame h1 hb, h2.sub (gp_mono hs fun k hk hp => ⟨hp, hb k hp.1 hk⟩)⟩
theorem OwnK.kids {base : Nat} {w : World} {v : Value} {ks : List M.T} (h : OwnK base w v ks) : Kids (gp (base ≤ ·) w) ks v := by
 obtain ⟨cs, h1, h2⟩ := h
 have hh := h1
 obtain ⟨hl, h3⟩ := h1
 rcases h3 with ⟨rfl, h0⟩ | ⟨b, cap, cur, rfl, hb, hc, hc1, hm, _, _⟩
 ·obtain rfl : ks = [] := List.eq_nil_of_length_eq_zero h0
  exact Kids.nil _
 ·refine Kids.mk_ ⟨_, _, _, rfl, rfl, hc1, hm, fun hn => ⟨_, rfl, by rw [gp_size]; exact (Array.getElem?_eq_some_iff.1 hc).1, fun k t hk => ?_⟩⟩
  obtain ⟨v', k0, k1, k2, k3, k4⟩ := h2.get hk
  have key : ∀ j u, cs[j]? = some u → (gp (base ≤ ·) w).cell? ((⟨b, 0, none⟩ : Addr).add j) = some u := fun j u hu => gp_cell.2 ⟨by rw [addr_block]; exact hb, World.ownsRow.cells hh (g := b) rfl _ _ hu⟩
  rw [M.T.eta t]
  refine inAt_mk.2 ⟨v', ⟨key _ _ k0, ?_, ?_, ?_⟩, k4.sub (gp_mono (Nat.le_refl _) fun k _ hp => ⟨hp.1, rfl⟩)⟩
  ·rw [Addr.add_add]; exact key _ _ k1
  ·rw [Addr.add_add]; exact key _ _ k2
  ·rw [Addr.add_add]; exact key _ _ k3
theorem OwnK.len {base : Nat} {w : World} {v : Value} {ks : List M.T} (h : OwnK base w v ks) : ∃ A c, v = .slice A ks.length c := by
 obtain ⟨cs, ⟨hl, h3⟩, h2⟩ := h
 rcases h3 with ⟨rfl, h0⟩ | ⟨b, cap, cur, rfl, _⟩
 ·exact ⟨none, 0, by rw [h0]⟩
 ·exact ⟨_, _, rfl⟩
theorem info_Tree : (Try.prog.info? 35).map (fun i => (i.zero, i.size, i.bytes)) = some (some (.agg #[.bool false, .int .i64 0, .string ⟨#[]⟩, .slice none 0 0]), 4, 56) := by kernel_rfl
/-- One tree more behind a list of the call's own. -/
theorem appK_run {base : Nat} {w : World} {v : Value} {ks : List M.T} {t : M.T} {kv : Value} {gL : Nat} {tL : TypeId} (h : OwnK base w v ks) (hL : Box w gL #[.bool t.list, .int .i64 t.tok.1, str t.tok.2, kv] tL)
 (hk : Kids (gp (beside base v) w) t.kids kv) (h1 : kv.oneCell' = true) (hlen : ks.length + 1 ≤ 1000000000) (hbase : base ≤ w.heap.size) (ty : TypeId) :
 ∃ v' w', (Builtin.append_ #[25, 25] ty #[v, .slice (some ⟨gL, 0, none⟩) 1 1]).run Try.prog w = .ok v' w' ∧ OwnK base w' v' (ks ++ [t]) ∧ Below base w w' := by
 obtain ⟨i0, hi, hz0, hz1, hz2⟩ := info_parts info_Tree
 obtain ⟨cs, ho, hr⟩ := h
 obtain ⟨v', w', hrun, ho', hg, _, hv'⟩ := run_append_own_at (P := Try.prog) w base 25 ty 35 i0 _ 4 56 Try.underlying25 hi hz0 hz1 hz2 rfl (by decide) v ks.length cs ho ⟨gL, 0, none⟩ 1 1
  [.bool t.list, .int .i64 t.tok.1, str t.tok.2, kv] rfl (by
   intro j u hj
   rw [Addr.add_lit, Nat.zero_add]
   rcases j with _ | _ | _ | _ | j
   ·simp at hj; subst hj; exact hL.cell rfl
   ·simp at hj; subst hj; exact hL.cell rfl
   ·simp at hj; subst hj; exact hL.cell rfl
   ·simp at hj; subst hj; exact hL.cell rfl
   ·simp at hj) (by intro u hu; simp at hu; rcases hu with rfl | rfl | rfl | rfl <;> first | rfl | exact h1) (by unfold maxLen; omega) (by omega) hbase
 have hbel : Below base w w' := (Below.refl _ _).grown hg hbase fun k hk => (World.ownsRow.lt ho k hk).1
 refine ⟨v', w', hrun, ⟨_, by rw [List.length_append]; exact ho', ?_⟩, hbel⟩
 have hs : Sub (gp (beside base v) w) (gp (beside base v') w') := gp_mono hbel.size fun k hk hp => ⟨⟨hp.1, fun e => ?_⟩, hg.block k hk (Ne.symm hp.2)⟩
 ·exact (hr.sub hs).snoc (hk.sub hs) h1
 ·rcases hv' with e' | e'
  ·rw [e'] at e; exact hp.2 e
  ·rw [e'] at e; injection e with e; omega
end Go.Proofs.Ytceplnfjlncekaa
