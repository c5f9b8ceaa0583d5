/-
  Layer 11's laws: a tree in a name's place.
-/
import Derived.Test.YtgkofipifjfjhaaGreatDoorSLFew
import Derived.Test.YtgkofipifjfjhaaGreatDoorJSC
import Derived.Test.YtgkofipifjfjhaaGreatDoorJSE
namespace Go.Proofs.YtgkofipifjfjhaaGreatDoor.Q
set_option linter.unusedSimpArgs false
set_option linter.unusedVariables false
open Go.RowKit

/-- Trees of the call's own; their kids lie among the blocks p or from B on, beside the list's own block. -/
def OwnKG (p : Nat → Prop) [DecidablePred p] (B : Nat) (w : World) (v : Value) (ks : List M.T) : Prop := ∃ cs, w.ownsRow B 26 4 v ks.length cs ∧ Reps (gp (besP p B v) w) ks cs
theorem OwnKG.nil (p : Nat → Prop) [DecidablePred p] (B : Nat) (w : World) : OwnKG p B w (.slice none 0 0) [] := ⟨[], World.ownsRow_nil w _ _ 4, rfl⟩
theorem OwnKG.keep {p : Nat → Prop} [DecidablePred p] {B : Nat} {w w' : World} {v : Value} {l : List M.T} (h : OwnKG p B w v l) (hs : w.heap.size ≤ w'.heap.size) (hp : ∀ b, p b → b < w.heap.size → w'.heap[b]? = w.heap[b]?) (hb : ∀ b, B ≤ b → b < w.heap.size → w'.heap[b]? = w.heap[b]?) : OwnKG p B w' v l := by
 obtain ⟨xs, h1, h2⟩ := h
 exact ⟨xs, kframe h1 hb, h2.sub (gp_mono hs fun k hk hq => ⟨hq, by rcases hq.1 with h | h; exact hp k h hk; exact hb k h hk⟩)⟩
theorem OwnKG.up {p : Nat → Prop} [DecidablePred p] {B : Nat} {w w' : World} {v : Value} {l : List M.T} (h : OwnKG p B w v l) (e : Ext w w') : OwnKG p B w' v l := h.keep e.size (fun b _ hb => e.block b hb) (fun b _ hb => e.block b hb)
theorem OwnKG.shape {p : Nat → Prop} [DecidablePred p] {B : Nat} {w : World} {v : Value} {l : List M.T} (h : OwnKG p B w v l) : ∃ A c, v = .slice A l.length c ∧ l.length ≤ c ∧ c ≤ maxLen := by
 obtain ⟨xs, h1, _⟩ := h
 exact kshape h1
theorem OwnKG.kids {p : Nat → Prop} [DecidablePred p] {B : Nat} {w : World} {v : Value} {ks : List M.T} (h : OwnKG p B w v ks) : Kids (gp (fun b => p b ∨ B ≤ b) w) ks v := by
 obtain ⟨cs, h1, h2⟩ := h
 have hs : Sub (gp (besP p B v) w) (gp (fun b => p b ∨ B ≤ b) w) := gp_mono (Nat.le_refl _) fun k _ hk => ⟨hk.1, rfl⟩
 have hh := h1
 obtain ⟨hl, h3⟩ := h1
 rcases h3 with ⟨rfl, h0⟩ | ⟨b, cap, cur, rfl, hb, hc, hc1, hm, _, _⟩
 ·obtain rfl : ks = [] := List.eq_nil_of_length_eq_zero h0
  exact Kids.nil _
 ·refine Kids.mk_ ⟨_, _, _, rfl, rfl, hc1, hm, fun hn => ⟨_, rfl, by rw [gp_size]; exact (Array.getElem?_eq_some_iff.1 hc).1, fun k t hk => ?_⟩⟩
  obtain ⟨v', k0, k1, k2, k3, k4⟩ := h2.get hk
  have key : ∀ j u, cs[j]? = some u → (gp (fun b => p b ∨ B ≤ b) w).cell? ((⟨b, 0, none⟩ : Addr).add j) = some u := fun j u hu => gp_cell.2 ⟨by rw [addr_block]; exact .inr hb, World.ownsRow.cells hh (g := b) rfl _ _ hu⟩
  rw [M.T.eta t]
  refine inAt_mk.2 ⟨v', ⟨key _ _ k0, ?_, ?_, ?_⟩, k4.sub hs⟩
  ·rw [Addr.add_add]; exact key _ _ k1
  ·rw [Addr.add_add]; exact key _ _ k2
  ·rw [Addr.add_add]; exact key _ _ k3
theorem OwnKG.blk {p : Nat → Prop} [DecidablePred p] {B : Nat} {w : World} {v : Value} {ks : List M.T} (h : OwnKG p B w v ks) : ∀ b, v.ownBlock = some b → B ≤ b ∧ b < w.heap.size := by
 obtain ⟨cs, h1, _⟩ := h
 exact fun b hb => World.ownsRow.lt h1 b hb
theorem appKG_run {p : Nat → Prop} [DecidablePred p] {B : Nat} {w : World} {v : Value} {ks : List M.T} {t : M.T} {kd : Value} {gL : Nat} {tL : TypeId} (h : OwnKG p B w v ks) (hL : Box w gL #[.bool t.list, .int .i64 t.tok.1, str t.tok.2, kd] tL)
 (hk : Kids (gp (besP p B v) w) t.kids kd) (h1 : kd.oneCell' = true) (hlen : ks.length + 1 ≤ 1000000) (hbase : B ≤ w.heap.size) (ty : TypeId) :
 ∃ v' w', (Builtin.append_ #[24, 24] ty #[v, .slice (some ⟨gL, 0, none⟩) 1 1]).run Tryz.prog w = .ok v' w' ∧ OwnKG p B w' v' (ks ++ [t]) ∧ Below B w w' ∧ Kept v.ownBlock.toList w w' := by
 obtain ⟨i0, hi, hz0, hz1, hz2⟩ := info_parts info_Tree
 obtain ⟨cs, ho, hr⟩ := h
 obtain ⟨v', w', hrun, ho', hg, _, hv'⟩ := run_append_own_at (P := Tryz.prog) w B 24 ty 26 i0 _ 4 56 Tryz.underlying24 hi hz0 hz1 hz2 rfl (by decide) v ks.length cs ho ⟨gL, 0, none⟩ 1 1
  [.bool t.list, .int .i64 t.tok.1, str t.tok.2, kd] rfl (by
   intro j u hj
   rw [Addr.add_lit, Nat.zero_add]
   match j, hj with
   | 0, hj => simp at hj; subst hj; exact hL.k 0
   | 1, hj => simp at hj; subst hj; exact hL.k 1
   | 2, hj => simp at hj; subst hj; exact hL.k 2
   | 3, hj => simp at hj; subst hj; exact hL.k 3) (by intro u hu; simp at hu; rcases hu with rfl | rfl | rfl | rfl <;> first | rfl | exact h1) (by unfold maxLen; omega) (by omega) hbase
 have hbel : Below B w w' := (Below.refl _ _).grown hg hbase fun k hk => (World.ownsRow.lt ho k hk).1
 have hsub : Sub (gp (besP p B v) w) (gp (besP p B v') w') := gp_mono hbel.size fun k hk hq => ⟨⟨hq.1, fun e => by
  rcases hv' with e' | e'
  ·rw [e'] at e; exact hq.2 e
  ·rw [e'] at e; injection e with e; omega⟩, hg.block k hk (Ne.symm hq.2)⟩
 exact ⟨v', w', hrun, ⟨_, by rw [List.length_append]; exact ho', (hr.snoc hk h1).sub hsub⟩, hbel, sgrown hg⟩
/-- A call gives a tree among the blocks p or on new memory. -/
def GivesTG (p : Nat → Prop) [DecidablePred p] (w : World) (t : M.T) (e : Ending) (w' : World) : Prop := ∃ v, e = .returned v ∧ IsT (gp (fun b => p b ∨ w.heap.size ≤ b) w') t v ∧ Ext w w'
theorem IsT.of_gp {p : Nat → Prop} [DecidablePred p] {w : World} {t : M.T} {v : Value} (h : IsT (gp p w) t v) : IsT w t v := h.sub (gp_sub _ _)
theorem box4z {w : World} {k : Nat} {x0 x1 x2 x3 : Value} {T : TypeId} (h : Box w k #[x0, x1, x2, x3] T) : (w.cell? ⟨k, 0, none⟩ = some x0 ∧ w.cell? ⟨k, 1, none⟩ = some x1 ∧ w.cell? ⟨k, 2, none⟩ = some x2 ∧ w.cell? ⟨k, 3, none⟩ = some x3) ∧ (w.frozen? ⟨k, 0, none⟩ = false ∧ w.frozen? ⟨k, 1, none⟩ = false ∧ w.frozen? ⟨k, 2, none⟩ = false ∧ w.frozen? ⟨k, 3, none⟩ = false) ∧ k < w.heap.size :=
 ⟨⟨h.k 0, h.k 1, h.k 2, h.k 3⟩, ⟨h.free 0, h.free 1, h.free 2, h.free 3⟩, h.lt⟩
theorem gp_put4 {p : Nat → Prop} [DecidablePred p] {w W : World} {k : Nat} {x0 x1 x2 x3 : Value} (e : Ext w W) (hp : ∀ b, p b → b < w.heap.size) (hk : w.heap.size ≤ k) : Sub (gp p w) (gp (fun b => p b ∨ w.heap.size ≤ b) (put4 W k x0 x1 x2 x3)) :=
 gp_mono (by simpa using e.size) fun b h1 h2 => ⟨.inl h2, by rw [put4_kept.2 b (Nat.lt_of_lt_of_le h1 e.size) (by simp; omega)]; exact e.block b h1⟩
theorem Box.low5 {w w' : World} {g B : Nat} {cs : Array Value} {T : TypeId} (h : Box w g cs T) (hb : Below B w w') (hg : g < B) : Box w' g cs T := (hb.block g hg).trans h
/-- What the loop keeps. -/
def RoundPut (p : Nat → Prop) [DecidablePred p] (w : World) (o : Nat) (tk : M.Tok) (A : Option Addr) (n c : Nat) (xl : Bool) (xk : M.Tok) (XA : Option Addr) (xn xc : Nat) (l : List M.T) (kv : Value) (wr : World) : Prop :=
 Box wr w.heap.size #[.bool true, .int .i64 tk.1, str tk.2, .slice A n c] 26 ∧ Box wr (w.heap.size + 1) #[.bool xl, .int .i64 xk.1, str xk.2, .slice XA xn xc] 26 ∧
 Box wr (w.heap.size + 2) zero4 26 ∧ Box wr o #[.bool true, .int .i64 0, .string ⟨#[]⟩, kv] 26 ∧ OwnKG p (o + 1) wr kv l ∧ Ext w wr
set_option maxHeartbeats 16000000 in
set_option maxRecDepth 100000 in
theorem put_s (s : List UInt8) (x t : M.T) : ∀ (p : Nat → Prop) [DecidablePred p] {v vx : Value} {w : World}, (∀ b, p b → b < w.heap.size) → IsT (gp p w) x vx → IsT (gp p w) t v → M.cnt t ≤ 1000 → Calls Tryz.prog 30 #[v, str s, vx] w (GivesTG p w (M.putT s x t)) := by
 refine M.T.indA (P := fun t => ∀ (p : Nat → Prop) [DecidablePred p] {v vx : Value} {w : World}, (∀ b, p b → b < w.heap.size) → IsT (gp p w) x vx → IsT (gp p w) t v → M.cnt t ≤ 1000 → Calls Tryz.prog 30 #[v, str s, vx] w (GivesTG p w (M.putT s x t))) (fun l tk ks ih p _ v vx w hp hx h hcn => ?_) t
 have HX := hid hx
 have HT := hid h
 have HP := hid hp
 obtain ⟨A, c, rfl, hk⟩ := h
 obtain ⟨xl, ⟨xkd, xtx⟩, xs⟩ := x
 obtain ⟨XA, xc, rfl, hxk⟩ := hx
 replace hk : Kids (gp p w) ks (.slice A ks.length c) := hk
 obtain ⟨hl1, hl2, hl3⟩ := hk.le
 have hl4 : c ≤ 9223372036854775807 := by unfold maxLen at hl3; omega
 obtain ⟨xn, hxn⟩ : ∃ n, (M.T.mk xl (xkd, xtx) xs).kids.length = n := ⟨_, rfl⟩
 obtain ⟨n, hn⟩ : ∃ n, ks.length = n := ⟨_, rfl⟩
 obtain ⟨kd, tx⟩ := tk
 replace HT : Hid (IsT (gp p w) (.mk l (kd, tx) ks) (tv l (kd, tx) A ks.length c)) := HT
 show Calls Tryz.prog 30 #[tv l (kd, tx) A ks.length c, str s, tv xl (xkd, xtx) XA (M.T.mk xl (xkd, xtx) xs).kids.length xc] w _
 replace HX : Hid (IsT (gp p w) (.mk xl (xkd, xtx) xs) (tv xl (xkd, xtx) XA (M.T.mk xl (xkd, xtx) xs).kids.length xc)) := HX
 rw [hxn] at HX ⊢
 rw [hn] at hk hl2 HT ⊢
 have hcnt : ∀ l : List M.T, l.length ≤ M.cnts l := fun l => by
  induction l with
  | nil => simp
  | cons y r ih => rw [M.cnts, List.length_cons]; have : 1 ≤ M.cnt y := (by cases y; rw [M.cnt]; omega); omega
 have hnc : n ≤ 1000 := by
  rw [M.cnt] at hcn
  have := hcnt ks
  omega
 clear hcnt
 have HB0 := hid (show Box (((w.alloc (.cells #[.bool l, .int .i64 kd, str tx, .slice A n c] 26)).alloc (.cells #[.bool xl, .int .i64 xkd, str xtx, .slice XA xn xc] 26)).alloc (.cells zero4 26)) w.heap.size #[.bool l, .int .i64 kd, str tx, .slice A n c] 26 from ((Box.new w _ _).alloc _).alloc _)
 have HB1 := hid (show Box (((w.alloc (.cells #[.bool l, .int .i64 kd, str tx, .slice A n c] 26)).alloc (.cells #[.bool xl, .int .i64 xkd, str xtx, .slice XA xn xc] 26)).alloc (.cells zero4 26)) (w.heap.size + 1) #[.bool xl, .int .i64 xkd, str xtx, .slice XA xn xc] 26 from (Box.at_ (w := w.alloc _) _ _ (by simp)).alloc _)
 have HB2 := hid (show Box (((w.alloc (.cells #[.bool l, .int .i64 kd, str tx, .slice A n c] 26)).alloc (.cells #[.bool xl, .int .i64 xkd, str xtx, .slice XA xn xc] 26)).alloc (.cells zero4 26)) (w.heap.size + 2) zero4 26 from Box.at_ (w := (w.alloc _).alloc _) _ _ (by simp))
 have HE := hid (show Ext w (((w.alloc (.cells #[.bool l, .int .i64 kd, str tx, .slice A n c] 26)).alloc (.cells #[.bool xl, .int .i64 xkd, str xtx, .slice XA xn xc] 26)).alloc (.cells zero4 26)) from ((Ext.alloc w _).alloc' _).alloc' _)
 clear hp hxk hl1 hl3 hxn
 cases l with
 | false =>
  have HZ := hid (show M.putT s (.mk xl (xkd, xtx) xs) (.mk false (kd, tx) ks) = if kd = 4 ∧ tx = s then .mk xl (xkd, xtx) xs else .mk false (kd, tx) ks by rw [M.putT, if_neg Bool.false_ne_true])
  clear hk ih hcn hn
  by_cases h4 : kd = 4
  ·subst h4
   by_cases hs : tx = s
   ·subst hs
    have hq : (tx == tx) = true := by simp
    go_enter Tryz.func30, Tryz.ntmps30
    go_upto_region 1 with (fail)
    refine swp_at (fun W => Box W w.heap.size #[.bool false, .int .i64 4, str tx, .slice A n c] 26 ∧ Box W (w.heap.size + 1) #[.bool xl, .int .i64 xkd, str xtx, .slice XA xn xc] 26 ∧ Box W (w.heap.size + 2) zero4 26 ∧ Ext w W) ⟨HB0.out, HB1.out, HB2.out, HE.out⟩ ?_
    clear HB0 HB1 HB2 HE
    intro W ⟨hb0, hb1, hb2, he⟩
    obtain ⟨⟨a0, a1, a2, a3⟩, -, -⟩ := box4z hb0
    obtain ⟨⟨x0, x1, x2, x3⟩, -, -⟩ := box4z hb1
    obtain ⟨⟨r0, r1, r2, r3⟩, ⟨f0, f1, f2, f3⟩, hzr⟩ := boxF4 hb2
    have HE := hid he
    clear hb0 hb1 hb2 he
    go_wp2_with fail
    refine bodyPost_ret (v := tv xl (xkd, xtx) XA xn xc) (by simp [results, Tryz.results30, go_sem, r0, r1, r2, r3, hzr]) rfl ?_
    rw [HZ.out, if_pos (by simp)]
    exact ⟨_, rfl, HX.out.sub (gp_put4 HE.out HP.out (by omega)), put4_ext HE.out (by omega)⟩
   ·have hq : (tx == s) = false := by simpa using hs
    replace HZ := hid (show M.putT s (.mk xl (xkd, xtx) xs) (.mk false (4, tx) ks) = .mk false (4, tx) ks by rw [HZ.out, if_neg (fun h => hs h.2)])
    clear hs
    go_enter Tryz.func30, Tryz.ntmps30
    go_upto_region 1 with (fail)
    refine swp_at (fun W => Box W w.heap.size #[.bool false, .int .i64 4, str tx, .slice A n c] 26 ∧ Box W (w.heap.size + 1) #[.bool xl, .int .i64 xkd, str xtx, .slice XA xn xc] 26 ∧ Box W (w.heap.size + 2) zero4 26 ∧ Ext w W) ⟨HB0.out, HB1.out, HB2.out, HE.out⟩ ?_
    clear HB0 HB1 HB2 HE
    intro W ⟨hb0, hb1, hb2, he⟩
    obtain ⟨⟨a0, a1, a2, a3⟩, -, -⟩ := box4z hb0
    obtain ⟨⟨r0, r1, r2, r3⟩, ⟨f0, f1, f2, f3⟩, hzr⟩ := boxF4 hb2
    have HE := hid he
    clear hb0 hb1 hb2 he
    go_wp2_with fail
    refine bodyPost_ret (v := tv false (4, tx) A n c) (by simp [results, Tryz.results30, go_sem, r0, r1, r2, r3, hzr]) rfl ?_
    rw [HZ.out]
    exact ⟨_, rfl, HT.out.sub (gp_put4 HE.out HP.out (by omega)), put4_ext HE.out (by omega)⟩
  ·have hq : (kd == 4) = false := by simpa using h4
   replace HZ := hid (show M.putT s (.mk xl (xkd, xtx) xs) (.mk false (kd, tx) ks) = .mk false (kd, tx) ks by rw [HZ.out, if_neg (fun h => h4 h.1)])
   clear h4
   go_enter Tryz.func30, Tryz.ntmps30
   go_upto_region 1 with (fail)
   refine swp_at (fun W => Box W w.heap.size #[.bool false, .int .i64 kd, str tx, .slice A n c] 26 ∧ Box W (w.heap.size + 1) #[.bool xl, .int .i64 xkd, str xtx, .slice XA xn xc] 26 ∧ Box W (w.heap.size + 2) zero4 26 ∧ Ext w W) ⟨HB0.out, HB1.out, HB2.out, HE.out⟩ ?_
   clear HB0 HB1 HB2 HE
   intro W ⟨hb0, hb1, hb2, he⟩
   obtain ⟨⟨a0, a1, a2, a3⟩, -, -⟩ := box4z hb0
   obtain ⟨⟨r0, r1, r2, r3⟩, ⟨f0, f1, f2, f3⟩, hzr⟩ := boxF4 hb2
   have HE := hid he
   clear hb0 hb1 hb2 he
   go_wp2_with fail
   refine bodyPost_ret (v := tv false (kd, tx) A n c) (by simp [results, Tryz.results30, go_sem, r0, r1, r2, r3, hzr]) rfl ?_
   rw [HZ.out]
   exact ⟨_, rfl, HT.out.sub (gp_put4 HE.out HP.out (by omega)), put4_ext HE.out (by omega)⟩
 | true =>
  have HZ := hid (show M.putT s (.mk xl (xkd, xtx) xs) (.mk true (kd, tx) ks) = .mk true (0, []) (M.putTs s (.mk xl (xkd, xtx) xs) ks) by rw [M.putT, if_pos rfl])
  obtain ⟨X, hX⟩ : ∃ X, M.T.mk xl (xkd, xtx) xs = X := ⟨_, rfl⟩
  rw [hX] at HZ HX ih ⊢
  have HK := hid hk
  have IH := hid ih
  have HN := hid hn
  have HC := hid (show ∀ (k : Nat) u, ks[k]? = some u → M.cnt u ≤ 1000 from fun k u hu => by
   rw [M.cnt] at hcn
   have : ∀ (l : List M.T) (k : Nat) u, l[k]? = some u → M.cnt u ≤ M.cnts l := fun l => by
    induction l with
    | nil => intro k u h; simp at h
    | cons y r ih =>
     intro k u h
     rw [M.cnts]
     cases k with
     | zero => simp at h; subst h; omega
     | succ k => have := ih k u (by simpa using h); omega
   have := this ks k u hu
   omega)
  clear hk ih hcn hn hX
  go_enter Tryz.func30, Tryz.ntmps30
  go_upto_region 1 with (fail)
  refine swp_at (fun W => Box W w.heap.size #[.bool true, .int .i64 kd, str tx, .slice A n c] 26 ∧ Box W (w.heap.size + 1) #[.bool xl, .int .i64 xkd, str xtx, .slice XA xn xc] 26 ∧ Box W (w.heap.size + 2) zero4 26 ∧ Ext w W) ⟨HB0.out, HB1.out, HB2.out, HE.out⟩ ?_
  clear HB0 HB1 HB2 HE
  intro W ⟨hb0, hb1, hb2, he⟩
  obtain ⟨⟨a0, a1, a2, a3⟩, -, -⟩ := box4z hb0
  have HB0 := hid hb0
  have HB1 := hid hb1
  have HB2 := hid hb2
  have HE := hid he
  have HW := hid hb2.lt
  clear hb0 hb1 hb2 he
  go_wp2_with fail
  obtain ⟨o, ho⟩ : ∃ o, W.heap.size = o := ⟨_, rfl⟩
  rw [ho]
  have HO := hid (show w.heap.size + 2 < o by rw [← ho]; exact HW.out)
  have HH := hid ho
  clear ho HW
  go_loopw [8] (fun i wr => ∃ (k : Nat) (kv : Value), i = .int .i64 (k : Int) ∧ k ≤ n ∧ Hid (RoundPut p w o (kd, tx) A n c xl (xkd, xtx) XA xn xc (M.putTs s X (ks.take k)) kv wr)) (fun i _ => n - (intOf i).toNat)
  case atStart =>
   refine ⟨0, .slice none 0 0, rfl, Nat.zero_le _, ⟨HB0.out.alloc _, HB1.out.alloc _, HB2.out.alloc _, HH.out ▸ Box.new W _ _, by simpa [M.putTs] using OwnKG.nil _ _ _, HE.out.alloc' _⟩⟩
  case round =>
   obtain ⟨k, kv, rfl, hk, hR⟩ := hrel
   obtain ⟨L, hL⟩ : ∃ L, M.putTs s X (ks.take k) = L := ⟨_, rfl⟩
   have hR' := hR.out
   rw [hL] at hR'
   obtain ⟨hB0, hB1, hB2, hB3, hOw, hE⟩ := hR'
   have HL := hid hL
   have hlen : L.length = k := by
    rw [← hL, M.putTs_map, List.length_map, List.length_take, HN.out]; omega
   obtain ⟨KA, kc, rfl, hk1, hk2⟩ := hOw.shape
   rw [hlen] at hB3 hOw hk1
   obtain ⟨⟨b0, b1, b2, b3⟩, -, hz0⟩ := box4z hB0
   have HB0 := hid hB0
   have HB1 := hid hB1
   have HB2 := hid hB2
   have HB3 := hid hB3
   have HOw := hid hOw
   have HLN := hid hlen
   have E := hid hE
   have hk3 : kc ≤ 9223372036854775807 := by unfold maxLen at hk2; omega
   clear hR hB0 hB1 hB2 hB3 hOw hE hL hlen hk2
   rcases Nat.lt_or_ge k n with hlt | hge
   ·have hlt' : (k : Int) < (n : Int) := by omega
    obtain ⟨ad, u, B, d, rfl, hu, c0, c1, c2, c3, hv⟩ := HK.out.get hlt
    have HU := hid hu
    have HV := hid hv
    obtain ⟨um, hum⟩ : ∃ m, u.kids.length = m := ⟨_, rfl⟩
    obtain ⟨ul, hul⟩ : ∃ m, u.list = m := ⟨_, rfl⟩
    obtain ⟨uk, huk⟩ : ∃ m, u.tok.1 = m := ⟨_, rfl⟩
    obtain ⟨ux, hux⟩ : ∃ m, u.tok.2 = m := ⟨_, rfl⟩
    rw [hul] at c0
    rw [huk] at c1
    rw [hux] at c2
    rw [hum] at c3
    have hadb : (ad.add (k * 4)).block < w.heap.size := World.block_lt_of_cell? w _ ((gp_cell.1 c0).2)
    replace c0 := E.out.cell ((gp_cell.1 c0).2)
    replace c1 := E.out.cell ((gp_cell.1 c1).2)
    replace c2 := E.out.cell ((gp_cell.1 c2).2)
    replace c3 := E.out.cell ((gp_cell.1 c3).2)
    have HC1 := hid (show ∀ w', Ext wr w' → Calls Tryz.prog 30 #[tv ul (uk, ux) B um d, str s, tv xl (xkd, xtx) XA xn xc] w' (GivesTG p w' (M.putT s X u)) from fun w' e => by
     have hE2 := E.out.trans e
     refine IH.out k u HU.out p (fun b hb => Nat.lt_of_lt_of_le (HP.out b hb) hE2.size) (HX.out.sub (gp_ext hE2)) ?_ (HC.out k u HU.out)
     have h := HV.out.sub (gp_ext hE2)
     rw [hul, hum, show u.tok = (uk, ux) from Prod.ext huk hux] at h
     exact h)
    obtain ⟨Y, hY⟩ : ∃ Y, M.putT s X u = Y := ⟨_, rfl⟩
    rw [hY] at HC1
    have HY := hid hY
    have HXb := hid (show ∀ b, b ∈ (Value.slice KA k kc).ownBlock.toList → o + 1 ≤ b from fun b hb => (HOw.out.blk b (by simpa using hb)).1)
    clear hu hv hum hul huk hux hY
    go_wp2_with fail
    refine wp_region_K (Value.slice KA k kc).ownBlock.toList [(0, 0), (1, 0), (2, 0), (3, 0), (4, 0), (5, 0), (6, 0), (7, 0), (8, 0), (9, 1), (10, 1), (11, 1), (12, 2), (13, 3)] fun wd hb => ?_
    have Ed := hid hb
    clear hb
    refine WK.p 33 (.pointer (some ⟨o, 3, none⟩)) ?_
    simp only [Act.put, pA, pB, pC]
    refine WK.q 34 (.slice KA k kc) rfl (fun w' hk => by have ce := ((HB3.out.up Ed.out).kept hk (fun h => by have := HXb.out _ h; omega)).k 3 (v := .slice KA k kc); go_simp) ?_
    simp only [Act.put, pA, pB, pC]
    refine WK.p 35 (.pointer (some ⟨w.heap.size, 3, none⟩)) ?_
    simp only [Act.put, pA, pB, pC]
    refine WK.q 36 (.slice (some ad) n c) rfl (fun w' hk => by have ce := ((HB0.out.up Ed.out).kept hk (fun h => by have := HXb.out _ h; have := HO.out; omega)).k 3 (v := .slice (some ad) n c); go_simp) ?_
    simp only [Act.put, pA, pB, pC]
    refine WK.p 37 (.int .i64 (k : Int)) ?_
    simp only [Act.put, pA, pB, pC]
    refine WK.p 38 (.pointer (some (ad.add (k * 4)))) ?_
    simp only [Act.put, pA, pB, pC]
    have hXn : ∀ b, b < w.heap.size + 3 → b ∉ (Value.slice KA k kc).ownBlock.toList := fun b hb hm => by have := HXb.out _ hm; have := HO.out; omega
    have hAD := hid (hXn _ (show (ad.add (k * 4)).block < w.heap.size + 3 by omega))
    refine WK.q 39 (tv ul (uk, ux) B um d) rfl (fun w' hk => by
     have e0 := hk.cellA (p := ad.add (k * 4)) hAD.out (Ed.out.cell c0)
     have e1 := hk.cell hAD.out (Ed.out.cell c1)
     have e2 := hk.cell hAD.out (Ed.out.cell c2)
     have e3 := hk.cell hAD.out (Ed.out.cell c3)
     go_simp) ?_
    simp only [Act.put, pA, pB, pC]
    refine WK.p 40 (str s) ?_
    simp only [Act.put, pA, pB, pC]
    refine WK.q 41 (tv xl (xkd, xtx) XA xn xc) rfl (fun w' hk => by
     obtain ⟨⟨x0, x1, x2, x3⟩, -, -⟩ := box4z ((HB1.out.up Ed.out).kept hk (hXn _ (by omega)))
     go_simp) ?_
    simp only [Act.put, pA, pB, pC]
    refine WK.c 42 ((HC1.out wd Ed.out).mono ?_)
    rintro en w2 ⟨v2, rfl, hv2, hb2⟩
    refine ⟨_, rfl, hb2.kept _, ?_⟩
    simp only [Act.put, pA, pB, pC]
    obtain ⟨YA, yc, rfl, hkids⟩ := hv2
    obtain ⟨yn, hyn⟩ : ∃ m, Y.kids.length = m := ⟨_, rfl⟩
    rw [hyn] at hkids ⊢
    have hE2 := Ed.out.trans hb2
    have hwd := Ed.out.size
    have hw2 := hb2.size
    have HB02 := hid (HB0.out.up hE2)
    have HB12 := hid (HB1.out.up hE2)
    have HB22 := hid (HB2.out.up hE2)
    have HB32 := hid (HB3.out.up hE2)
    have HOw2 := hid (HOw.out.up hE2)
    have HKid := hid (show Kids (gp (besP p (o + 1) (.slice KA k kc)) w2) Y.kids (.slice YA yn yc) from hkids.sub (gp_mono (Nat.le_refl _) fun q _ hq => ⟨⟨hq.imp id (fun h => by have := HB3.out.lt; omega), fun e => by
     have h1 := HOw.out.blk q e
     rcases hq with hq | hq
     ·have := HP.out q hq; have := HO.out; omega
     ·omega⟩, rfl⟩))
    have E2 := hid (E.out.trans hE2)
    clear hkids hb2 hE2
    refine WK.act 43 (v := .slice (some ⟨w2.heap.size, 0, none⟩) 1 1) (w' := w2.alloc (.cells #[.bool Y.list, .int .i64 Y.tok.1, str Y.tok.2, .slice YA yn yc] 26)) rfl (by go_simp) ((Ext.alloc _ _).kept _) ?_
    simp only [Act.put, pA, pB, pC]
    obtain ⟨v', w5, hrun, hO5, hB5, hK5⟩ := appKG_run (HOw2.out.up (Ext.alloc w2 (.cells #[.bool Y.list, .int .i64 Y.tok.1, str Y.tok.2, .slice YA yn yc] 26))) (Box.new w2 #[.bool Y.list, .int .i64 Y.tok.1, str Y.tok.2, .slice YA yn yc] 26)
     (HKid.out.sub (gp_mono (Ext.alloc w2 _).size fun q hq hp => ⟨hp, (Ext.alloc w2 _).block q hq⟩)) rfl (by rw [HLN.out]; omega) (by have := HB32.out.lt; simp; omega) 24
    obtain ⟨A5, c5, rfl, hs5a, hs5b⟩ := hO5.shape
    obtain ⟨m5, hm5⟩ : ∃ m5, (L ++ [Y]).length = m5 := ⟨_, rfl⟩
    rw [hm5] at hO5 hrun hs5a
    have HO5 := hid hO5
    have HBl5 := hid (show Below (o + 1) w2 w5 from ((Below.refl _ _).alloc (by have := HB32.out.lt; omega) _).trans hB5)
    refine WK.act 44 rfl (kexec_app (.tmp 34) (.tmp 43) rfl rfl rfl hrun) hK5 ?_
    clear hrun hO5 hB5 hK5
    simp only [Act.put, pA, pB, pC]
    have hX5 := HB32.out.low5 HBl5.out (Nat.lt_succ_self _)
    obtain ⟨⟨d0, d1, d2, d3⟩, ⟨f0, f1, f2, f3⟩, hl5⟩ := box4z hX5
    have HX5 := hid hX5
    refine WK.y 45 (.pointer (some ⟨o, 3, none⟩)) ?_
    simp only [Act.put, pA, pB, pC]
    refine WK.st (w' := w5.setCell ⟨o, 3, none⟩ (.slice A5 m5 c5)) ?_
    refine WK.done ?_
    have HS2 := hid (show M.putTs s X (ks.take (k + 1)) = L ++ [Y] by rw [M.putTs_map, List.take_add_one, HU.out, ← HL.out, M.putTs_map]; simp [HY.out])
    have hOo := HO.out
    have hdead : ∀ b, p b → b ≠ o := fun b hb => by have := HP.out b hb; omega
    go_wp2_with fail
    go_roundw
    case rel =>
     refine ⟨k + 1, .slice A5 m5 c5, by simp, by omega, ⟨?_, ?_, ?_, ?_, ?_, ?_⟩⟩
     ·exact (HB02.out.low5 HBl5.out (by omega)).far (show w.heap.size ≠ o by omega) _
     ·exact (HB12.out.low5 HBl5.out (by omega)).far (show w.heap.size + 1 ≠ o by omega) _
     ·exact (HB22.out.low5 HBl5.out (by omega)).far (show w.heap.size + 2 ≠ o by omega) _
     ·exact HX5.out.setAt 3 _
     ·rw [HS2.out]
      exact HO5.out.keep (by simp) (fun b hb1 hb2 => Below.heap_setCell _ _ _ _ (show b ≠ o from hdead b hb1)) (fun b hb1 hb2 => Below.heap_setCell _ _ _ _ (show b ≠ o by omega))
     ·exact (show Ext w w5 from Below.trans (B := w.heap.size) E2.out (Below.mono HBl5.out (by omega))).set' (by show w.heap.size ≤ o; omega) _
    case measure => simp [intOf]; omega
   ·obtain rfl : n = k := by omega
    obtain ⟨⟨d0, d1, d2, d3⟩, -, hz1⟩ := box4z HB3.out
    obtain ⟨⟨r0, r1, r2, r3⟩, ⟨f0, f1, f2, f3⟩, hzr⟩ := boxF4 HB2.out
    have HS2 := hid (show M.putTs s X ks = L by rw [← HL.out, ← HN.out, List.take_length])
    go_wp2_with fail
    refine bodyPost_ret (v := tv true (0, []) KA n kc) (by simp [results, Tryz.results30, go_sem, r0, r1, r2, r3, hzr]) rfl ?_
    rw [HZ.out, HS2.out]
    have hkk := HOw.out.kids
    have h3 := HB3.out.lt
    have h4 := HO.out
    refine ⟨_, rfl, ⟨KA, kc, by rw [← HLN.out]; rfl, ?_⟩, put4_ext E.out (by omega)⟩
    show Kids _ L (.slice KA L.length kc)
    rw [HLN.out]
    exact hkk.sub (gp_mono (by simp) fun b hb1 hb2 => ⟨hb2.imp id (fun h => by omega), put4_kept.2 b hb1 (by
     rcases hb2 with hb2 | hb2
     ·have := HP.out b hb2; simp; omega
     ·simp; omega)⟩)
end Go.Proofs.YtgkofipifjfjhaaGreatDoor.Q
