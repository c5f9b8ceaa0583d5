/-
  Contracts of package sort: leaf, headed, Sort.
-/
import Derived.Test.YtgkofipifjfjhaaGreatDoorJSA
import Derived.Test.YtgkofipifjfjhaaGreatDoorJTB
import Derived.Test.YtgkofipifjfjhaaGreatDoorJSB
import Derived.Test.YtgkofipifjfjhaaGreatDoorJSD
import Derived.Test.YtgkofipifjfjhaaGreatDoorJTN
import Derived.Test.YtgkofipifjfjhaaGreatDoorJZF
import Derived.Test.YtgkofipifjfjhaaGreatDoorJQB
namespace Go.Proofs.YtgkofipifjfjhaaGreatDoor.Q
set_option linter.unusedSimpArgs false
set_option linter.unusedVariables false
open Go.RowKit

theorem Reps.len2 {w : World} : ∀ {ks : List M.T} {cs : List Value}, Reps w ks cs → cs.length = ks.length * 4
 | [], _, h => by subst h; rfl
 | t :: r, _, ⟨v, cs', h1, _, h3⟩ => by subst h1; have := h3.len2; simp; omega
theorem Reps.one2 {w : World} : ∀ {ks : List M.T} {cs : List Value}, Reps w ks cs → ∀ u ∈ cs, u.oneCell' = true
 | [], _, h, u, hu => by subst h; simp at hu
 | t :: r, _, ⟨v, cs', h1, h2, h3⟩, u, hu => by
  subst h1
  simp only [List.mem_cons] at hu
  rcases hu with rfl | rfl | rfl | rfl | hu
  ·rfl
  ·rfl
  ·rfl
  ·exact h2.2
  ·exact h3.one2 u hu
theorem Reps.join {w : World} : ∀ {a b : List M.T} {xs ys : List Value}, Reps w a xs → Reps w b ys → Reps w (a ++ b) (xs ++ ys)
 | [], _, _, _, h, h' => by subst h; exact h'
 | t :: r, _, _, _, ⟨v, cs', h1, h2, h3⟩, h' => by subst h1; exact ⟨v, _, rfl, h2, h3.join h'⟩
theorem Reps.of {w : World} {ad : Addr} : ∀ (l : List M.T) (j : Nat), (∀ (k : Nat) (t : M.T), l[k]? = some t → InAt w t (ad.add ((j + k) * 4))) → ∃ xs, Reps w l xs ∧ ∀ (i : Nat) (u : Value), xs[i]? = some u → w.cell? (ad.add (j * 4 + i)) = some u
 | [], j, _ => ⟨[], rfl, fun i u h => by simp at h⟩
 | t :: r, j, h => by
  obtain ⟨ys, hy, hc⟩ := Reps.of (ad := ad) r (j + 1) (fun k t hk => by
   have := h (k + 1) t (by simpa using hk)
   rwa [show (j + (k + 1)) * 4 = (j + 1 + k) * 4 by omega] at this)
  have h0 := h 0 _ rfl
  obtain ⟨tl, tk, ts⟩ := t
  obtain ⟨v, ⟨c0, c1, c2, c3⟩, hk⟩ := inAt_mk.1 h0
  rw [Addr.add_add] at c1 c2 c3
  obtain ⟨A, c, rfl⟩ := hk.shape
  refine ⟨_, ⟨_, ys, rfl, ⟨hk, rfl⟩, hy⟩, fun i u hi => ?_⟩
  match i, hi with
  | 0, hi => simp at hi; subst hi; exact c0
  | 1, hi => simp at hi; subst hi; exact c1
  | 2, hi => simp at hi; subst hi; exact c2
  | 3, hi => simp at hi; subst hi; exact c3
  | i + 4, hi =>
   have := hc i u (by simpa using hi)
   rwa [show (j + 1) * 4 + i = j * 4 + (i + 4) by omega] at this
/-- What is put behind a list of trees. -/
def KSrc (V w : World) (l : List M.T) (A : Option Addr) (n : Nat) : Prop := n = l.length ∧ ∃ xs, Reps V l xs ∧ ∃ ad, A = some ad ∧ ∀ (i : Nat) (u : Value), xs[i]? = some u → w.cell? (ad.add i) = some u
theorem Kids.src {V w : World} {l : List M.T} {A : Option Addr} {n c : Nat} (h : Kids V l (.slice A n c)) (hne : l ≠ []) (e : Sub V w) : KSrc V w l A n := by
 obtain ⟨A', n', c', e0, h2, h3, h4, h5⟩ := h.at_
 injection e0 with e1 e2 e3
 subst e1 e2 e3
 obtain ⟨ad, ha, hb, hc⟩ := h5 hne
 obtain ⟨xs, hx, hcell⟩ := Reps.of (w := V) (ad := ad) l 0 (fun k s hk => by rw [Nat.zero_add]; exact hc k s hk)
 exact ⟨h2, xs, hx, ad, ha, fun i u hi => e.2 _ _ (by have := hcell i u hi; rwa [Nat.zero_mul, Nat.zero_add] at this)⟩
theorem appKs_run {B : Nat} {V w : World} {v : Value} {l m : List M.T} {A : Option Addr} {n c : Nat} (h : OwnKV B V w v l) (hx : KSrc V w m A n) (hlen : l.length + m.length ≤ 1000000) (hbase : B ≤ w.heap.size) (ty : TypeId) :
 ∃ v' w', (Builtin.append_ #[24, 24] ty #[v, .slice A n c]).run Tryz.prog w = .ok v' w' ∧ OwnKV B V w' v' (l ++ m) ∧ Below B w w' := by
 obtain ⟨i0, hi, hz0, hz1, hz2⟩ := info_parts info_Tree
 obtain ⟨xs, ho, hs⟩ := h
 obtain ⟨hn, ys, hy, ad, rfl, hcell⟩ := hx
 subst hn
 obtain ⟨v', w', hrun, ho', hg, _, hv'⟩ := run_append_own_at (P := Tryz.prog) w B 24 ty 26 i0 _ 4 56 Tryz.underlying24 hi hz0 hz1 hz2 rfl (by decide) v l.length xs ho ad m.length c ys hy.len2 hcell hy.one2 (by unfold maxLen; omega) (by omega) hbase
 exact ⟨v', w', hrun, ⟨xs ++ ys, by rw [List.length_append]; exact ho', hs.join hy⟩, (Below.refl _ _).grown hg hbase fun k hk => (World.ownsRow.lt ho k hk).1⟩
theorem wpList_appKs {base : Nat} {V w : World} {ops : Array Oper} {rest : List Oper} {o : Oper} {a : Act} {Q : Exit → Act → World → Prop} (hgd : o.guard = none) (s x : Operand)
 (ho : o.op = .call { callee := .builtin .append, args := #[s, x], argTypes := #[24, 24] }) {v : Value} {l m : List M.T} {A : Option Addr} {n c : Nat}
 (hs : a.eval s = v) (hx : a.eval x = .slice A n c) (h : OwnKV base V w v l) (hL : KSrc V w m A n) (hlen : l.length + m.length ≤ 1000000) (hbase : base ≤ w.heap.size)
 (hq : ∀ v' w', OwnKV base V w' v' (l ++ m) → Below base w w' → wpList Tryz.prog ops Q rest (a.put o.dst v') w') : wpList Tryz.prog ops Q (o :: rest) a w := by
 obtain ⟨v', w', hr, h2, h3⟩ := appKs_run (c := c) h hL hlen hbase o.type
 refine wpList_plain hgd fun K hK => ?_
 unfold Oper.wp execOp
 simp only [ho, resolve, invoke, builtin, Sem.run_bind, Sem.run_pure, Result.andThen_ok, List.map_toArray, List.map_cons, List.map_nil, hs, hx, hr]
 exact hK _ _ (hq v' w' h2 h3)
/-- The list, read among the blocks q. -/
theorem OwnKV.gkids {B : Nat} {V w : World} {v : Value} {ks : List M.T} {q : Nat → Prop} [DecidablePred q] (h : OwnKV B V w v ks) (hq : ∀ b, B ≤ b → q b) (e : Sub V (gp q w)) : Kids (gp q w) ks v := by
 obtain ⟨cs, h1, h2⟩ := h
 have hh := h1
 obtain ⟨hl, h3⟩ := h1
 rcases h3 with ⟨rfl, h0⟩ | ⟨b, cap, cur, rfl, hb, hc, hc1, hm, _, _⟩
 ·obtain rfl : ks = [] := List.eq_nil_of_length_eq_zero h0
  exact Kids.nil _
 ·refine Kids.mk_ ⟨_, _, _, rfl, rfl, hc1, hm, fun hn => ⟨_, rfl, by rw [gp_size]; exact (Array.getElem?_eq_some_iff.1 hc).1, fun k t hk => ?_⟩⟩
  obtain ⟨v', k0, k1, k2, k3, k4⟩ := h2.get hk
  have key : ∀ j u, cs[j]? = some u → (gp q w).cell? ((⟨b, 0, none⟩ : Addr).add j) = some u := fun j u hu => gp_cell.2 ⟨by rw [addr_block]; exact hq _ hb, World.ownsRow.cells hh (g := b) rfl _ _ hu⟩
  rw [M.T.eta t]
  refine inAt_mk.2 ⟨v', ⟨key _ _ k0, ?_, ?_, ?_⟩, k4.sub e⟩
  ·rw [Addr.add_add]; exact key _ _ k1
  ·rw [Addr.add_add]; exact key _ _ k2
  ·rw [Addr.add_add]; exact key _ _ k3
/-- A word's tree. -/
def M.leafT (s : List UInt8) : M.T := .mk false (4, s) []
/-- A tree, all of it from block S on. -/
def GivesKS (S : Nat) (w : World) (t : M.T) (e : Ending) (w' : World) : Prop := ∃ v, e = .returned v ∧ IsT (gp (fun b => S ≤ b) w') t v ∧ Ext w w'
abbrev zero4 : Array Value := #[.bool false, .int .i64 0, .string ⟨#[]⟩, .slice none 0 0]
abbrev put4 (w : World) (k : Nat) (x0 x1 x2 x3 : Value) : World := (((w.setCell ⟨k, 0, none⟩ x0).setCell ⟨k, 1, none⟩ x1).setCell ⟨k, 2, none⟩ x2).setCell ⟨k, 3, none⟩ x3
theorem boxF4 {w : World} {k : Nat} {T : TypeId} (h : Box w k zero4 T) : (w.cell? ⟨k, 0, none⟩ = some (.bool false) ∧ w.cell? ⟨k, 1, none⟩ = some (.int .i64 0) ∧ w.cell? ⟨k, 2, none⟩ = some (.string ⟨#[]⟩) ∧ w.cell? ⟨k, 3, none⟩ = some (.slice none 0 0)) ∧ (w.frozen? ⟨k, 0, none⟩ = false ∧ w.frozen? ⟨k, 1, none⟩ = false ∧ w.frozen? ⟨k, 2, none⟩ = false ∧ w.frozen? ⟨k, 3, none⟩ = false) ∧ k < w.heap.size :=
 ⟨⟨h.k 0, h.k 1, h.k 2, h.k 3⟩, ⟨h.free 0, h.free 1, h.free 2, h.free 3⟩, h.lt⟩
theorem put4_ext {w w1 : World} {k : Nat} {x0 x1 x2 x3 : Value} (e : Ext w w1) (hk : w.heap.size ≤ k) : Ext w (put4 w1 k x0 x1 x2 x3) := (((e.set' hk _).set' hk _).set' hk _).set' hk _
theorem put4_kept {w : World} {k : Nat} {x0 x1 x2 x3 : Value} : Kept [k] w (put4 w k x0 x1 x2 x3) := (((kept_setAt x0).trans (kept_setAt x1)).trans (kept_setAt x2)).trans (kept_setAt x3)
/-- Kids that lie beside a box survive what is put into it. -/
theorem kids_put4 {S k : Nat} {w : World} {ks : List M.T} {v x0 x1 x2 x3 : Value} (h : Kids (gp (fun b => S ≤ b ∧ b ≠ k) w) ks v) : Kids (gp (fun b => S ≤ b) (put4 w k x0 x1 x2 x3)) ks v :=
 h.sub (gp_mono (by simp) fun b hb h => ⟨h.1, put4_kept.2 b hb (by simp; exact h.2)⟩)
theorem leaf_t (s : List UInt8) (w : World) : Calls Tryz.prog 69 #[str s] w fun e w' => e = .returned (tv false (4, s) none 0 0) ∧ Ext w w' := by
 have HR := hid (Box.new w zero4 26)
 have HW := hid (fun w' => word_t s w')
 go_enter Tryz.func69, Tryz.ntmps69
 go_wp2_with fail
 refine (HW.out _).mono ?_
 rintro e w1 ⟨rfl, hx⟩
 obtain ⟨⟨r0, r1, r2, r3⟩, ⟨f0, f1, f2, f3⟩, hz⟩ := boxF4 (HR.out.up hx)
 have E1 := hid ((Ext.alloc w _).trans hx)
 clear hx
 go_wp2_with fail
 refine bodyPost_ret (v := tv false (4, s) none 0 0) (by simp [results, Tryz.results69, go_sem, r0, r1, r2, r3, hz]) rfl ?_
 exact ⟨rfl, put4_ext E1.out (Nat.le_refl _)⟩
set_option maxHeartbeats 4000000 in
theorem headed_t {S : Nat} (s : List UInt8) {ks : List M.T} {v : Value} {w : World} (h : Kids (gp (fun b => S ≤ b) w) ks v) (hne : ks ≠ []) (hlen : ks.length ≤ 1000) (hS : S ≤ w.heap.size) : Calls Tryz.prog 121 #[str s, v] w (GivesKS S w (.mk true (0, []) (M.leafT s :: ks))) := by
 obtain ⟨A, c, rfl⟩ := h.shape
 have HL := hid (fun w' => leaf_t s w')
 have HR := hid (Box.new w zero4 26)
 have HK := hid h
 have HNE := hid hne
 obtain ⟨n, hn⟩ : ∃ n, ks.length = n := ⟨_, rfl⟩
 rw [hn] at HK hlen ⊢
 have HN := hid hn
 clear h hne hn
 go_enter Tryz.func121, Tryz.ntmps121
 go_wp2_with fail
 refine (HL.out _).mono ?_
 rintro e w1 ⟨rfl, hx⟩
 have E1 := hid ((Ext.alloc w _).trans hx)
 replace HR := hid (HR.out.up hx)
 clear hx
 go_wp2_with (at_builtin; refine wpList_appKs rfl (.tmp 7) (.tmp 8) rfl (base := w1.heap.size) (V := gp (fun b => S ≤ b) w) (l := [M.leafT s]) (m := ks) (A := A) (n := n) (c := c) rfl rfl ?own ?src ?len ?base ?_)
 case own => exact ⟨_, World.ownsRow_lit w1 #[.bool false, .int .i64 4, str s, .slice none 0 0] 1 (Nat.le_refl _) (by unfold maxLen; omega) rfl, ⟨_, [], rfl, ⟨Kids.nil _, rfl⟩, rfl⟩⟩
 case src => exact HK.out.src HNE.out ((gp_sub _ w).trans (E1.out.alloc' _).sub)
 case len => have := HN.out; simp; omega
 case base => simp
 intro v' w3 hO3 hB3
 have HO3 := hid hO3
 have E3 := hid (show Ext w w3 from E1.out.trans (Below.trans (B := w1.heap.size) (Ext.alloc w1 _) hB3))
 have E13 := hid (show Ext w1 w3 from Below.trans (B := w1.heap.size) (Ext.alloc w1 _) hB3)
 have hk3 : Kids (gp (fun b => S ≤ b ∧ b ≠ w.heap.size) w3) (M.leafT s :: ks) v' := hO3.gkids (fun b hb => by have := E1.out.size; have h1 : w.heap.size < w1.heap.size := HR.out.lt; omega) (gp_mono E3.out.size fun k hk h => ⟨⟨h, by omega⟩, E3.out.block k hk⟩)
 obtain ⟨A3, c3, rfl⟩ := hk3.shape
 obtain ⟨⟨r0, r1, r2, r3⟩, ⟨f0, f1, f2, f3⟩, hz⟩ := boxF4 (HR.out.up E13.out)
 have HK3 := hid (fun x0 x1 x2 x3 => kids_put4 (x0 := x0) (x1 := x1) (x2 := x2) (x3 := x3) hk3)
 obtain ⟨m, hm⟩ : ∃ m, (M.leafT s :: ks).length = m := ⟨_, rfl⟩
 simp only [hm]
 have HM := hid hm
 clear hk3 hO3 hB3 hm
 go_wp2_with fail
 refine bodyPost_ret (v := .agg #[.bool true, .int .i64 0, .string ⟨#[]⟩, .slice A3 m c3]) (by simp [results, Tryz.results121, go_sem, r0, r1, r2, r3, hz]) rfl ?_
 refine ⟨_, rfl, ⟨A3, c3, ?_, ?_⟩, put4_ext E3.out (Nat.le_refl _)⟩
 ·rw [← HM.out]; rfl
 ·exact HM.out ▸ HK3.out _ _ _ _
theorem M.sortT_eq (tl : Bool) (tk : Int) (tx : List UInt8) (ts : List M.T) : M.sortT (.mk tl (tk, tx) ts) = if tl = true ∨ ts ≠ [] then (0, 10) else if (tk, tx) = ((4 : Int), M.bInt) then (2, 0) else if (tk, tx) = ((4 : Int), M.bBool) then (1, 0) else (0, 10) := rfl
set_option maxHeartbeats 4000000 in
theorem sort_t (t : M.T) {v : Value} {w : World} (h : IsT w t v) : Calls Tryz.prog 19 #[v] w fun e w' => e = .returned (.tuple #[.int .i64 (M.sortT t).1, .int .i64 (M.sortT t).2]) ∧ Ext w w' := by
 obtain ⟨tl, ⟨tk, tx⟩, ts⟩ := t
 obtain ⟨B, d, rfl, hk⟩ := h
 replace hk : Kids w ts (.slice B ts.length d) := hk
 show Calls Tryz.prog 19 #[tv tl (tk, tx) B ts.length d] w _
 have HZ := hid (M.sortT_eq tl tk tx ts)
 obtain ⟨Z, hZ⟩ : ∃ Z, M.sortT (.mk tl (tk, tx) ts) = Z := ⟨_, rfl⟩
 obtain ⟨q, hq⟩ : ∃ q, ts.length = q := ⟨_, rfl⟩
 have HQ := hid (show ts = [] ↔ q = 0 by rw [← hq]; exact List.length_eq_zero_iff.symm)
 obtain ⟨-, -, hl3⟩ := hk.le
 rw [hZ] at HZ ⊢
 rw [hq]
 have HB := hid (Box.new w #[.bool tl, .int .i64 tk, str tx, .slice B q d] 26)
 clear hk hZ hq hl3
 go_enter Tryz.func19, Tryz.ntmps19
 go_upto_region 1 with (fail)
 refine swp_at (fun W => Box W w.heap.size #[.bool tl, .int .i64 tk, str tx, .slice B q d] 26 ∧ Ext w W) ⟨HB.out, Ext.alloc w _⟩ ?_
 intro W ⟨hb, he⟩
 clear HB
 have EN := hid he
 have t0 := hb.k 0
 have t1 := hb.k 1
 have t2 := hb.k 2
 have t3 := hb.k 3
 clear hb he
 cases tl
 ·by_cases hq0 : q = 0
  ·subst hq0
   replace HZ := hid (show Z = if (tk, tx) = ((4 : Int), M.bInt) then (2, 0) else if (tk, tx) = ((4 : Int), M.bBool) then (1, 0) else (0, 10) by rw [HZ.out, if_neg (fun h => h.elim (by decide) (fun e => e (HQ.out.2 rfl)))])
   clear HQ
   by_cases hi : tk = 4 ∧ tx = [73, 110, 116]
   ·obtain ⟨rfl, rfl⟩ := hi
    replace HZ := hid (show Z = (2, 0) from HZ.out)
    go_wp2_with fail
    refine wp_region_D [(0, 0), (1, 0), (2, 1), (3, 0), (4, 0)] fun wd hb => ?_
    have Ed := hid (EN.out.trans hb)
    have g1 := hb.cell t1
    have g2 := hb.cell t2
    refine WE.p 14 (.pointer (some ⟨w.heap.size, 1, none⟩)) ?_
    simp only [Act.put, pA, pB, pC]
    refine WE.q 15 (.agg #[.int .i64 4, str [73, 110, 116]]) rfl (fun w' hk => by have ce := hk.cell g1; have cf := hk.cell g2; go_simp) ?_
    simp only [Act.put, pA, pB, pC]
    refine WE.c 16 ((word_t [73, 110, 116] wd).mono ?_)
    rintro e w2 ⟨rfl, hx2⟩
    refine ⟨_, rfl, hx2, ?_⟩
    replace t1 := hx2.cell g1
    replace t2 := hx2.cell g2
    replace EN := hid (Ed.out.trans hx2)
    clear hx2 g1 g2 hb Ed
    simp only [Act.put, pA, pB, pC]
    refine WE.p 17 (.bool true) ?_
    simp only [Act.put, pA, pB, pC]
    refine WE.p 13 (.bool true) ?_
    refine WE.done ?_
    simp only [Act.put, pA, pB, pC]
    go_wp2_with fail
    refine bodyPost_ret (v := .tuple #[.int .i64 2, .int .i64 0]) (by simp [results, Tryz.results19, go_sem]) rfl ?_
    rw [HZ.out]
    exact ⟨rfl, EN.out⟩
   ·replace HZ := hid (show Z = if (tk, tx) = ((4 : Int), M.bBool) then (1, 0) else (0, 10) by rw [HZ.out, if_neg (fun e => hi (by injection e with e1 e2; exact ⟨e1, e2⟩))])
    have hi' : tk = 4 → ¬ tx = [73, 110, 116] := fun h h' => hi ⟨h, h'⟩
    clear hi
    by_cases hbo : tk = 4 ∧ tx = [66, 111, 111, 108]
    ·obtain ⟨rfl, rfl⟩ := hbo
     replace HZ := hid (show Z = (1, 0) from HZ.out)
     clear hi'
     go_wp2_with fail
     refine wp_region_D [(0, 0), (1, 0), (2, 1), (3, 0), (4, 0)] fun wd hb => ?_
     have Ed := hid (EN.out.trans hb)
     have g1 := hb.cell t1
     have g2 := hb.cell t2
     refine WE.p 14 (.pointer (some ⟨w.heap.size, 1, none⟩)) ?_
     simp only [Act.put, pA, pB, pC]
     refine WE.q 15 (.agg #[.int .i64 4, str [66, 111, 111, 108]]) rfl (fun w' hk => by have ce := hk.cell g1; have cf := hk.cell g2; go_simp) ?_
     simp only [Act.put, pA, pB, pC]
     refine WE.c 16 ((word_t [73, 110, 116] wd).mono ?_)
     rintro e w2 ⟨rfl, hx2⟩
     refine ⟨_, rfl, hx2, ?_⟩
     replace t1 := hx2.cell g1
     replace t2 := hx2.cell g2
     replace EN := hid (Ed.out.trans hx2)
     clear hx2 g1 g2 hb Ed
     simp only [Act.put, pA, pB, pC]
     refine WE.p 17 (.bool false) ?_
     simp only [Act.put, pA, pB, pC]
     refine WE.p 13 (.bool false) ?_
     refine WE.done ?_
     simp only [Act.put, pA, pB, pC]
     go_wp2_with fail
     refine wp_region_D [(0, 0), (1, 0), (2, 1), (3, 0), (4, 0)] fun wd hb => ?_
     have Ed := hid (EN.out.trans hb)
     have g1 := hb.cell t1
     have g2 := hb.cell t2
     refine WE.p 19 (.pointer (some ⟨w.heap.size, 1, none⟩)) ?_
     simp only [Act.put, pA, pB, pC]
     refine WE.q 20 (.agg #[.int .i64 4, str [66, 111, 111, 108]]) rfl (fun w' hk => by have ce := hk.cell g1; have cf := hk.cell g2; go_simp) ?_
     simp only [Act.put, pA, pB, pC]
     refine WE.c 21 ((word_t [66, 111, 111, 108] wd).mono ?_)
     rintro e w2 ⟨rfl, hx2⟩
     refine ⟨_, rfl, hx2, ?_⟩
     replace t1 := hx2.cell g1
     replace t2 := hx2.cell g2
     replace EN := hid (Ed.out.trans hx2)
     clear hx2 g1 g2 hb Ed
     simp only [Act.put, pA, pB, pC]
     refine WE.p 22 (.bool true) ?_
     simp only [Act.put, pA, pB, pC]
     refine WE.p 18 (.bool true) ?_
     refine WE.done ?_
     simp only [Act.put, pA, pB, pC]
     go_wp2_with fail
     refine bodyPost_ret (v := .tuple #[.int .i64 1, .int .i64 0]) (by simp [results, Tryz.results19, go_sem]) rfl ?_
     rw [HZ.out]
     exact ⟨rfl, EN.out⟩
    ·replace HZ := hid (show Z = (0, 10) by rw [HZ.out, if_neg (fun e => hbo (by injection e with e1 e2; exact ⟨e1, e2⟩))])
     have hb' : tk = 4 → ¬ tx = [66, 111, 111, 108] := fun h h' => hbo ⟨h, h'⟩
     clear hbo
     by_cases h4 : tk = 4
     ·subst h4
      have hi2 := hi' rfl
      have hb2 := hb' rfl
      clear hi' hb'
      go_wp2_with fail
      refine wp_region_D [(0, 0), (1, 0), (2, 1), (3, 0), (4, 0)] fun wd hb => ?_
      have Ed := hid (EN.out.trans hb)
      have g1 := hb.cell t1
      have g2 := hb.cell t2
      refine WE.p 14 (.pointer (some ⟨w.heap.size, 1, none⟩)) ?_
      simp only [Act.put, pA, pB, pC]
      refine WE.q 15 (.agg #[.int .i64 4, str tx]) rfl (fun w' hk => by have ce := hk.cell g1; have cf := hk.cell g2; go_simp) ?_
      simp only [Act.put, pA, pB, pC]
      refine WE.c 16 ((word_t [73, 110, 116] wd).mono ?_)
      rintro e w2 ⟨rfl, hx2⟩
      refine ⟨_, rfl, hx2, ?_⟩
      replace t1 := hx2.cell g1
      replace t2 := hx2.cell g2
      replace EN := hid (Ed.out.trans hx2)
      clear hx2 g1 g2 hb Ed
      simp only [Act.put, pA, pB, pC]
      refine WE.p 17 (.bool false) ?_
      simp only [Act.put, pA, pB, pC]
      refine WE.p 13 (.bool false) ?_
      refine WE.done ?_
      simp only [Act.put, pA, pB, pC]
      go_wp2_with fail
      refine wp_region_D [(0, 0), (1, 0), (2, 1), (3, 0), (4, 0)] fun wd hb => ?_
      have Ed := hid (EN.out.trans hb)
      have g1 := hb.cell t1
      have g2 := hb.cell t2
      refine WE.p 19 (.pointer (some ⟨w.heap.size, 1, none⟩)) ?_
      simp only [Act.put, pA, pB, pC]
      refine WE.q 20 (.agg #[.int .i64 4, str tx]) rfl (fun w' hk => by have ce := hk.cell g1; have cf := hk.cell g2; go_simp) ?_
      simp only [Act.put, pA, pB, pC]
      refine WE.c 21 ((word_t [66, 111, 111, 108] wd).mono ?_)
      rintro e w2 ⟨rfl, hx2⟩
      refine ⟨_, rfl, hx2, ?_⟩
      replace t1 := hx2.cell g1
      replace t2 := hx2.cell g2
      replace EN := hid (Ed.out.trans hx2)
      clear hx2 g1 g2 hb Ed
      simp only [Act.put, pA, pB, pC]
      refine WE.p 22 (.bool false) ?_
      simp only [Act.put, pA, pB, pC]
      refine WE.p 18 (.bool false) ?_
      refine WE.done ?_
      simp only [Act.put, pA, pB, pC]
      go_wp2_with fail
      refine bodyPost_ret (v := .tuple #[.int .i64 0, .int .i64 10]) (by simp [results, Tryz.results19, go_sem]) rfl ?_
      rw [HZ.out]
      exact ⟨rfl, EN.out⟩
     ·clear hi' hb'
      go_wp2_with fail
      refine wp_region_D [(0, 0), (1, 0), (2, 1), (3, 0), (4, 0)] fun wd hb => ?_
      have Ed := hid (EN.out.trans hb)
      have g1 := hb.cell t1
      have g2 := hb.cell t2
      refine WE.p 14 (.pointer (some ⟨w.heap.size, 1, none⟩)) ?_
      simp only [Act.put, pA, pB, pC]
      refine WE.q 15 (.agg #[.int .i64 tk, str tx]) rfl (fun w' hk => by have ce := hk.cell g1; have cf := hk.cell g2; go_simp) ?_
      simp only [Act.put, pA, pB, pC]
      refine WE.c 16 ((word_t [73, 110, 116] wd).mono ?_)
      rintro e w2 ⟨rfl, hx2⟩
      refine ⟨_, rfl, hx2, ?_⟩
      replace t1 := hx2.cell g1
      replace t2 := hx2.cell g2
      replace EN := hid (Ed.out.trans hx2)
      clear hx2 g1 g2 hb Ed
      simp only [Act.put, pA, pB, pC]
      refine WE.p 17 (.bool false) ?_
      simp only [Act.put, pA, pB, pC]
      refine WE.p 13 (.bool false) ?_
      refine WE.done ?_
      simp only [Act.put, pA, pB, pC]
      go_wp2_with fail
      refine wp_region_D [(0, 0), (1, 0), (2, 1), (3, 0), (4, 0)] fun wd hb => ?_
      have Ed := hid (EN.out.trans hb)
      have g1 := hb.cell t1
      have g2 := hb.cell t2
      refine WE.p 19 (.pointer (some ⟨w.heap.size, 1, none⟩)) ?_
      simp only [Act.put, pA, pB, pC]
      refine WE.q 20 (.agg #[.int .i64 tk, str tx]) rfl (fun w' hk => by have ce := hk.cell g1; have cf := hk.cell g2; go_simp) ?_
      simp only [Act.put, pA, pB, pC]
      refine WE.c 21 ((word_t [66, 111, 111, 108] wd).mono ?_)
      rintro e w2 ⟨rfl, hx2⟩
      refine ⟨_, rfl, hx2, ?_⟩
      replace t1 := hx2.cell g1
      replace t2 := hx2.cell g2
      replace EN := hid (Ed.out.trans hx2)
      clear hx2 g1 g2 hb Ed
      simp only [Act.put, pA, pB, pC]
      refine WE.p 22 (.bool false) ?_
      simp only [Act.put, pA, pB, pC]
      refine WE.p 18 (.bool false) ?_
      refine WE.done ?_
      simp only [Act.put, pA, pB, pC]
      go_wp2_with fail
      refine bodyPost_ret (v := .tuple #[.int .i64 0, .int .i64 10]) (by simp [results, Tryz.results19, go_sem]) rfl ?_
      rw [HZ.out]
      exact ⟨rfl, EN.out⟩
  ·replace HZ := hid (show Z = (0, 10) by rw [HZ.out, if_pos (.inr (fun e => hq0 (HQ.out.1 e)))])
   have hqp : decide ((q : Int) > 0) = true := by simp; omega
   have hqp' : (0 : Int) < (q : Int) := by omega
   clear HQ
   go_wp2_with fail
   refine bodyPost_ret (v := .tuple #[.int .i64 0, .int .i64 10]) (by simp [results, Tryz.results19, go_sem]) rfl ?_
   rw [HZ.out]
   exact ⟨rfl, EN.out⟩
 ·replace HZ := hid (show Z = (0, 10) by rw [HZ.out, if_pos (.inl rfl)])
  clear HQ
  go_wp2_with fail
  refine bodyPost_ret (v := .tuple #[.int .i64 0, .int .i64 10]) (by simp [results, Tryz.results19, go_sem]) rfl ?_
  rw [HZ.out]
  exact ⟨rfl, EN.out⟩
end Go.Proofs.YtgkofipifjfjhaaGreatDoor.Q

/-
  Contracts of package sort: numeral, all, named, told, Tree.
-/
namespace Go.Proofs.YtgkofipifjfjhaaGreatDoor.Q
set_option linter.unusedSimpArgs false
set_option linter.unusedVariables false
open Go.RowKit

/-- All tables that package sort and what it calls read. -/
def TabT (w : World) : Prop := TabS w ∧ Go.Proofs.YtgkofipifjfjhaaGreatDoor.Tab w
theorem TabT.up {w w' : World} (h : TabT w) (e : Ext w w') : TabT w' := ⟨h.1.up e, Go.Proofs.YtgkofipifjfjhaaGreatDoor.Tab.up h.2 e⟩
/-- A number's tree. -/
def M.numT (n : Nat) : M.T := .mk false (3, Lib.decDigits n) []
def M.numeralT (Z : Int) : M.T := if Z < 0 then .mk true (0, []) [M.leafT [45], M.numT Z.natAbs] else M.numT Z.natAbs
mutual
/-- A term's tree. -/
def M.toldT : M.Tm → M.T
 | .mk op g ls nm so ks => if op = 1 then M.numeralT (M.zv g ls) else if op = 2 then M.leafT M.bTrue else if op = 3 then M.leafT M.bFalse else if op = 4 then (if ks.length = 0 then M.leafT nm else .mk true (0, []) (M.leafT nm :: M.toldTs ks)) else .mk true (0, []) (M.leafT (M.opWords.getD op.toNat []) :: M.toldTs ks)
def M.toldTs : List M.Tm → List M.T
 | [] => []
 | t :: r => M.toldT t :: M.toldTs r
end
theorem M.toldTs_map : ∀ (ks : List M.Tm), M.toldTs ks = ks.map M.toldT
 | [] => by simp [M.toldTs]
 | t :: r => by rw [M.toldTs, M.toldTs_map r]; rfl
theorem leaf_isT (w : World) (tk : M.Tok) : IsT w (.mk false tk []) (tv false tk none 0 0) := ⟨none, 0, rfl, Kids.nil _⟩
theorem isT_put4 {S B k : Nat} {w : World} {t : M.T} {v x0 x1 x2 x3 : Value} (h : IsT (gp (fun b => S ≤ b) w) t v) (hk : k < S) (hB : B ≤ S) : IsT (gp (fun b => B ≤ b) (put4 w k x0 x1 x2 x3)) t v :=
 h.sub (gp_mono (by simp) fun b hb h => ⟨by omega, put4_kept.2 b hb (by simp; omega)⟩)
theorem kids_row1 {S : Nat} {w : World} (tk : M.Tok) (hS : S ≤ w.heap.size) : Kids (gp (fun b => S ≤ b) (w.alloc (.cells #[.bool false, .int .i64 tk.1, str tk.2, .slice none 0 0] 26))) [.mk false tk []] (.slice (some ⟨w.heap.size, 0, none⟩) 1 1) :=
 OwnKV.gkids (B := w.heap.size) (V := gp (fun b => S ≤ b) (w.alloc (.cells #[.bool false, .int .i64 tk.1, str tk.2, .slice none 0 0] 26))) ⟨_, World.ownsRow_lit w #[.bool false, .int .i64 tk.1, str tk.2, .slice none 0 0] 1 (Nat.le_refl _) (by unfold maxLen; omega) rfl, ⟨_, [], rfl, ⟨Kids.nil _, rfl⟩, rfl⟩⟩ (fun b hb => Nat.le_trans hS hb) ⟨Nat.le_refl _, fun _ _ h => h⟩
theorem field_mag (v0 v1 : Value) (w : World) : (Instr.field 30 (.agg #[v0, v1]) 1).run Tryz.prog w = .ok v1 w := by kernel_rfl
set_option maxHeartbeats 4000000 in
theorem numeral_t {g : Bool} {N : Option Addr} {nn nc : Nat} {ls : List Nat} {w : World} (hn : Num w w.heap.size (.slice N nn nc) ls) (hl : ls.length ≤ 40) (ht : TabT w) : Calls Tryz.prog 118 #[.agg #[.bool g, .slice N nn nc]] w (GivesKS w.heap.size w (M.numeralT (M.zv g ls))) := by
 obtain ⟨Z, hZ⟩ : ∃ Z, M.zv g ls = Z := ⟨_, rfl⟩
 have HW := hid (show ∀ w', Ext w w' → Worth w' (.agg #[.bool g, .slice N nn nc]) Z 40 from fun w' e => worth_of (hn.up e) hl hZ.symm)
 rw [hZ]
 have HT := hid ht
 have HB0 := hid (show Box ((w.alloc (.cells #[.bool g, .slice N nn nc] 30)).alloc (.cells zero4 26)) w.heap.size #[.bool g, .slice N nn nc] 30 from (Box.new w _ _).alloc _)
 have HB1 := hid (show Box ((w.alloc (.cells #[.bool g, .slice N nn nc] 30)).alloc (.cells zero4 26)) (w.heap.size + 1) zero4 26 from Box.at_ (w := w.alloc _) _ _ (by simp))
 have HE := hid (show Ext w ((w.alloc (.cells #[.bool g, .slice N nn nc] 30)).alloc (.cells zero4 26)) from (Ext.alloc w _).alloc' _)
 clear hn hl hZ ht
 go_enter Tryz.func118, Tryz.ntmps118
 go_upto_region 1 with (fail)
 refine swp_at (fun W => Box W w.heap.size #[.bool g, .slice N nn nc] 30 ∧ Box W (w.heap.size + 1) zero4 26 ∧ Ext w W) ⟨HB0.out, HB1.out, HE.out⟩ ?_
 intro W ⟨hb0, hb1, he⟩
 clear HB0 HB1 HE
 have HB0 := hid hb0
 have HB1 := hid hb1
 have HE := hid he
 have b0 := hb0.k 0
 have b1 := hb0.k 1
 clear hb0 hb1 he
 go_wp2_with fail
 refine (abs_w (HW.out W HE.out) (by decide)).mono ?_
 rintro e w1 ⟨v1, rfl, hv1, hx⟩
 obtain ⟨g1, A1, n1, c1, rfl, -, hn1⟩ := hv1.form
 have hd := digitsNat_n hn1.1 (Nat.le_trans hn1.2 (by decide)) (HT.out.up (HE.out.trans hx)).2
 rw [M.nv_limbs] at hd
 have HD := hid hd
 have E1 := hid (HE.out.trans hx)
 replace HB0 := hid (HB0.out.up hx)
 replace HB1 := hid (HB1.out.up hx)
 clear hd hn1 hv1 hx b0 b1
 have hf := fun w' => field_mag (.bool g1) (.slice A1 n1 c1) w'
 go_wp2_with fail
 clear hf
 refine HD.out.mono ?_
 rintro e w2 ⟨rfl, hx⟩
 obtain ⟨DG, hDG⟩ : ∃ DG, Lib.decDigits (Z.natAbs : Int).natAbs = DG := ⟨_, rfl⟩
 rw [hDG]
 replace E1 := hid (E1.out.trans hx)
 replace HB0 := hid (HB0.out.up hx)
 replace HB1 := hid (HB1.out.up hx)
 clear hx HD
 have b0 := fun o => (Ext.alloc w2 o).cell (HB0.out.k 0)
 have b1 := fun o => (Ext.alloc w2 o).cell (HB0.out.k 1)
 have HDG := hid hDG
 have HSZ := hid HB1.out.lt
 have HS := hid (fun w' e s hs => sign_e (HW.out w' e) (s := s) hs)
 clear hDG HW HT
 by_cases hneg : Z < 0
 ·have HM := hid (show M.numeralT Z = .mk true (0, []) [M.leafT [45], .mk false (3, DG) []] by unfold M.numeralT; rw [if_pos hneg]; unfold M.numT; rw [← HDG.out]; rfl)
  have HSG := hid (fun w' e => HS.out w' e (-1) (Int.sign_eq_neg_one_of_neg hneg))
  clear HS hneg HDG
  go_wp2_with fail
  refine (HSG.out _ (E1.out.alloc' _)).mono ?_
  rintro e w3 ⟨rfl, hx⟩
  have HBT := hid ((Box.new w2 #[.bool false, .int .i64 3, str DG, .slice none 0 0] 26).up hx)
  have E3 := hid ((E1.out.alloc' _).trans hx)
  have E23 := hid ((Ext.alloc w2 _).trans hx)
  have t0 := HBT.out.k 0
  have t1 := HBT.out.k 1
  have t2 := HBT.out.k 2
  have t3 := HBT.out.k 3
  clear hx b0 b1
  go_wp2_with fail
  refine (headed_t (S := w2.heap.size) [45] (kids_row1 (3, DG) E23.out.size) (by simp) (by simp) (by have := E23.out.size; simp; omega)).mono ?_
  rintro e w4 ⟨v4, rfl, hv, hx⟩
  have HV := hid (fun x0 x1 x2 x3 => isT_put4 (k := w.heap.size + 1) (B := w.heap.size) (x0 := x0) (x1 := x1) (x2 := x2) (x3 := x3) hv HSZ.out (E1.out.size))
  obtain ⟨A4, c4, rfl, -⟩ := hv
  have E4 := hid ((E3.out.alloc' _).trans hx)
  obtain ⟨⟨r0, r1, r2, r3⟩, ⟨f0, f1, f2, f3⟩, hz⟩ := boxF4 (HB1.out.up ((E23.out.alloc' _).trans hx))
  clear hx t0 t1 t2 t3
  go_wp2_with fail
  refine bodyPost_ret (v := tv true (0, []) A4 2 c4) (by simp [results, Tryz.results118, go_sem, r0, r1, r2, r3, hz, M.T.list, M.T.tok, M.T.kids]) rfl ?_
  rw [HM.out]
  exact ⟨_, rfl, HV.out _ _ _ _, put4_ext E4.out (Nat.le_succ _)⟩
 ·have HM := hid (show M.numeralT Z = .mk false (3, DG) [] by unfold M.numeralT; rw [if_neg hneg]; unfold M.numT; rw [← HDG.out]; rfl)
  obtain ⟨s, hs⟩ : ∃ s, Z.sign = s := ⟨_, rfl⟩
  have hs0 : ¬ s < 0 := by
   intro h
   rw [← hs] at h
   exact hneg ((M.sign_neg Z).1 h)
  have HSG := hid (fun w' e => HS.out w' e s hs)
  clear HS hneg HDG hs
  go_wp2_with fail
  refine (HSG.out _ (E1.out.alloc' _)).mono ?_
  rintro e w3 ⟨rfl, hx⟩
  have HBT := hid ((Box.new w2 #[.bool false, .int .i64 3, str DG, .slice none 0 0] 26).up hx)
  have E3 := hid ((E1.out.alloc' _).trans hx)
  have t0 := HBT.out.k 0
  have t1 := HBT.out.k 1
  have t2 := HBT.out.k 2
  have t3 := HBT.out.k 3
  obtain ⟨⟨r0, r1, r2, r3⟩, ⟨f0, f1, f2, f3⟩, hz⟩ := boxF4 (HB1.out.up ((Ext.alloc w2 _).trans hx))
  clear hx b0 b1
  go_wp2_with fail
  refine bodyPost_ret (v := tv false (3, DG) none 0 0) (by simp [results, Tryz.results118, go_sem, r0, r1, r2, r3, hz]) rfl ?_
  rw [HM.out]
  exact ⟨_, rfl, leaf_isT _ _, put4_ext E3.out (Nat.le_succ _)⟩
end Go.Proofs.YtgkofipifjfjhaaGreatDoor.Q

/-
  Contracts of package sort: all, named, told, Tree.
-/
namespace Go.Proofs.YtgkofipifjfjhaaGreatDoor.Q
set_option linter.unusedSimpArgs false
set_option linter.unusedVariables false
open Go.RowKit

theorem wpList_appOK {base : Nat} {w : World} {ops : Array Oper} {rest : List Oper} {o : Oper} {a : Act} {Q : Exit → Act → World → Prop} (hgd : o.guard = none) (s x : Operand)
 (ho : o.op = .call { callee := .builtin .append, args := #[s, x], argTypes := #[24, 24] }) {v : Value} {ks : List M.T} {t : M.T} {kv : Value} {gL : Nat} {tL : TypeId}
 (hs : a.eval s = v) (hx : a.eval x = .slice (some ⟨gL, 0, none⟩) 1 1) (h : OwnK base w v ks) (hL : Box w gL #[.bool t.list, .int .i64 t.tok.1, str t.tok.2, kv] tL)
 (hk : Kids (gp (beside base v) w) t.kids kv) (h1 : kv.oneCell' = true) (hlen : ks.length + 1 ≤ 1000000000) (hbase : base ≤ w.heap.size)
 (hq : ∀ v' w', OwnK base w' v' (ks ++ [t]) → Below base w w' → wpList Tryz.prog ops Q rest (a.put o.dst v') w') : wpList Tryz.prog ops Q (o :: rest) a w := by
 obtain ⟨v', w', hr, h2, h3⟩ := appK_run h hL hk h1 hlen hbase o.type
 refine wpList_plain hgd fun K hK => ?_
 unfold Oper.wp execOp
 simp only [ho, resolve, invoke, builtin, Sem.run_bind, Sem.run_pure, Result.andThen_ok, List.map_toArray, List.map_cons, List.map_nil, hs, hx, hr]
 exact hK _ _ (hq v' w' h2 h3)
/-- What told owes, at terms of fewer than N nodes. -/
def ToldAt (N : Nat) : Prop := ∀ {t : M.Tm} {v : Value} {w : World}, M.kcnt t < N → M.kis t = true → M.kfew t = true → M.kcnt t ≤ 1000 → IsTm w t v → TabT w → Calls Tryz.prog 70 #[v] w (GivesKS w.heap.size w (M.toldT t))
/-- Trees on new memory. -/
def GivesKL (w : World) (ts : List M.T) (e : Ending) (w' : World) : Prop := ∃ v, e = .returned v ∧ Kids (gp (fun b => w.heap.size ≤ b) w') ts v ∧ Ext w w'
theorem OwnK.ownlt {B : Nat} {w : World} {v : Value} {ks : List M.T} (h : OwnK B w v ks) : ∀ b, v.ownBlock = some b → B ≤ b ∧ b < w.heap.size := by
 obtain ⟨cs, h1, _⟩ := h
 exact fun b hb => World.ownsRow.lt h1 b hb
set_option maxHeartbeats 8000000 in
theorem all_n {N : Nat} (H : ToldAt N) {ks : List M.Tm} {v : Value} {w : World} (h : Tms w ks v) (hlt : M.kcnts ks < N) (hks : M.kiss ks = true) (hf : M.kfews ks = true) (hc : M.kcnts ks ≤ 1000) (ht : TabT w) : Calls Tryz.prog 122 #[v] w (GivesKL w (ks.map M.toldT)) := by
 obtain ⟨KA, kc, rfl⟩ := h.shape
 obtain ⟨hl1, hl2, hl3⟩ := h.le
 obtain ⟨n, hn⟩ : ∃ n, ks.length = n := ⟨_, rfl⟩
 have hnn : n ≤ 1000 := by rw [← hn]; exact Nat.le_trans (M.kcnts_len ks) hc
 rw [hn] at h hl2 ⊢
 have HK := hid h
 have HN := hid hn
 have HC := hid (show ∀ (k : Nat) (t : M.Tm) (u : Value) (w' : World), ks[k]? = some t → Ext w w' → IsTm w' t u → Calls Tryz.prog 70 #[u] w' (GivesKS w'.heap.size w' (M.toldT t)) from fun k t u w' hk e hu => by
  have := M.kcnts_at hk
  exact H (by omega) (M.kiss_at hks hk) (M.kfews_at hf hk) (by omega) hu (ht.up e))
 clear H h hlt hks hf hc ht hl1 hl3 hn
 go_enter Tryz.func122, Tryz.ntmps122
 go_wp2_with fail
 go_loopw [3, 8] (fun x i wr => ∃ k : Nat, k ≤ n ∧ i = .int .i64 k ∧ Hid (OwnK w.heap.size wr x ((ks.take k).map M.toldT) ∧ Ext w wr)) (fun _ i _ => n - (intOf i).toNat)
 case atStart => exact ⟨0, Nat.zero_le _, rfl, hid ⟨OwnK.nil _ _, Ext.refl _⟩⟩
 case round =>
  obtain ⟨k, hk, rfl, hRR⟩ := hrel
  have E := hid hRR.out.2
  obtain ⟨L, hL⟩ : ∃ L, (ks.take k).map M.toldT = L := ⟨_, rfl⟩
  have hO := hRR.out.1
  rw [hL] at hO
  have HL := hid hL
  have HLK := hid (show L.length = k by rw [← HL.out, List.length_map, List.length_take, HN.out]; omega)
  obtain ⟨IA, ic, rfl⟩ := hO.len
  obtain ⟨q, hq⟩ : ∃ q, L.length = q := ⟨_, rfl⟩
  rw [hq] at hO ⊢
  have HQ := hid hq
  have HO := hid hO
  clear hRR hL hO hq
  rcases Nat.lt_or_ge k n with hlt | hge
  ·have hlt' : (k : Int) < (n : Int) := by omega
   obtain ⟨ad, u, UN, unn, unc, UB, ud, rfl, hu, ⟨c0, c1, c2, c3, c4, c5⟩, hv⟩ := (HK.out.up E.out).get hlt
   have HU := hid hu
   obtain ⟨uk, huk⟩ : ∃ uk, u.kids.length = uk := ⟨_, rfl⟩
   rw [huk] at c5 hv
   have HCU := hid (fun w' (e : Ext wr w') => HC.out k u _ w' hu (E.out.trans e) (hv.up e))
   clear hu hv huk
   obtain ⟨T, hT⟩ : ∃ T, M.toldT u = T := ⟨_, rfl⟩
   rw [hT] at HCU
   have HT := hid hT
   clear hT
   go_wp2_with fail
   refine (HCU.out _ (Ext.alloc _ _)).mono ?_
   rintro e w1 ⟨v1, rfl, hv1, hx⟩
   have hex := (Ext.alloc wr _).trans hx
   have hfar : IsT (gp (beside w.heap.size (.slice IA q ic)) w1) T v1 := hv1.sub (gp_mono (Nat.le_refl _) fun b _ hb => ⟨⟨by have := E.out.size; simp at hb; omega, fun e => by
    have h2 := HO.out.ownlt b e
    simp at hb; omega⟩, rfl⟩)
   obtain ⟨TA, tc, rfl, htk⟩ := hfar
   obtain ⟨tl, ⟨tk, tx⟩, ts⟩ := T
   replace htk : Kids (gp (beside w.heap.size (.slice IA q ic)) w1) ts (.slice TA ts.length tc) := htk
   obtain ⟨tm, htm⟩ : ∃ tm, ts.length = tm := ⟨_, rfl⟩
   dsimp only [M.T.list, M.T.tok, M.T.kids]
   rw [htm] at htk ⊢
   have HTK := hid htk
   have E1 := hid hex
   clear hv1 htk hx hex htm c0 c1 c2 c3 c4 c5
   go_wp2_with (at_builtin; refine wpList_appOK rfl (.tmp 12) (.tmp 15) rfl (base := w.heap.size) (ks := L) (t := .mk tl (tk, tx) ts) (kv := .slice TA tm tc) (gL := w1.heap.size) (tL := 26) rfl rfl ?own ?box ?kid rfl ?len ?base ?_)
   case own => exact HO.out.frame (E1.out.alloc' _).size fun b _ hb => (E1.out.alloc' _).block b hb
   case box => exact Box.new w1 _ _
   case kid => exact HTK.out.sub (gp_ext (Ext.alloc w1 _))
   case len => have := HLK.out; omega
   case base => have := (E.out.trans E1.out).size; simp; omega
   intro v' w5 hO5 hB5
   have HO5 := hid hO5
   have HB5 := hid (show Ext w w5 from Below.trans (B := w.heap.size) ((E.out.trans E1.out).alloc' _) hB5)
   clear hO5 hB5
   go_wp2_with fail
   go_roundw
   case rel => exact ⟨k + 1, by omega, by simp, hid ⟨by
    rw [List.take_add_one, HU.out, List.map_append, HL.out]
    have : (Option.toList (some u)).map M.toldT = [.mk tl (tk, tx) ts] := by simp [HT.out]
    rw [this]
    exact HO5.out, HB5.out⟩⟩
   case measure => simp [intOf]; omega
  ·obtain rfl : k = n := by omega
   have HM := hid (show L = ks.map M.toldT by
    rw [← HL.out, List.take_of_length_le (by rw [HN.out]; exact Nat.le_refl _)])
   go_wp2_with fail
   go_ret
   exact ⟨_, rfl, HM.out ▸ HO.out.kids, E.out⟩
set_option maxHeartbeats 4000000 in
theorem named_n {N : Nat} (H : ToldAt N) (s : List UInt8) {ks : List M.Tm} {v : Value} {w : World} (h : Tms w ks v) (hlt : M.kcnts ks < N) (hks : M.kiss ks = true) (hf : M.kfews ks = true) (hc : M.kcnts ks ≤ 1000) (ht : TabT w) : Calls Tryz.prog 119 #[str s, v] w (GivesKS w.heap.size w (if ks.length = 0 then M.leafT s else .mk true (0, []) (M.leafT s :: ks.map M.toldT))) := by
 obtain ⟨KA, kc, rfl⟩ := h.shape
 obtain ⟨n, hn⟩ : ∃ n, ks.length = n := ⟨_, rfl⟩
 have HAL := hid (show ∀ w', Ext w w' → Calls Tryz.prog 122 #[.slice KA n kc] w' (GivesKL w' (ks.map M.toldT)) from fun w' e => hn ▸ all_n H (h.up e) hlt hks hf hc (ht.up e))
 have HL := hid (fun w' => leaf_t s w')
 have HR := hid (Box.new w zero4 26)
 obtain ⟨L, hL⟩ : ∃ L, ks.map M.toldT = L := ⟨_, rfl⟩
 have hlL : L.length = n := by rw [← hL, List.length_map, hn]
 have hnn : n ≤ 1000 := by rw [← hn]; exact Nat.le_trans (M.kcnts_len ks) hc
 rw [hL] at HAL ⊢
 rw [hn]
 have HLL := hid hlL
 clear H h hlt hks hf hc ht hn hL hlL
 by_cases h0 : n = 0
 ·subst h0
  rw [if_pos rfl]
  go_enter Tryz.func119, Tryz.ntmps119
  go_wp2_with fail
  refine (HL.out _).mono ?_
  rintro e w1 ⟨rfl, hx⟩
  obtain ⟨⟨r0, r1, r2, r3⟩, ⟨f0, f1, f2, f3⟩, hz⟩ := boxF4 (HR.out.up hx)
  have E1 := hid ((Ext.alloc w _).trans hx)
  clear hx
  go_wp2_with fail
  refine bodyPost_ret (v := tv false (4, s) none 0 0) (by simp [results, Tryz.results119, go_sem, r0, r1, r2, r3, hz]) rfl ?_
  exact ⟨_, rfl, leaf_isT _ _, put4_ext E1.out (Nat.le_refl _)⟩
 ·rw [if_neg h0]
  have hq : ((n : Int) == 0) = false := by simpa using h0
  have HNE := hid (show L ≠ [] from fun e => h0 (by rw [← HLL.out, e]; rfl))
  clear h0
  go_enter Tryz.func119, Tryz.ntmps119
  go_wp2_with fail
  refine (HAL.out _ (Ext.alloc w _)).mono ?_
  rintro e w1 ⟨v1, rfl, hv1, hx⟩
  have hhd := headed_t s hv1 HNE.out (by rw [HLL.out]; exact hnn) hx.size
  have HHD := hid hhd
  have HX := hid hx
  clear hv1 hx hhd
  go_wp2_with fail
  refine HHD.out.mono ?_
  rintro e w4 ⟨v4, rfl, hv, hx⟩
  have E1 := hid (HX.out.trans hx)
  have HV := hid (fun x0 x1 x2 x3 => isT_put4 (k := w.heap.size) (B := w.heap.size) (x0 := x0) (x1 := x1) (x2 := x2) (x3 := x3) hv (by simp) (by simp))
  obtain ⟨A4, c4, rfl, -⟩ := hv
  obtain ⟨⟨r0, r1, r2, r3⟩, ⟨f0, f1, f2, f3⟩, hz⟩ := boxF4 (HR.out.up E1.out)
  obtain ⟨m, hm⟩ : ∃ m, (M.leafT s :: L).length = m := ⟨_, rfl⟩
  have HV' := hid (show ∀ x0 x1 x2 x3, IsT (gp (fun b => w.heap.size ≤ b) (put4 w4 w.heap.size x0 x1 x2 x3)) (.mk true (0, []) (M.leafT s :: L)) (tv true (0, []) A4 m c4) from fun x0 x1 x2 x3 => hm ▸ HV.out x0 x1 x2 x3)
  dsimp only [M.T.list, M.T.tok, M.T.kids]
  rw [hm]
  clear hx hm HV
  go_wp2_with fail
  refine bodyPost_ret (v := tv true (0, []) A4 m c4) (by simp [results, Tryz.results119, go_sem, r0, r1, r2, r3, hz]) rfl ?_
  exact ⟨_, rfl, HV'.out _ _ _ _, put4_ext ((Ext.alloc w _).trans E1.out) (Nat.le_refl _)⟩
theorem told_boxes (w : World) (y0 y1 y2 y3 y4 y5 : Value) : Box ((w.alloc (.cells #[y0, y1, y2, y3, y4, y5] 33)).alloc (.cells zero4 26)) w.heap.size #[y0, y1, y2, y3, y4, y5] 33 ∧ Box ((w.alloc (.cells #[y0, y1, y2, y3, y4, y5] 33)).alloc (.cells zero4 26)) (w.heap.size + 1) zero4 26 ∧ Ext w ((w.alloc (.cells #[y0, y1, y2, y3, y4, y5] 33)).alloc (.cells zero4 26)) :=
 ⟨(Box.new w _ _).alloc _, Box.at_ (w := w.alloc _) _ _ (by simp), alloc_two w _ _⟩
set_option maxHeartbeats 16000000 in
set_option maxRecDepth 100000 in
theorem told_step {N : Nat} (H : ToldAt N) : ToldAt (N + 1) := by
 intro t v w hlt hk hf hc h ht
 obtain ⟨op, g, ls, nm, so, ks⟩ := t
 obtain ⟨NA, nn, nc, KA, kn, kc, rfl, -, -, -, -, -, -⟩ := h.shape
 obtain ⟨hn, hks⟩ := h.num
 replace hn : LNum w (.slice NA nn nc) ls := hn
 replace hks : Tms w ks (.slice KA kn kc) := hks
 dsimp only [M.Tm.op, M.Tm.g, M.Tm.name, M.Tm.sort]
 rw [M.kcnt] at hlt hc
 rw [M.kis, Bool.and_eq_true] at hk
 rw [M.kfew, Bool.and_eq_true, Bool.and_eq_true, decide_eq_true_iff, decide_eq_true_iff] at hf
 obtain ⟨hf1, hf2, hf3⟩ := hf
 obtain ⟨hk1, hk2⟩ := hk
 have HNM := hid (show ∀ (s : List UInt8) w', Ext w w' → Calls Tryz.prog 119 #[str s, .slice KA kn kc] w' (GivesKS w'.heap.size w' (if ks.length = 0 then M.leafT s else .mk true (0, []) (M.leafT s :: ks.map M.toldT))) from fun s w' e => named_n H s (hks.up e) (by omega) hk1 hf3 (by omega) (ht.up e))
 have HAL := hid (show ∀ w', Ext w w' → Calls Tryz.prog 122 #[.slice KA kn kc] w' (GivesKL w' (ks.map M.toldT)) from fun w' e => all_n H (hks.up e) (by omega) hk1 hf3 (by omega) (ht.up e))
 have HNU := hid (show ∀ w', Ext w w' → Calls Tryz.prog 118 #[.agg #[.bool g, .slice NA nn nc]] w' (GivesKS w'.heap.size w' (M.numeralT (M.zv g ls))) from fun w' e => numeral_t (hn.up e) hf2 (ht.up e))
 have HCL := hid (show ∀ w', Calls Tryz.prog 120 #[str nm] w' (GivesT w' nm) from fun w' => clone_n nm (by omega) w')
 have HLF := hid (fun s w' => leaf_t s w')
 obtain ⟨T, hT⟩ : ∃ T, M.toldT (.mk op g ls nm so ks) = T := ⟨_, rfl⟩
 have HX := hid (show M.toldT (.mk op g ls nm so ks) = T from hT)
 rw [M.toldT, M.toldTs_map] at hT
 have HWT := hid ht.1.2
 have hkl : ks.length ≤ 1000 := Nat.le_trans (M.kcnts_len ks) (by omega)
 obtain ⟨hb0, hb1, he⟩ := told_boxes w (.int .i64 op) (.bool g) (.slice NA nn nc) (str nm) (.int .i64 so) (.slice KA kn kc)
 have HB0 := hid hb0
 have HB1 := hid hb1
 have HE := hid he
 have HKS := hid hkl
 clear hb0 hb1 he H hlt hk1 hf1 hf2 hf3 hc h ht hn hks hkl
 go_enter Tryz.func70, Tryz.ntmps70
 go_upto_region 1 with (fail)
 refine swp_at (fun W => Box W w.heap.size #[.int .i64 op, .bool g, .slice NA nn nc, str nm, .int .i64 so, .slice KA kn kc] 33 ∧ Box W (w.heap.size + 1) zero4 26 ∧ Ext w W) ⟨HB0.out, HB1.out, HE.out⟩ ?_
 intro W ⟨hb0, hb1, he⟩
 clear HB0 HB1 HE
 have HB0 := hid hb0
 have HB1 := hid hb1
 have EN := hid he
 have HSK := hid hb1.lt
 have HSB := hid he.size
 have t0 := hb0.k 0
 have t1 := hb0.k 1
 have t2 := hb0.k 2
 have t3 := hb0.k 3
 have t4 := hb0.k 4
 have t5 := hb0.k 5
 clear hb0 hb1 he
 by_cases h1 : op = 1
 ·subst h1
  replace hT : M.numeralT (M.zv g ls) = T := hT
  have HC := hid (hT ▸ HNU.out W EN.out)
  clear hT hk2 HNM HAL HNU HCL HLF HB0
  go_wp2_with fail
  refine HC.out.mono ?_
  rintro e w4 ⟨v4, rfl, hv, hx⟩
  clear t0 t1 t2 t3 t4 t5
  have HV := hid (fun x0 x1 x2 x3 => isT_put4 (k := w.heap.size + 1) (B := w.heap.size) (x0 := x0) (x1 := x1) (x2 := x2) (x3 := x3) hv HSK.out HSB.out)
  obtain ⟨TL, ⟨TK, TX⟩, TS⟩ := T
  obtain ⟨A4, c4, rfl, -⟩ := hv
  obtain ⟨⟨r0, r1, r2, r3⟩, ⟨f0, f1, f2, f3⟩, hz⟩ := boxF4 (HB1.out.up hx)
  have E4 := hid (EN.out.trans hx)
  dsimp only [M.T.list, M.T.tok, M.T.kids]
  obtain ⟨m, hm⟩ : ∃ m, TS.length = m := ⟨_, rfl⟩
  have HV' := hid (show ∀ x0 x1 x2 x3, IsT (gp (fun b => w.heap.size ≤ b) (put4 w4 (w.heap.size + 1) x0 x1 x2 x3)) (.mk TL (TK, TX) TS) (tv TL (TK, TX) A4 m c4) from fun x0 x1 x2 x3 => hm ▸ HV.out x0 x1 x2 x3)
  rw [hm]
  clear hx hm HV
  go_wp2_with fail
  refine bodyPost_ret (v := tv TL (TK, TX) A4 m c4) (by simp [results, Tryz.results70, go_sem, r0, r1, r2, r3, hz]) rfl ?_
  rw [HX.out]
  exact ⟨_, rfl, HV'.out _ _ _ _, put4_ext E4.out (Nat.le_succ _)⟩
 by_cases h2 : op = 2
 ·subst h2
  replace hT : M.leafT M.bTrue = T := hT
  clear hk2 HNM HAL HNU HCL HB0 h1
  go_wp2_with fail
  refine (HLF.out _ _).mono ?_
  rintro e w4 ⟨rfl, hx⟩
  have hv : IsT (gp (fun b => W.heap.size ≤ b) w4) T (tv false (4, [116, 114, 117, 101]) none 0 0) := hT ▸ leaf_isT _ _
  subst hT
  obtain ⟨⟨r0, r1, r2, r3⟩, ⟨f0, f1, f2, f3⟩, hz⟩ := boxF4 (HB1.out.up hx)
  have E4 := hid (EN.out.trans hx)
  clear hx t0 t1 t2 t3 t4 t5 hv
  go_wp2_with fail
  refine bodyPost_ret (v := tv false (4, [116, 114, 117, 101]) none 0 0) (by simp [results, Tryz.results70, go_sem, r0, r1, r2, r3, hz]) rfl ?_
  rw [HX.out]
  exact ⟨_, rfl, leaf_isT _ _, put4_ext E4.out (Nat.le_succ _)⟩
 by_cases h3 : op = 3
 ·subst h3
  replace hT : M.leafT M.bFalse = T := hT
  clear hk2 HNM HAL HNU HCL HB0 h1 h2
  go_wp2_with fail
  refine (HLF.out _ _).mono ?_
  rintro e w4 ⟨rfl, hx⟩
  subst hT
  obtain ⟨⟨r0, r1, r2, r3⟩, ⟨f0, f1, f2, f3⟩, hz⟩ := boxF4 (HB1.out.up hx)
  have E4 := hid (EN.out.trans hx)
  clear hx t0 t1 t2 t3 t4 t5
  go_wp2_with fail
  refine bodyPost_ret (v := tv false (4, [102, 97, 108, 115, 101]) none 0 0) (by simp [results, Tryz.results70, go_sem, r0, r1, r2, r3, hz]) rfl ?_
  rw [HX.out]
  exact ⟨_, rfl, leaf_isT _ _, put4_ext E4.out (Nat.le_succ _)⟩
 have q1 : (op == 1) = false := by simpa using h1
 have q2 : (op == 2) = false := by simpa using h2
 have q3 : (op == 3) = false := by simpa using h3
 by_cases h4 : op = 4
 ·subst h4
  replace hT : (if ks.length = 0 then M.leafT nm else M.T.mk true (0, []) (M.leafT nm :: ks.map M.toldT)) = T := hT
  have HC := hid (fun w' e => hT ▸ HNM.out nm w' e)
  clear hk2 HNM HAL HNU h1 h2 h3 q1 q2 q3 HLF hT
  go_wp2_with fail
  refine wp_region_D [(0, 0), (1, 0), (3, 0), (4, 0), (2, 1), (5, 1), (6, 4)] fun wd hb => ?_
  have Ed := hid (EN.out.trans hb)
  have HSW := hid hb.size
  have g3 := hb.cell t3
  have g5 := hb.cell t5
  replace HB1 := hid (HB1.out.up hb)
  clear hb t0 t1 t2 t3 t4 t5
  refine WE.p 18 (.pointer (some ⟨w.heap.size, 3, none⟩)) ?_
  simp only [Act.put, pA, pB, pC]
  refine WE.q 19 (str nm) rfl (fun w' hk => by have ce := hk.cell g3; go_simp) ?_
  simp only [Act.put, pA, pB, pC]
  refine WE.p 21 (.pointer (some ⟨w.heap.size, 5, none⟩)) ?_
  simp only [Act.put, pA, pB, pC]
  refine WE.q 22 (.slice KA kn kc) rfl (fun w' hk => by have ce := hk.cell g5; go_simp) ?_
  simp only [Act.put, pA, pB, pC]
  refine WE.c 20 ((HCL.out wd).mono ?_)
  rintro e w3 ⟨rfl, hx3⟩
  refine ⟨_, rfl, hx3, ?_⟩
  have E3 := hid (Ed.out.trans hx3)
  have HS3 := hid hx3.size
  replace HB1 := hid (HB1.out.up hx3)
  simp only [Act.put, pA, pB, pC]
  refine WE.c 23 ((HC.out w3 E3.out).mono ?_)
  rintro e w4 ⟨v4, rfl, hv, hx⟩
  refine ⟨_, rfl, hx, ?_⟩
  have HV := hid (fun x0 x1 x2 x3 => isT_put4 (k := w.heap.size + 1) (B := w.heap.size) (x0 := x0) (x1 := x1) (x2 := x2) (x3 := x3) hv (by have := HSK.out; have := HSW.out; have := HS3.out; omega) (by have := HSB.out; have := HSW.out; have := HS3.out; omega))
  obtain ⟨TL, ⟨TK, TX⟩, TS⟩ := T
  obtain ⟨A4, c4, rfl, -⟩ := hv
  obtain ⟨⟨r0, r1, r2, r3⟩, ⟨f0, f1, f2, f3⟩, hz⟩ := boxF4 (HB1.out.up hx)
  have E4 := hid (E3.out.trans hx)
  dsimp only [M.T.list, M.T.tok, M.T.kids]
  obtain ⟨m, hm⟩ : ∃ m, TS.length = m := ⟨_, rfl⟩
  have HV' := hid (show ∀ x0 x1 x2 x3, IsT (gp (fun b => w.heap.size ≤ b) (put4 w4 (w.heap.size + 1) x0 x1 x2 x3)) (.mk TL (TK, TX) TS) (tv TL (TK, TX) A4 m c4) from fun x0 x1 x2 x3 => hm ▸ HV.out x0 x1 x2 x3)
  rw [hm]
  clear hx hm HV hx3 g3 g5
  simp only [Act.put, pA, pB, pC]
  refine WE.store (w' := put4 w4 (w.heap.size + 1) (.bool TL) (.int .i64 TK) (str TX) (.slice A4 m c4)) rfl rfl (by rfl) (by go_simp) (by simp [put4]) ?_
  refine WE.done ?_
  go_wp2_with fail
  refine bodyPost_ret (v := tv TL (TK, TX) A4 m c4) (by simp [results, Tryz.results70, go_sem, r0, r1, r2, r3, hz]) rfl ?_
  rw [HX.out]
  exact ⟨_, rfl, HV'.out _ _ _ _, put4_ext E4.out (Nat.le_succ _)⟩
 ·have q4 : (op == 4) = false := by simpa using h4
  rw [M.khead, if_neg h1, if_neg (by rintro (h | h) <;> contradiction), if_neg h4] at hk2
  simp only [Bool.and_eq_true, decide_eq_true_iff] at hk2
  obtain ⟨-, -, hop, hka, -⟩ := hk2
  have HNE := hid (show ks.map M.toldT ≠ [] from fun e => by
   have h0 : ks = [] := by simpa using e
   subst h0
   unfold M.kargs at hka
   simp at hka)
  obtain ⟨o, rfl⟩ : ∃ o : Nat, op = (o : Int) := ⟨op.toNat, by omega⟩
  have hT2 : M.T.mk true (0, []) (M.leafT (M.opWords.getD o []) :: ks.map M.toldT) = T := by
   rw [← hT, if_neg h1, if_neg h2, if_neg h3, if_neg h4]; rfl
  have hlo : o < 23 := by omega
  obtain ⟨ow, how⟩ : ∃ ow, M.opWords[o]? = some ow := ⟨_, List.getElem?_eq_getElem hlo⟩
  rw [List.getD_eq_getElem?_getD, how] at hT2
  replace hT2 : M.T.mk true (0, []) (M.leafT ow :: ks.map M.toldT) = T := hT2
  have HLM := hid (show (ks.map M.toldT).length ≤ 1000 by rw [List.length_map]; exact HKS.out)
  have HWO := hid (fun w' (e : Ext w w') => (HWT.out.up e) o ow how)
  obtain ⟨L, hL⟩ : ∃ L, ks.map M.toldT = L := ⟨_, rfl⟩
  rw [hL] at hT2 HNE HLM HAL
  have HHD := hid (fun (S : Nat) (v : Value) (w' : World) (h : Kids (gp (fun b => S ≤ b) w') L v) (hS : S ≤ w'.heap.size) => headed_t ow h HNE.out HLM.out hS)
  subst hT2
  have hlo' : (o : Int) < 23 := by omega
  have hlo0 : decide ((o : Int) < 0) = false := by simp
  clear hL how hT hka hop h1 h2 h3 h4 HNM HNU HCL HLF HNE
  go_wp2_with fail
  refine wp_region_D [(0, 0), (1, 0), (2, 0), (3, 0), (4, 0), (5, 0), (6, 1), (7, 1), (8, 4)] fun wd hb => ?_
  have Ed := hid (EN.out.trans hb)
  have HSW := hid hb.size
  have g0 := hb.cell t0
  have g5 := hb.cell t5
  replace HB1 := hid (HB1.out.up hb)
  clear hb t0 t1 t2 t3 t4 t5
  refine WE.p 24 (.pointer (some ⟨w.heap.size, 0, none⟩)) ?_
  simp only [Act.put, pA, pB, pC]
  refine WE.q 25 (.int .i64 (o : Int)) rfl (fun w' hk => by have ce := hk.cell g0; go_simp) ?_
  simp only [Act.put, pA, pB, pC]
  refine WE.p 26 (.pointer (some ⟨0, o, none⟩)) ?_
  simp only [Act.put, pA, pB, pC]
  refine WE.q 27 (str ow) rfl (fun w' hk => by have ce := HWO.out w' (Ed.out.trans hk); go_simp) ?_
  simp only [Act.put, pA, pB, pC]
  refine WE.p 28 (.pointer (some ⟨w.heap.size, 5, none⟩)) ?_
  simp only [Act.put, pA, pB, pC]
  refine WE.q 29 (.slice KA kn kc) rfl (fun w' hk => by have ce := hk.cell g5; go_simp) ?_
  simp only [Act.put, pA, pB, pC]
  refine WE.c 30 ((HAL.out wd Ed.out).mono ?_)
  rintro e w3 ⟨v3, rfl, hv3, hx3⟩
  refine ⟨_, rfl, hx3, ?_⟩
  have E3 := hid (Ed.out.trans hx3)
  have HS3 := hid hx3.size
  replace HB1 := hid (HB1.out.up hx3)
  simp only [Act.put, pA, pB, pC]
  refine WE.c 31 ((HHD.out _ _ _ hv3 hx3.size).mono ?_)
  rintro e w4 ⟨v4, rfl, hv, hx⟩
  refine ⟨_, rfl, hx, ?_⟩
  have HV := hid (fun x0 x1 x2 x3 => isT_put4 (k := w.heap.size + 1) (B := w.heap.size) (x0 := x0) (x1 := x1) (x2 := x2) (x3 := x3) hv (by have := HSK.out; have := HSW.out; omega) (by have := HSB.out; have := HSW.out; omega))
  obtain ⟨A4, c4, rfl, -⟩ := hv
  obtain ⟨⟨r0, r1, r2, r3⟩, ⟨f0, f1, f2, f3⟩, hz⟩ := boxF4 (HB1.out.up hx)
  have E4 := hid (E3.out.trans hx)
  dsimp only [M.T.list, M.T.tok, M.T.kids]
  obtain ⟨m, hm⟩ : ∃ m, (M.leafT ow :: L).length = m := ⟨_, rfl⟩
  have HV' := hid (show ∀ x0 x1 x2 x3, IsT (gp (fun b => w.heap.size ≤ b) (put4 w4 (w.heap.size + 1) x0 x1 x2 x3)) (.mk true (0, []) (M.leafT ow :: L)) (tv true (0, []) A4 m c4) from fun x0 x1 x2 x3 => hm ▸ HV.out x0 x1 x2 x3)
  rw [hm]
  clear hx hm HV hx3 hv3 g0 g5
  simp only [Act.put, pA, pB, pC]
  refine WE.store (w' := put4 w4 (w.heap.size + 1) (.bool true) (.int .i64 0) (str []) (.slice A4 m c4)) rfl rfl (by rfl) (by go_simp) (by simp [put4]) ?_
  refine WE.done ?_
  go_wp2_with fail
  refine bodyPost_ret (v := tv true (0, []) A4 m c4) (by simp [results, Tryz.results70, go_sem, r0, r1, r2, r3, hz]) rfl ?_
  rw [HX.out]
  exact ⟨_, rfl, HV'.out _ _ _ _, put4_ext E4.out (Nat.le_succ _)⟩
theorem told_at : ∀ N, ToldAt N
 | 0 => fun hlt => absurd hlt (Nat.not_lt_zero _)
 | N + 1 => told_step (told_at N)
/-- What Tree tells. -/
def M.treeT (t : M.Tm) : M.T := if M.kIs t = true then M.toldT t else M.leafT M.bFalse
set_option maxHeartbeats 8000000 in
theorem Tree_t {t : M.Tm} {v : Value} {w : World} (h : IsTm w t v) (hf : M.kfew t = true) (ht : TabT w) : Calls Tryz.prog 24 #[v] w (GivesKS w.heap.size w (M.treeT t)) := by
 have his := fun w' (e : Ext w w') => is_t (h.up e) hf (ht.up e).1.1
 have htd := fun (hi : M.kIs t = true) w' (e : Ext w w') => told_at (M.kcnt t + 1) (Nat.lt_succ_self _) (by unfold M.kIs at hi; rw [Bool.and_eq_true] at hi; exact hi.2) hf (by unfold M.kIs at hi; rw [Bool.and_eq_true, decide_eq_true_iff] at hi; omega) (h.up e) (ht.up e)
 obtain ⟨z, hz1⟩ : ∃ z, M.kIs t = z := ⟨_, rfl⟩
 have HX := hid (show M.treeT t = if z = true then M.toldT t else M.leafT M.bFalse by rw [← hz1]; rfl)
 rw [hz1] at his htd
 obtain ⟨T, hT⟩ : ∃ T, M.toldT t = T := ⟨_, rfl⟩
 rw [hT] at htd HX
 obtain ⟨op, g, ls, nm, so, ks⟩ := t
 obtain ⟨NA, nn, nc, KA, kn, kc, rfl, -, -, -, -, -, -⟩ := h.shape
 dsimp only [M.Tm.op, M.Tm.g, M.Tm.name, M.Tm.sort] at his htd ⊢
 have HIS := hid his
 have HTD := hid htd
 have HLF := hid (fun s w' => leaf_t s w')
 obtain ⟨hb0, hb1, he⟩ := told_boxes w (.int .i64 op) (.bool g) (.slice NA nn nc) (str nm) (.int .i64 so) (.slice KA kn kc)
 have HB0 := hid hb0
 have HB1 := hid hb1
 have HE := hid he
 clear hb0 hb1 he h hf ht his htd hz1 hT
 go_enter Tryz.func24, Tryz.ntmps24
 go_upto_region 1 with (fail)
 refine swp_at (fun W => Box W w.heap.size #[.int .i64 op, .bool g, .slice NA nn nc, str nm, .int .i64 so, .slice KA kn kc] 33 ∧ Box W (w.heap.size + 1) zero4 26 ∧ Ext w W) ⟨HB0.out, HB1.out, HE.out⟩ ?_
 intro W ⟨hb0, hb1, he⟩
 clear HB0 HB1 HE
 have HB1 := hid hb1
 have EN := hid he
 have t0 := hb0.k 0
 have t1 := hb0.k 1
 have t2 := hb0.k 2
 have t3 := hb0.k 3
 have t4 := hb0.k 4
 have t5 := hb0.k 5
 clear hb0 hb1 he
 cases z
 ·replace HX := hid (show M.treeT (.mk op g ls nm so ks) = M.leafT M.bFalse from HX.out)
  go_wp2_with fail
  refine (HIS.out W EN.out).mono ?_
  rintro e w1 ⟨rfl, hx⟩
  have E1 := hid (EN.out.trans hx)
  replace HB1 := hid (HB1.out.up hx)
  clear hx t0 t1 t2 t3 t4 t5
  go_wp2_with fail
  refine (HLF.out _ _).mono ?_
  rintro e w4 ⟨rfl, hx⟩
  obtain ⟨⟨r0, r1, r2, r3⟩, ⟨f0, f1, f2, f3⟩, hz⟩ := boxF4 (HB1.out.up hx)
  have E4 := hid (E1.out.trans hx)
  clear hx
  go_wp2_with fail
  refine bodyPost_ret (v := tv false (4, [102, 97, 108, 115, 101]) none 0 0) (by simp [results, Tryz.results24, go_sem, r0, r1, r2, r3, hz]) rfl ?_
  rw [HX.out]
  exact ⟨_, rfl, leaf_isT _ _, put4_ext E4.out (Nat.le_succ _)⟩
 ·replace HX := hid (show M.treeT (.mk op g ls nm so ks) = T from HX.out)
  go_wp2_with fail
  refine (HIS.out W EN.out).mono ?_
  rintro e w1 ⟨rfl, hx⟩
  have E1 := hid (EN.out.trans hx)
  replace HB1 := hid (HB1.out.up hx)
  have HSK := hid HB1.out.lt
  have g0 := hx.cell t0
  have g1 := hx.cell t1
  have g2 := hx.cell t2
  have g3 := hx.cell t3
  have g4 := hx.cell t4
  have g5 := hx.cell t5
  clear hx t0 t1 t2 t3 t4 t5
  go_wp2_with fail
  refine (HTD.out trivial w1 E1.out).mono ?_
  rintro e w4 ⟨v4, rfl, hv, hx⟩
  have HV := hid (fun x0 x1 x2 x3 => isT_put4 (k := w.heap.size + 1) (B := w.heap.size) (x0 := x0) (x1 := x1) (x2 := x2) (x3 := x3) hv HSK.out E1.out.size)
  obtain ⟨TL, ⟨TK, TX⟩, TS⟩ := T
  obtain ⟨A4, c4, rfl, -⟩ := hv
  obtain ⟨⟨r0, r1, r2, r3⟩, ⟨f0, f1, f2, f3⟩, hz⟩ := boxF4 (HB1.out.up hx)
  have E4 := hid (E1.out.trans hx)
  dsimp only [M.T.list, M.T.tok, M.T.kids]
  obtain ⟨m, hm⟩ : ∃ m, TS.length = m := ⟨_, rfl⟩
  have HV' := hid (show ∀ x0 x1 x2 x3, IsT (gp (fun b => w.heap.size ≤ b) (put4 w4 (w.heap.size + 1) x0 x1 x2 x3)) (.mk TL (TK, TX) TS) (tv TL (TK, TX) A4 m c4) from fun x0 x1 x2 x3 => hm ▸ HV.out x0 x1 x2 x3)
  rw [hm]
  clear hx hm HV g0 g1 g2 g3 g4 g5
  go_wp2_with fail
  refine bodyPost_ret (v := tv TL (TK, TX) A4 m c4) (by simp [results, Tryz.results24, go_sem, r0, r1, r2, r3, hz]) rfl ?_
  rw [HX.out]
  exact ⟨_, rfl, HV'.out _ _ _ _, put4_ext E4.out (Nat.le_succ _)⟩
end Go.Proofs.YtgkofipifjfjhaaGreatDoor.Q

