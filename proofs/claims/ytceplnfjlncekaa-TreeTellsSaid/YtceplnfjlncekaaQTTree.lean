/-
  Layer 9, the reference: a tree read.
-/
import Derived.Test.YtceplnfjlncekaaQTFails
import Derived.Test.YtceplnfjlncekaaQTRead
import Derived.Test.YtceplnfjlncekaaQUStep
namespace Go.Proofs.Ytceplnfjlncekaa
set_option linter.unusedSimpArgs false
set_option linter.unusedVariables false
open Go.RowKit

theorem boxF {w : World} {k : Nat} {x y z u : Value} {T : TypeId} (h : Box w k #[x, y, z, u] T) : (w.cell? ⟨k, 0, none⟩ = some x ∧ w.cell? ⟨k, 1, none⟩ = some y ∧ w.cell? ⟨k, 2, none⟩ = some z ∧ w.cell? ⟨k, 3, none⟩ = some u) ∧
    (w.frozen? ⟨k, 0, none⟩ = false ∧ w.frozen? ⟨k, 1, none⟩ = false ∧ w.frozen? ⟨k, 2, none⟩ = false ∧ w.frozen? ⟨k, 3, none⟩ = false) ∧ k < w.heap.size :=
  ⟨⟨h.k 0, h.k 1, h.k 2, h.k 3⟩, ⟨h.free 0, h.free 1, h.free 2, h.free 3⟩, h.lt⟩
/-- A tree's empty box. -/
abbrev empty4 : Array Value := #[.bool false, .int .i64 0, .string ⟨#[]⟩, .slice none 0 0]
/-- A tree put into a box. -/
abbrev put4 (w : World) (k : Nat) (x y z u : Value) : World := (((w.setCell ⟨k, 0, none⟩ x).setCell ⟨k, 1, none⟩ y).setCell ⟨k, 2, none⟩ z).setCell ⟨k, 3, none⟩ u
theorem put4_far {w : World} {k g : Nat} {cs : Array Value} {T : TypeId} (h : Box w g cs T) (hg : g ≠ k) (x y z u : Value) : Box (put4 w k x y z u) g cs T := (((h.far hg x).far hg y).far hg z).far hg u
theorem put4_kept (w : World) (k : Nat) (x y z u : Value) : Kept [k] w (put4 w k x y z u) := (((kept_setAt x).trans (kept_setAt y)).trans (kept_setAt z)).trans (kept_setAt u)
theorem put4_box {w : World} {k : Nat} {a b c d : Value} {T : TypeId} (h : Box w k #[a, b, c, d] T) (x y z u : Value) : Box (put4 w k x y z u) k #[x, y, z, u] T := (((h.setAt 0 x).setAt 1 y).setAt 2 z).setAt 3 u
theorem Kept.mine {g k : Nat} {w w2 W : World} (h : Kept [g] w w2) (hk : w.heap.size ≤ k) (h2 : Kept [k] w2 W) : Kept [g] w W :=
  ⟨h.1.trans h2.1, fun i hi hx => (h2.2 i (Nat.lt_of_lt_of_le hi h.1.size) (by simp; omega)).trans (h.2 i hi hx)⟩
/-- What reading a tree gives. -/
def GivesRd (g : Nat) (lv : Value) (w : World) (r : M.R) (e : Ending) (w' : World) : Prop := ∃ v, e = .returned v ∧ IsT (gp (w.heap.size ≤ ·) w') r.t v ∧ RBox w' g lv (r.at_ : Int) (r.n : Int) r.e ∧ Kept [g] w w'
theorem IsT.zero (w : World) : IsT w M.T0 (tv false (0, []) none 0 0) := ⟨none, 0, rfl, Kids.nil w⟩
theorem Kept.gpne {g : Nat} {w w' : World} (h : Kept [g] w w') : Sub (gp (· ≠ g) w) (gp (· ≠ g) w') := gp_mono h.1.size fun k hk hp => ⟨hp, h.2 k hk (by simpa using hp)⟩
theorem Kept.mine2 {g o : Nat} {w WL wr : World} (h : Kept [g] w WL) (ho : w.heap.size ≤ o) (h2 : Kept [g, o] WL wr) : Kept [g] w wr :=
  ⟨h.1.trans h2.1, fun i hi hx => (h2.2 i (Nat.lt_of_lt_of_le hi h.1.size) (by simp at hx ⊢; omega)).trans (h.2 i hi hx)⟩
theorem Kept.belowL {X : List Nat} {WL w1 w2 : World} (h : Kept X WL w1) (hb : Below WL.heap.size w1 w2) : Kept X WL w2 :=
  ⟨h.1.trans (Below.mono hb (Nat.zero_le _)), fun i hi hx => (hb.block i hi).trans (h.2 i hi hx)⟩
theorem Box.low {w w' : World} {g B : Nat} {cs : Array Value} {T : TypeId} (h : Box w g cs T) (hb : Below B w w') (hg : g < B) : Box w' g cs T := (hb.block g hg).trans h
theorem OwnK.own_lt {base : Nat} {w : World} {v : Value} {ks : List M.T} (h : OwnK base w v ks) {b : Nat} (hb : v.ownBlock = some b) : b < w.heap.size := by
  obtain ⟨cs, ⟨hl, h3⟩, h2⟩ := h
  rcases h3 with ⟨rfl, h0⟩ | ⟨b', cap, cur, rfl, _, hc, _⟩
  · simp [Value.ownBlock] at hb
  · simp [Value.ownBlock] at hb
    subst hb
    exact (Array.getElem?_eq_some_iff.1 hc).1
theorem exec_appK {P : Program} {w w' : World} {v u v' : Value} {o : Oper} {a : Act} {t : TypeId} (s x : Operand) (ho : o.op = .call { callee := .builtin .append, args := #[s, x], argTypes := #[t, t] }) (hs : a.eval s = v) (hx : a.eval x = u)
    (h : (Builtin.append_ #[t, t] o.type #[v, u]).run P w = .ok v' w') : (execOp a.eval o).run P w = .ok (.value v') w' := by
  unfold execOp
  simp only [ho, resolve, invoke, builtin, Sem.run_bind, Sem.run_pure, Result.andThen_ok, List.map_toArray, List.map_cons, List.map_nil, hs, hx, h]
/-- What the loop over a list's kids keeps. -/
def RoundR (g o k4 : Nat) (lv : Value) (L : List M.Tok) (d : Nat) (R : M.R) (WL : World) (f' at' n' : Nat) (e : Int) (ks : List M.T) (kv : Value) (wr : World) : Prop :=
  RBox wr g lv (at' : Int) (n' : Int) e ∧ Box wr o #[.bool true, .int .i64 0, .string ⟨#[]⟩, kv] 35 ∧ Box wr k4 empty4 35 ∧ OwnK WL.heap.size wr kv ks ∧ Kept [g, o] WL wr ∧
  ((e = 0 ∧ R = M.rdK f' L d at' n' ks) ∨ (e ≠ 0 ∧ R = ⟨M.T0, at', n', e⟩))
def measR (g m : Nat) (wr : World) : Nat := match wr.cell? ⟨g, 3, none⟩, wr.cell? ⟨g, 1, none⟩ with
  | some (.int _ e), some (.int _ a) => if e = 0 then 1 + (m - a.toNat) else 0
  | _, _ => 0
theorem measR_box {g m : Nat} {wr : World} {lv : Value} {a n e : Int} (h : RBox wr g lv a n e) : measR g m wr = if e = 0 then 1 + (m - a.toNat) else 0 := by
  unfold measR
  rw [show wr.cell? ⟨g, 3, none⟩ = some (.int .i64 e) from h.k 3, show wr.cell? ⟨g, 1, none⟩ = some (.int .i64 a) from h.k 1]
set_option maxHeartbeats 8000000 in
set_option maxRecDepth 100000 in
theorem rtree_n {L : List M.Tok} {g : Nat} {A : Option Addr} {c : Nat} (hL9 : L.length ≤ 1000000) : ∀ (f : Nat) {d at_ n : Nat} {w : World}, RBox w g (.slice A L.length c) (at_ : Int) (n : Int) 0 → TList (gp (· ≠ g) w) (.slice A L.length c) L → d ≤ 60 → at_ ≤ L.length → n ≤ 400 → 2 * (L.length - at_) + 1 ≤ f →
    Calls Try.prog 30 #[.pointer (some ⟨g, 0, none⟩), .int .i64 (d : Int)] w (GivesRd g (.slice A L.length c) w (M.rdT f L d at_ n)) := by
  intro f
  induction f using Nat.strongRecOn with
  | _ f ih =>
  intro d at_ n w hB hT hd hat hn hf
  obtain ⟨f, rfl⟩ : ∃ f', f = f' + 1 := ⟨f - 1, by omega⟩
  obtain ⟨m, hm⟩ : ∃ m, L.length = m := ⟨_, rfl⟩
  have hlc : m ≤ c ∧ c ≤ 9223372036854775807 := by
    obtain ⟨A', n', c', e, h, h', h'', _⟩ := hT
    injection e with e1 e2 e3; subst e2 e3; unfold maxLen at h''; omega
  obtain ⟨hl2, hl4⟩ := hlc
  rw [hm] at hB hT hL9 hat hf ih ⊢
  have b0 := hB.k 0
  have b1 := hB.k 1
  have b2 := hB.k 2
  have b3 := hB.k 3
  have f0 := hB.free 0
  have f1 := hB.free 1
  have f2 := hB.free 2
  have f3 := hB.free 3
  have hlt := hB.lt
  have HB := hid hB
  have HT := hid hT
  have HM := hid hm
  have IH := hid ih
  clear hB hT hm ih
  rcases Nat.lt_or_ge at_ m with hm1 | hm1
  case inr =>
    obtain rfl : at_ = m := by omega
    have HR := hid (show M.rdT (f + 1) L d at_ n = ⟨M.T0, at_, n, 13⟩ by rw [M.rdT, List.getElem?_eq_none (by rw [HM.out]; exact Nat.le_refl _)])
    go_enter Try.func30, Try.ntmps30
    go_wp2_with fail
    go_region
    go_wp2_with fail
    refine (fails_n ((HB.out.alloc _).drew)).mono ?_
    rintro e w2 ⟨rfl, hB2, hk2⟩
    have HB2 := hid hB2
    have HK2 := hid hk2
    have HR4 := hid (((Box.new w empty4 35).drew).kept hk2 (by simp; omega))
    obtain ⟨⟨r0, r1, r2, r3⟩, ⟨q0, q1, q2, q3⟩, hz⟩ := boxF HR4.out
    clear hB2 hk2
    go_wp2_with fail
    refine bodyPost_ret (v := tv false (0, []) none 0 0) (by simp [results, Try.results30, go_sem, r0, r1, r2, r3, hz]) rfl ?_
    rw [HR.out]
    exact ⟨_, rfl, IsT.zero _, put4_far HB2.out (by omega) _ _ _ _, ((((Ext.alloc w _).drew').kept _).trans HK2.out).mine (Nat.le_refl _) (put4_kept _ _ _ _ _ _)⟩
  obtain ⟨ad, t, hA, ht, c0, c1⟩ := TList.get (HT.out.sub (gp_sub _ w)) (k := at_) (by rw [HM.out]; exact hm1)
  subst hA
  have hm1' : (at_ : Int) < (m : Int) := by omega
  have hat' : ((at_ : Int) == (m : Int)) = false := by simp; omega
  obtain ⟨kd, tx⟩ := t
  replace c0 : w.cell? (ad.add (at_ * 2)) = some (.int .i64 kd) := c0
  replace c1 : w.cell? ⟨(ad.add (at_ * 2)).block, (ad.add (at_ * 2)).off + 1, none⟩ = some (str tx) := c1
  have HL := hid ht
  clear ht
  go_enter Try.func30, Try.ntmps30
  go_wp2_with fail
  go_region
  go_wp2_with fail
  refine wp_region_L [(0, 0), (1, 0), (2, 0), (3, 0), (4, 0), (5, 0), (6, 0), (7, 0), (8, 0), (9, 0), (10, 3), (11, 4)] 33 #[.int .i64 0, .string ⟨#[]⟩] fun wd hb => ?_
  have E := hid (((Ext.alloc w _).drew').trans hb)
  have R4 := hid (((Box.new w empty4 35).drew).up hb)
  clear hb
  replace b0 := E.out.cell b0
  replace b1 := E.out.cell b1
  replace c0 := E.out.cell c0
  replace c1 := E.out.cell c1
  refine WE.p 19 (.pointer (some ⟨g, 0, none⟩)) ?_
  simp only [Act.put, pA, pB, pC]
  refine WE.p 20 (.pointer (some ⟨g, 0, none⟩)) ?_
  simp only [Act.put, pA, pB, pC]
  refine WE.p 21 (.pointer (some ⟨g, 0, none⟩)) ?_
  simp only [Act.put, pA, pB, pC]
  refine WE.q 22 (.slice (some ad) m c) rfl (fun w' hk => by have ce := hk.cell b0; go_simp) ?_
  simp only [Act.put, pA, pB, pC]
  refine WE.p 23 (.pointer (some ⟨g, 0, none⟩)) ?_
  simp only [Act.put, pA, pB, pC]
  refine WE.p 24 (.pointer (some ⟨g, 0, none⟩)) ?_
  simp only [Act.put, pA, pB, pC]
  refine WE.p 25 (.pointer (some ⟨g, 1, none⟩)) ?_
  simp only [Act.put, pA, pB, pC]
  refine WE.q 26 (.int .i64 (at_ : Int)) rfl (fun w' hk => by have ce := hk.cell b1; go_simp) ?_
  simp only [Act.put, pA, pB, pC]
  refine WE.p 27 (.pointer (some (ad.add (at_ * 2)))) ?_
  simp only [Act.put, pA, pB, pC]
  refine WE.q 28 (.agg #[.int .i64 kd, str tx]) rfl (fun w' hk => by have ce := hk.cell c0; have cf := hk.cell c1; go_simp) ?_
  simp only [Act.put, pA, pB, pC]
  refine WE.var (d := some 5) rfl fun k5 w1 hx0 hbox hge hng => ?_
  have hk5 : w.heap.size < k5 := by have := E.out.size; have := R4.out.lt; omega
  replace E := hid (E.out.trans hx0)
  replace R4 := hid (R4.out.up hx0)
  have V5 : Hid (Box w1 k5 #[.int .i64 0, .string ⟨#[]⟩] 33) := hid hbox
  have a0 := hbox.k 0
  have a1 := hbox.k 1
  have a2 := hbox.free 0
  have a3 := hbox.free 1
  have hk6 := hbox.lt
  clear hx0 hbox hge hng b0 b1 b2 b3 f0 f1 f2 f3 c0 c1
  simp only [Act.put, pA, pB, pC]
  refine WE.store (w' := (w1.setCell ⟨k5, 0, none⟩ (.int .i64 kd)).setCell ⟨k5, 1, none⟩ (str tx)) rfl rfl (by rfl) (by go_simp) (by simp) ?_
  refine WE.done ?_
  obtain ⟨W, hW⟩ : ∃ W, W = (w1.setCell ⟨k5, 0, none⟩ (.int .i64 kd)).setCell ⟨k5, 1, none⟩ (str tx) := ⟨_, rfl⟩
  rw [← hW]
  have HB' := hid (show RBox W g (.slice (some ad) m c) (at_ : Int) (n : Int) 0 by rw [hW]; exact (((HB.out.up E.out).far (show g ≠ k5 by omega) _).far (show g ≠ k5 by omega) _))
  replace R4 := hid (show Box W w.heap.size empty4 35 by rw [hW]; exact ((R4.out.far (show w.heap.size ≠ k5 by omega) _).far (show w.heap.size ≠ k5 by omega) _))
  replace V5 := hid (show Box W k5 #[.int .i64 kd, str tx] 33 by rw [hW]; exact (V5.out.setAt 0 _).setAt 1 _)
  replace E := hid (show Ext w W by rw [hW]; exact (E.out.set' (by show w.heap.size ≤ k5; omega) _).set' (by show w.heap.size ≤ k5; omega) _)
  clear hW a0 a1 a2 a3 hk6
  have e0 := V5.out.k 0
  have e1 := V5.out.k 1
  have hk6 := V5.out.lt
  have b0 := HB'.out.k 0
  have b1 := HB'.out.k 1
  have b2 := HB'.out.k 2
  have b3 := HB'.out.k 3
  have f0 := HB'.out.free 0
  have f1 := HB'.out.free 1
  have f2 := HB'.out.free 2
  have f3 := HB'.out.free 3
  have hgW := HB'.out.lt
  by_cases hk1 : kd < 1
  · have HR := hid (show M.rdT (f + 1) L d at_ n = ⟨M.T0, at_, n, 10⟩ by rw [M.rdT, HL.out]; simp [hk1])
    go_wp2_with fail
    refine (fails_n HB'.out).mono ?_
    rintro e w2 ⟨rfl, hB2, hk2⟩
    have HB2 := hid hB2
    have HK2 := hid hk2
    have HR4 := hid (R4.out.kept hk2 (by simp; omega))
    obtain ⟨⟨r0, r1, r2, r3⟩, ⟨q0, q1, q2, q3⟩, hz⟩ := boxF HR4.out
    clear hB2 hk2
    go_wp2_with fail
    refine bodyPost_ret (v := tv false (0, []) none 0 0) (by simp [results, Try.results30, go_sem, r0, r1, r2, r3, hz]) rfl ?_
    rw [HR.out]
    exact ⟨_, rfl, IsT.zero _, put4_far HB2.out (by omega) _ _ _ _, ((E.out.kept _).trans HK2.out).mine (Nat.le_refl _) (put4_kept _ _ _ _ _ _)⟩
  by_cases hk2 : 5 < kd
  · have HR := hid (show M.rdT (f + 1) L d at_ n = ⟨M.T0, at_, n, 10⟩ by rw [M.rdT, HL.out]; simp [hk2])
    have hq1 : decide (kd < 1) = false := by simpa using hk1
    go_wp2_with fail
    refine (fails_n HB'.out).mono ?_
    rintro e w2 ⟨rfl, hB2, hk2⟩
    have HB2 := hid hB2
    have HK2 := hid hk2
    have HR4 := hid (R4.out.kept hk2 (by simp; omega))
    obtain ⟨⟨r0, r1, r2, r3⟩, ⟨q0, q1, q2, q3⟩, hz⟩ := boxF HR4.out
    clear hB2 hk2
    go_wp2_with fail
    refine bodyPost_ret (v := tv false (0, []) none 0 0) (by simp [results, Try.results30, go_sem, r0, r1, r2, r3, hz]) rfl ?_
    rw [HR.out]
    exact ⟨_, rfl, IsT.zero _, put4_far HB2.out (by omega) _ _ _ _, ((E.out.kept _).trans HK2.out).mine (Nat.le_refl _) (put4_kept _ _ _ _ _ _)⟩
  by_cases hk3 : kd = 2
  · subst hk3
    have HR := hid (show M.rdT (f + 1) L d at_ n = ⟨M.T0, at_, n, 10⟩ by rw [M.rdT, HL.out]; simp)
    go_wp2_with fail
    refine (fails_n HB'.out).mono ?_
    rintro e w2 ⟨rfl, hB2, hk2⟩
    have HB2 := hid hB2
    have HK2 := hid hk2
    have HR4 := hid (R4.out.kept hk2 (by simp; omega))
    obtain ⟨⟨r0, r1, r2, r3⟩, ⟨q0, q1, q2, q3⟩, hz⟩ := boxF HR4.out
    clear hB2 hk2
    go_wp2_with fail
    refine bodyPost_ret (v := tv false (0, []) none 0 0) (by simp [results, Try.results30, go_sem, r0, r1, r2, r3, hz]) rfl ?_
    rw [HR.out]
    exact ⟨_, rfl, IsT.zero _, put4_far HB2.out (by omega) _ _ _ _, ((E.out.kept _).trans HK2.out).mine (Nat.le_refl _) (put4_kept _ _ _ _ _ _)⟩
  have hq1 : decide (kd < 1) = false := by simpa using hk1
  have hq2 : decide (5 < kd) = false := by simpa using hk2
  have hq3 : (kd == 2) = false := by simpa using hk3
  have hno : ¬ (kd < 1 ∨ 5 < kd ∨ kd = 2) := by omega
  by_cases hk4 : kd = 1 ∧ 60 ≤ d
  · obtain ⟨hk4, hd4⟩ := hk4
    subst hk4
    have hd5 : (60 : Int) ≤ (d : Int) := by omega
    have HR := hid (show M.rdT (f + 1) L d at_ n = ⟨M.T0, at_, n, 15⟩ by rw [M.rdT, HL.out]; simp [hd4])
    go_wp2_with fail
    refine (fails_n HB'.out).mono ?_
    rintro e w2 ⟨rfl, hB2, hk2⟩
    have HB2 := hid hB2
    have HK2 := hid hk2
    have HR4 := hid (R4.out.kept hk2 (by simp; omega))
    obtain ⟨⟨r0, r1, r2, r3⟩, ⟨q0, q1, q2, q3⟩, hz⟩ := boxF HR4.out
    clear hB2 hk2
    go_wp2_with fail
    refine bodyPost_ret (v := tv false (0, []) none 0 0) (by simp [results, Try.results30, go_sem, r0, r1, r2, r3, hz]) rfl ?_
    rw [HR.out]
    exact ⟨_, rfl, IsT.zero _, put4_far HB2.out (by omega) _ _ _ _, ((E.out.kept _).trans HK2.out).mine (Nat.le_refl _) (put4_kept _ _ _ _ _ _)⟩
  rcases Nat.lt_or_ge n 400 with hn4 | hn4
  case inr =>
    have hn6 : (400 : Int) ≤ (n : Int) := by omega
    have hn7 : ¬ n < 400 := by omega
    rcases (show kd ≠ 1 ∨ (kd = 1 ∧ d < 60) by omega) with h7 | ⟨rfl, h7⟩
    · have hq4 : (kd == 1) = false := by simpa using h7
      have HR := hid (show M.rdT (f + 1) L d at_ n = ⟨M.T0, at_, n, 11⟩ by rw [M.rdT, HL.out]; simp only []; rw [if_neg hno, if_neg (by omega), if_pos hn4])
      go_wp2_with fail
      refine (fails_n HB'.out).mono ?_
      rintro e w2 ⟨rfl, hB2, hk2⟩
      have HB2 := hid hB2
      have HK2 := hid hk2
      have HR4 := hid (R4.out.kept hk2 (by simp; omega))
      obtain ⟨⟨r0, r1, r2, r3⟩, ⟨q0, q1, q2, q3⟩, hz⟩ := boxF HR4.out
      clear hB2 hk2
      go_wp2_with fail
      refine bodyPost_ret (v := tv false (0, []) none 0 0) (by simp [results, Try.results30, go_sem, r0, r1, r2, r3, hz]) rfl ?_
      rw [HR.out]
      exact ⟨_, rfl, IsT.zero _, put4_far HB2.out (by omega) _ _ _ _, ((E.out.kept _).trans HK2.out).mine (Nat.le_refl _) (put4_kept _ _ _ _ _ _)⟩
    · have hq4 : decide ((60 : Int) ≤ (d : Int)) = false := by simp; omega
      have HR := hid (show M.rdT (f + 1) L d at_ n = ⟨M.T0, at_, n, 11⟩ by rw [M.rdT, HL.out]; simp only []; rw [if_neg hno, if_neg (by omega), if_pos hn4])
      go_wp2_with fail
      refine (fails_n HB'.out).mono ?_
      rintro e w2 ⟨rfl, hB2, hk2⟩
      have HB2 := hid hB2
      have HK2 := hid hk2
      have HR4 := hid (R4.out.kept hk2 (by simp; omega))
      obtain ⟨⟨r0, r1, r2, r3⟩, ⟨q0, q1, q2, q3⟩, hz⟩ := boxF HR4.out
      clear hB2 hk2
      go_wp2_with fail
      refine bodyPost_ret (v := tv false (0, []) none 0 0) (by simp [results, Try.results30, go_sem, r0, r1, r2, r3, hz]) rfl ?_
      rw [HR.out]
      exact ⟨_, rfl, IsT.zero _, put4_far HB2.out (by omega) _ _ _ _, ((E.out.kept _).trans HK2.out).mine (Nat.le_refl _) (put4_kept _ _ _ _ _ _)⟩
  have hn5 : decide ((400 : Int) ≤ (n : Int)) = false := by simp; omega
  obtain ⟨⟨r0, r1, r2, r3⟩, ⟨q0, q1, q2, q3⟩, hz⟩ := boxF R4.out
  by_cases hk1' : kd = 1
  case neg =>
    have hq4 : (kd == 1) = false := by simpa using hk1'
    have hq5 : (kd != 1) = true := by simpa using hk1'
    have HR := hid (show M.rdT (f + 1) L d at_ n = ⟨.mk false (kd, tx) [], at_ + 1, n + 1, 0⟩ by rw [M.rdT, HL.out]; simp only []; rw [if_neg hno, if_neg (by omega), if_neg (by omega), if_neg hk1'])
    go_wp2_with fail
    refine bodyPost_ret (v := tv false (kd, tx) none 0 0) (by simp [results, Try.results30, go_sem, r0, r1, r2, r3, hz]) rfl ?_
    rw [HR.out]
    exact ⟨_, rfl, ⟨none, 0, rfl, Kids.nil _⟩, put4_far ((HB'.out.setAt 2 _).setAt 1 _) (by omega) _ _ _ _, (((E.out.kept _).trans (kept_setAt _)).trans (kept_setAt _)).mine (Nat.le_refl _) (put4_kept _ _ _ _ _ _)⟩
  case pos =>
  subst hk1'
  have hd5 : d < 60 := by omega
  have hd6 : decide ((60 : Int) ≤ (d : Int)) = false := by simp; omega
  have HR := hid (show M.rdT (f + 1) L d at_ n = M.rdK f L d (at_ + 1) (n + 1) [] by rw [M.rdT, HL.out]; simp only []; rw [if_neg hno, if_neg (by omega), if_neg (by omega)]; rfl)
  obtain ⟨R, hRR⟩ : ∃ R, M.rdK f L d (at_ + 1) (n + 1) [] = R := ⟨_, rfl⟩
  have HRR := hid hRR
  have HRZ := hid (HR.out.trans hRR)
  clear hRR HR
  have hWs : W.heap.size < W.heap.size + 1 := Nat.lt_succ_self _
  go_wp2_with fail
  obtain ⟨WL, hWL⟩ : ∃ WL, WL = (((W.setCell ⟨g, 2, none⟩ (.int .i64 ((n : Int) + 1))).setCell ⟨g, 1, none⟩ (.int .i64 ((at_ : Int) + 1))).alloc (.cells #[.bool true, .int .i64 0, .string ⟨#[]⟩, .slice none 0 0] 35)) := ⟨_, rfl⟩
  rw [← hWL]
  obtain ⟨o, ho⟩ : ∃ o, o = W.heap.size := ⟨_, rfl⟩
  rw [← ho]
  have KL := hid (show Kept [g] w WL by rw [hWL]; exact (((E.out.kept _).trans (kept_setAt _)).trans (kept_setAt _)).trans ((Ext.alloc _ _).kept _))
  have BL := hid (show RBox WL g (.slice (some ad) m c) ((at_ + 1 : Nat) : Int) ((n + 1 : Nat) : Int) 0 by rw [hWL]; exact ((HB'.out.setAt 2 _).setAt 1 _).alloc _)
  have OL := hid (show Box WL o #[.bool true, .int .i64 0, .string ⟨#[]⟩, .slice none 0 0] 35 by rw [hWL, ho]; exact Box.at_ _ _ (by simp))
  have RL := hid (show Box WL w.heap.size empty4 35 by rw [hWL]; exact ((R4.out.far (show w.heap.size ≠ g by omega) _).far (show w.heap.size ≠ g by omega) _).alloc _)
  have hso : WL.heap.size = o + 1 := by rw [hWL, ho]; simp
  have how : w.heap.size < o := by omega
  clear hWL HB' R4 V5 e0 e1 b0 b1 b2 b3 f0 f1 f2 f3 r0 r1 r2 r3 q0 q1 q2 q3 hgW hk6 hz ho hWs
  go_loopw [] (fun wr => ∃ (f' at' n' : Nat) (e : Int) (ks : List M.T) (kv : Value), Hid (RoundR g o w.heap.size (.slice (some ad) m c) L d R WL f' at' n' e ks kv wr) ∧ f' ≤ f ∧ at' ≤ m ∧ n' ≤ 400 ∧ (e = 0 → ks.length ≤ at') ∧ (e = 0 → 2 * (m - at') + 2 ≤ f')) (fun wr => measR g m wr)
  case atStart => exact ⟨f, at_ + 1, n + 1, 0, [], .slice none 0 0, ⟨BL.out, OL.out, RL.out, OwnK.nil _ _, Kept.refl _ _, .inl ⟨rfl, HRR.out.symm⟩⟩, Nat.le_refl _, by omega, by omega, fun _ => by simp, fun _ => by omega⟩
  case round =>
    obtain ⟨f', at', n', e, ks, kv, hR, hf', hat', hn', hks, hfu⟩ := hrel
    obtain ⟨hBr, hO, hRr, hOwn, hKr, hRR'⟩ := hR
    have KW := hid (KL.out.mine2 (show w.heap.size ≤ o by omega) hKr)
    have HTr := hid (HT.out.sub KW.out.gpne)
    have HBr := hid hBr
    have HO := hid hO
    have HRr := hid hRr
    have HOwn := hid hOwn
    have HKr := hid hKr
    obtain ⟨⟨r0, r1, r2, r3⟩, ⟨q0, q1, q2, q3⟩, hz⟩ := boxF hRr
    have b0 := hBr.k 0
    have b1 := hBr.k 1
    have b3 := hBr.k 3
    have f1 := hBr.free 1
    have hgr := hBr.lt
    obtain ⟨⟨o0, o1, o2, o3⟩, -, hor⟩ := boxF hO
    obtain ⟨A', c', rfl⟩ := hOwn.len
    clear hBr hO hRr hOwn hKr
    rcases hRR' with ⟨rfl, hRk⟩ | ⟨he, hRk⟩
    case inr =>
      have hq : (e == 0) = false := by simpa using he
      have HRk := hid hRk
      clear hRk
      go_wp2_with fail
      refine bodyPost_ret (v := tv false (0, []) none 0 0) (by simp [results, Try.results30, go_sem, r0, r1, r2, r3, hz]) rfl ?_
      rw [HRZ.out, HRk.out]
      exact ⟨_, rfl, IsT.zero _, put4_far HBr.out (by omega) _ _ _ _, KW.out.mine (Nat.le_refl _) (put4_kept _ _ _ _ _ _)⟩
    case inl =>
    obtain ⟨f'', rfl⟩ : ∃ f'', f' = f'' + 1 := ⟨f' - 1, by have := hfu rfl; omega⟩
    have HRk := hid hRk
    clear hRk
    have hfu' := hfu rfl
    have hks' := hks rfl
    clear hfu hks
    by_cases hend : L[at']?.map (·.1) = some 2
    · obtain ⟨⟨kd', tx'⟩, hLt, hkd⟩ := Option.map_eq_some_iff.1 hend
      replace hkd : kd' = 2 := hkd
      subst hkd
      have hatm : at' < m := by rw [← HM.out]; exact (List.getElem?_eq_some_iff.1 hLt).1
      obtain ⟨ad', t, hA, ht, c0, c1⟩ := TList.get (HTr.out.sub (gp_sub _ wr)) (k := at') (by rw [HM.out]; exact hatm)
      injection hA with hA
      subst hA
      rw [hLt] at ht
      injection ht with ht
      subst ht
      have hatm' : (at' : Int) < (m : Int) := by omega
      replace c0 : wr.cell? (ad.add (at' * 2)) = some (.int .i64 2) := c0
      have HRK := hid (show R = ⟨.mk true (0, []) ks, at' + 1, n', 0⟩ by rw [HRk.out, M.rdK, if_pos hend])
      clear hend hLt c1
      go_wp2_with fail
      go_region
      go_wp2_with fail
      refine bodyPost_ret (v := tv true (0, []) A' ks.length c') (by simp [results, Try.results30, go_sem, r0, r1, r2, r3, hz]) rfl ?_
      rw [HRZ.out, HRK.out]
      have hLr := HKr.out.1.size
      exact ⟨_, rfl, ⟨A', c', rfl, HOwn.out.kids.sub (gp_mono (by simp) fun k hk hp => ⟨by omega, ((put4_kept _ _ _ _ _ _).2 k (by simpa using hk) (by simp; omega)).trans ((kept_setAt _).2 k hk (by simp; omega))⟩)⟩,
        (put4_far (HBr.out.setAt 1 _) (by omega) _ _ _ _).drew, ((KW.out.trans (kept_setAt _)).mine (Nat.le_refl _) (put4_kept _ _ _ _ _ _)).trans (((Ext.refl _).drew').kept _)⟩
    · have HEd := hid ((Ext.refl wr).drew')
      obtain ⟨r1, hr1⟩ : ∃ r1, M.rdT f'' L (d + 1) at' n' = r1 := ⟨_, rfl⟩
      have hbd := (M.rd_bounds f'').1 L (d + 1) at' n' (by rw [HM.out]; exact hat') hn'
      have hrest := HRk.out
      rw [M.rdK, if_neg hend, hr1] at hrest
      rw [hr1, HM.out] at hbd
      replace hrest : (r1.e = 0 ∧ R = M.rdK f'' L d r1.at_ r1.n (ks ++ [r1.t])) ∨ (r1.e ≠ 0 ∧ R = ⟨M.T0, r1.at_, r1.n, r1.e⟩) := by
        by_cases h0 : r1.e = 0
        · rw [if_neg (by simpa using h0)] at hrest; exact .inl ⟨h0, hrest⟩
        · rw [if_pos h0] at hrest; exact .inr ⟨h0, hrest⟩
      have HREST := hid hrest
      have HBD := hid hbd
      clear hrest hbd
      rcases Nat.lt_or_ge at' m with hatm | hatm
      · obtain ⟨ad', t, hA, ht, c0, c1⟩ := TList.get (HTr.out.sub (gp_sub _ wr)) (k := at') (by rw [HM.out]; exact hatm)
        injection hA with hA
        subst hA
        obtain ⟨kd', tx'⟩ := t
        have hne : ¬ kd' = 2 := fun e => hend (by rw [ht, e]; rfl)
        have hne2 : (kd' == 2) = false := by simpa using hne
        have hatm' : (at' : Int) < (m : Int) := by omega
        replace c0 : wr.cell? (ad.add (at' * 2)) = some (.int .i64 kd') := c0
        clear hend ht c1 hne
        go_wp2_with fail
        go_region
        go_wp2_with fail
        have HE1 := hid (show ∀ (wd : World), Ext wr wd → Calls Try.prog 30 #[.pointer (some ⟨g, 0, none⟩), .int .i64 ((d : Int) + 1)] wd (GivesRd g (.slice (some ad) m c) wd r1) from fun wd hE => by
          have := IH.out f'' (by omega) (d := d + 1) (at_ := at') (n := n') (w := wd) (HBr.out.up hE) (HTr.out.sub ((hE.kept [g]).gpne)) (by omega) hat' hn' (by omega)
          rw [hr1] at this
          exact this)
        refine wp_region_K [g] [(0, 0), (1, 0), (2, 0), (3, 0), (4, 0), (5, 1), (6, 1), (7, 3), (8, 2), (9, 3)] fun wd hb => ?_
        have Ed := hid (HEd.out.trans hb)
        clear hb
        have go : o ≠ g := by omega
        refine WK.p 120 (.pointer (some ⟨o, 3, none⟩)) ?_
        simp only [Act.put, pA, pB, pC]
        refine WK.q 121 (.slice A' ks.length c') rfl (fun w' hk => by have ce := hk.cellA (p := ⟨o, 3, none⟩) (by simpa using go) ((HO.out.up Ed.out).k 3); go_simp) ?_
        simp only [Act.put, pA, pB, pC]
        refine WK.p 122 (.pointer (some ⟨g, 0, none⟩)) ?_
        simp only [Act.put, pA, pB, pC]
        refine WK.p 123 (.int .i64 (d : Int)) ?_
        simp only [Act.put, pA, pB, pC]
        refine WK.q 124 (.int .i64 ((d : Int) + 1)) rfl (fun w' hk => by have hwr : IntKind.i64.wrap ((d : Int) + 1) = (d : Int) + 1 := (by rw [IntKind.wrap_i64]; omega); go_simp) ?_
        simp only [Act.put, pA, pB, pC]
        refine WK.c 125 ((HE1.out wd Ed.out).mono ?_)
        rintro en w2 ⟨v, rfl, ⟨B, q, rfl, hkids⟩, hB2, hk2⟩
        refine ⟨_, rfl, hk2, ?_⟩
        simp only [Act.put, pA, pB, pC]
        have hBw := hB2.lt
        have HO2 := hid ((HO.out.up Ed.out).kept hk2 (by simpa using go))
        have HR2 := hid ((HRr.out.up Ed.out).kept hk2 (by simp; omega))
        have HK2 := hid (((Ed.out.kept [g]).trans hk2).mono (Y := [g, o]) (by simp))
        have HW2 := hid ((HOwn.out.frame Ed.out.size fun b _ hb => Ed.out.block b hb).frame hk2.1.size fun b hb1 hb2 => hk2.2 b hb2 (by simp; omega))
        have hd2 := Ed.out.size
        have HKid := hid (show Kids (gp (beside WL.heap.size (.slice A' ks.length c')) w2) r1.t.kids (.slice B r1.t.kids.length q) from hkids.sub (gp_mono (Nat.le_refl _) fun k _ hp => ⟨⟨by have := HKr.out.1.size; omega, fun e => by have := HOwn.out.own_lt e; omega⟩, rfl⟩))
        have HB2 := hid hB2
        have hd3 := hk2.1.size
        clear hkids hB2 hk2
        refine WK.act 126 (v := .slice (some ⟨w2.heap.size, 0, none⟩) 1 1) (w' := w2.alloc (.cells #[.bool r1.t.list, .int .i64 r1.t.tok.1, str r1.t.tok.2, .slice B r1.t.kids.length q] 35)) rfl (by go_simp) ((Ext.alloc _ _).kept _) ?_
        simp only [Act.put, pA, pB, pC]
        obtain ⟨v', w3, hrun, hown, hbel⟩ := appK_run (HW2.out.frame (Ext.alloc w2 (.cells #[.bool r1.t.list, .int .i64 r1.t.tok.1, str r1.t.tok.2, .slice B r1.t.kids.length q] 35)).size fun b _ hb => (Ext.alloc w2 _).block b hb) (Box.new w2 #[.bool r1.t.list, .int .i64 r1.t.tok.1, str r1.t.tok.2, .slice B r1.t.kids.length q] 35)
          (HKid.out.sub (gp_mono (Ext.alloc w2 _).size fun k hk hp => ⟨hp, (Ext.alloc w2 _).block k hk⟩)) rfl (by omega) (by have := HKr.out.1.size; simp; omega) 25
        obtain ⟨A3, c3, rfl⟩ := hown.len
        refine WK.late 127 rfl (exec_appK (.tmp 121) (.tmp 126) rfl rfl rfl hrun) ?_
        simp only [Act.put, pA, pB, pC]
        have hLr := HKr.out.1.size
        have HO3 := hid ((HO2.out.alloc (.cells #[.bool r1.t.list, .int .i64 r1.t.tok.1, str r1.t.tok.2, .slice B r1.t.kids.length q] 35)).low hbel (by omega))
        have HR3 := hid ((HR2.out.alloc (.cells #[.bool r1.t.list, .int .i64 r1.t.tok.1, str r1.t.tok.2, .slice B r1.t.kids.length q] 35)).low hbel (by omega))
        have HB3 := hid ((HB2.out.alloc (.cells #[.bool r1.t.list, .int .i64 r1.t.tok.1, str r1.t.tok.2, .slice B r1.t.kids.length q] 35)).low hbel (by omega))
        have HK3 := hid (((HKr.out.trans HK2.out).trans ((Ext.alloc w2 (.cells #[.bool r1.t.list, .int .i64 r1.t.tok.1, str r1.t.tok.2, .slice B r1.t.kids.length q] 35)).kept _)).belowL hbel)
        have HOW := hid hown
        clear hrun hown hbel
        have x3 := HO3.out.k 3
        have y3 := HO3.out.free 3
        have ho3 := HO3.out.lt
        refine WK.y 128 (.pointer (some ⟨o, 3, none⟩)) ?_
        simp only [Act.put, pA, pB, pC]
        refine WK.st (w' := w3.setCell ⟨o, 3, none⟩ (.slice A3 (ks ++ [r1.t]).length c3)) ?_
        refine WK.done ?_
        go_wp2_with fail
        have HB4 := hid (HB3.out.far (show g ≠ o by omega) (p := ⟨o, 3, none⟩) (.slice A3 (ks ++ [r1.t]).length c3))
        have HM1 := measR_box (m := m) HBr.out
        have HM2 := measR_box (m := m) HB4.out
        go_roundw
        case rel => exact ⟨f'', r1.at_, r1.n, r1.e, ks ++ [r1.t], _, ⟨HB4.out, HO3.out.setAt 3 _, HR3.out.far (show w.heap.size ≠ o by omega) _, HOW.out.frame (by simp) (fun b hb1 hb2 => Below.heap_setCell _ _ _ _ (show b ≠ o by omega)), HK3.out.trans ((kept_setAt _).mono (by simp)), HREST.out⟩, by omega, HBD.out.2.1, HBD.out.2.2.2.1, fun he => by
            have h1 := HBD.out.2.2.2.2.1 he
            have h2 := hks'
            rw [List.length_append, List.length_singleton]
            omega, fun he => by have h1 := HBD.out.2.2.2.2.1 he; have h2 := HBD.out.2.1; omega⟩
        case measure =>
          rw [HM1, HM2, if_pos rfl]
          split
          · rename_i he
            have h1 := HBD.out.2.2.2.2.1 he
            have h2 := HBD.out.2.1
            omega
          · omega
      · have hatm' : decide ((at' : Int) < (m : Int)) = false := by simp; omega
        have hatm2 : decide (at' < m) = false := by simp; omega
        have hatm3 : ¬ (at' < m) := by omega
        clear hend
        go_wp2_with fail
        go_region
        go_wp2_with fail
        have HE1 := hid (show ∀ (wd : World), Ext wr wd → Calls Try.prog 30 #[.pointer (some ⟨g, 0, none⟩), .int .i64 ((d : Int) + 1)] wd (GivesRd g (.slice (some ad) m c) wd r1) from fun wd hE => by
          have := IH.out f'' (by omega) (d := d + 1) (at_ := at') (n := n') (w := wd) (HBr.out.up hE) (HTr.out.sub ((hE.kept [g]).gpne)) (by omega) hat' hn' (by omega)
          rw [hr1] at this
          exact this)
        refine wp_region_K [g] [(0, 0), (1, 0), (2, 0), (3, 0), (4, 0), (5, 1), (6, 1), (7, 3), (8, 2), (9, 3)] fun wd hb => ?_
        have Ed := hid (HEd.out.trans hb)
        clear hb
        have go : o ≠ g := by omega
        refine WK.p 120 (.pointer (some ⟨o, 3, none⟩)) ?_
        simp only [Act.put, pA, pB, pC]
        refine WK.q 121 (.slice A' ks.length c') rfl (fun w' hk => by have ce := hk.cellA (p := ⟨o, 3, none⟩) (by simpa using go) ((HO.out.up Ed.out).k 3); go_simp) ?_
        simp only [Act.put, pA, pB, pC]
        refine WK.p 122 (.pointer (some ⟨g, 0, none⟩)) ?_
        simp only [Act.put, pA, pB, pC]
        refine WK.p 123 (.int .i64 (d : Int)) ?_
        simp only [Act.put, pA, pB, pC]
        refine WK.q 124 (.int .i64 ((d : Int) + 1)) rfl (fun w' hk => by have hwr : IntKind.i64.wrap ((d : Int) + 1) = (d : Int) + 1 := (by rw [IntKind.wrap_i64]; omega); go_simp) ?_
        simp only [Act.put, pA, pB, pC]
        refine WK.c 125 ((HE1.out wd Ed.out).mono ?_)
        rintro en w2 ⟨v, rfl, ⟨B, q, rfl, hkids⟩, hB2, hk2⟩
        refine ⟨_, rfl, hk2, ?_⟩
        simp only [Act.put, pA, pB, pC]
        have hBw := hB2.lt
        have HO2 := hid ((HO.out.up Ed.out).kept hk2 (by simpa using go))
        have HR2 := hid ((HRr.out.up Ed.out).kept hk2 (by simp; omega))
        have HK2 := hid (((Ed.out.kept [g]).trans hk2).mono (Y := [g, o]) (by simp))
        have HW2 := hid ((HOwn.out.frame Ed.out.size fun b _ hb => Ed.out.block b hb).frame hk2.1.size fun b hb1 hb2 => hk2.2 b hb2 (by simp; omega))
        have hd2 := Ed.out.size
        have HKid := hid (show Kids (gp (beside WL.heap.size (.slice A' ks.length c')) w2) r1.t.kids (.slice B r1.t.kids.length q) from hkids.sub (gp_mono (Nat.le_refl _) fun k _ hp => ⟨⟨by have := HKr.out.1.size; omega, fun e => by have := HOwn.out.own_lt e; omega⟩, rfl⟩))
        have HB2 := hid hB2
        have hd3 := hk2.1.size
        clear hkids hB2 hk2
        refine WK.act 126 (v := .slice (some ⟨w2.heap.size, 0, none⟩) 1 1) (w' := w2.alloc (.cells #[.bool r1.t.list, .int .i64 r1.t.tok.1, str r1.t.tok.2, .slice B r1.t.kids.length q] 35)) rfl (by go_simp) ((Ext.alloc _ _).kept _) ?_
        simp only [Act.put, pA, pB, pC]
        obtain ⟨v', w3, hrun, hown, hbel⟩ := appK_run (HW2.out.frame (Ext.alloc w2 (.cells #[.bool r1.t.list, .int .i64 r1.t.tok.1, str r1.t.tok.2, .slice B r1.t.kids.length q] 35)).size fun b _ hb => (Ext.alloc w2 _).block b hb) (Box.new w2 #[.bool r1.t.list, .int .i64 r1.t.tok.1, str r1.t.tok.2, .slice B r1.t.kids.length q] 35)
          (HKid.out.sub (gp_mono (Ext.alloc w2 _).size fun k hk hp => ⟨hp, (Ext.alloc w2 _).block k hk⟩)) rfl (by omega) (by have := HKr.out.1.size; simp; omega) 25
        obtain ⟨A3, c3, rfl⟩ := hown.len
        refine WK.late 127 rfl (exec_appK (.tmp 121) (.tmp 126) rfl rfl rfl hrun) ?_
        simp only [Act.put, pA, pB, pC]
        have hLr := HKr.out.1.size
        have HO3 := hid ((HO2.out.alloc (.cells #[.bool r1.t.list, .int .i64 r1.t.tok.1, str r1.t.tok.2, .slice B r1.t.kids.length q] 35)).low hbel (by omega))
        have HR3 := hid ((HR2.out.alloc (.cells #[.bool r1.t.list, .int .i64 r1.t.tok.1, str r1.t.tok.2, .slice B r1.t.kids.length q] 35)).low hbel (by omega))
        have HB3 := hid ((HB2.out.alloc (.cells #[.bool r1.t.list, .int .i64 r1.t.tok.1, str r1.t.tok.2, .slice B r1.t.kids.length q] 35)).low hbel (by omega))
        have HK3 := hid (((HKr.out.trans HK2.out).trans ((Ext.alloc w2 (.cells #[.bool r1.t.list, .int .i64 r1.t.tok.1, str r1.t.tok.2, .slice B r1.t.kids.length q] 35)).kept _)).belowL hbel)
        have HOW := hid hown
        clear hrun hown hbel
        have x3 := HO3.out.k 3
        have y3 := HO3.out.free 3
        have ho3 := HO3.out.lt
        refine WK.y 128 (.pointer (some ⟨o, 3, none⟩)) ?_
        simp only [Act.put, pA, pB, pC]
        refine WK.st (w' := w3.setCell ⟨o, 3, none⟩ (.slice A3 (ks ++ [r1.t]).length c3)) ?_
        refine WK.done ?_
        go_wp2_with fail
        have HB4 := hid (HB3.out.far (show g ≠ o by omega) (p := ⟨o, 3, none⟩) (.slice A3 (ks ++ [r1.t]).length c3))
        have HM1 := measR_box (m := m) HBr.out
        have HM2 := measR_box (m := m) HB4.out
        go_roundw
        case rel => exact ⟨f'', r1.at_, r1.n, r1.e, ks ++ [r1.t], _, ⟨HB4.out, HO3.out.setAt 3 _, HR3.out.far (show w.heap.size ≠ o by omega) _, HOW.out.frame (by simp) (fun b hb1 hb2 => Below.heap_setCell _ _ _ _ (show b ≠ o by omega)), HK3.out.trans ((kept_setAt _).mono (by simp)), HREST.out⟩, by omega, HBD.out.2.1, HBD.out.2.2.2.1, fun he => by
            have h1 := HBD.out.2.2.2.2.1 he
            have h2 := hks'
            rw [List.length_append, List.length_singleton]
            omega, fun he => by have h1 := HBD.out.2.2.2.2.1 he; have h2 := HBD.out.2.1; omega⟩
        case measure =>
          rw [HM1, HM2, if_pos rfl]
          split
          · rename_i he
            have h1 := HBD.out.2.2.2.2.1 he
            have h2 := HBD.out.2.1
            omega
          · omega

end Go.Proofs.Ytceplnfjlncekaa
