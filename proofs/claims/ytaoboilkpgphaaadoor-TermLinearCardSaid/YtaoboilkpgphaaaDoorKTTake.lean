/-
  Contracts of package term: the names of terms.
-/
import Derived.Test.YtaoboilkpgphaaaDoorJTD
namespace Go.Proofs.YtaoboilkpgphaaaDoor.Q
set_option linter.unusedSimpArgs false
set_option linter.unusedVariables false
open Go.RowKit

namespace M
theorem kadd_asc {s : Sg} {p : List Sg × Bool} (h : kAsc p.1) : kAsc (kadd s p).1 := by
 obtain ⟨l, ok⟩ := p
 have hp : kPre s.name l (kpl s.name l) := by
  clear h
  induction l with
  | nil => intro j x hj; simp [kpl] at hj
  | cons y r ih =>
   intro j x hj hx
   rw [kpl] at hj
   split at hj
   ·rename_i hb
    rcases j with _ | j
    ·simp at hx; subst hx; exact hb
    ·exact ih j x (by omega) (by simpa using hx)
   ·omega
 have hle := kpl_le s.name l
 rcases hq : l[kpl s.name l]? with _ | x
 ·have hk : kpl s.name l = l.length := by
   rw [List.getElem?_eq_none_iff] at hq; omega
  rw [hk] at hp
  rw [kadd_end hp]
  exact kAsc_put h hp (Nat.le_refl _) (.inl rfl)
 ·have hb : Go.Op.bytesLess x.name s.name = false := by
   clear h hp hle
   induction l with
   | nil => simp at hq
   | cons y r ih =>
    rw [kpl] at hq
    split at hq
    ·exact ih (by simpa using hq)
    ·rename_i hb
     simp at hq
     subst hq
     simpa using hb
  by_cases he : x.name = s.name
  ·rw [kadd_found hp hq hb he]; exact h
  ·rw [kadd_new hp hq hb he]
   exact kAsc_put h hp hle (.inr ⟨x, hq, hb, he⟩)
mutual
theorem ksigs_asc : ∀ (t : Tm) {p : List Sg × Bool}, kAsc p.1 → kAsc (ksigs t p).1
 | .mk op g ls nm so ks, p, h => by
  rw [ksigs]
  refine ksigss_asc ks ?_
  split
  ·exact kadd_asc h
  ·exact h
theorem ksigss_asc : ∀ (ks : List Tm) {p : List Sg × Bool}, kAsc p.1 → kAsc (ksigss ks p).1
 | [], p, h => by rw [ksigss]; exact h
 | t :: r, p, h => by rw [ksigss]; exact ksigss_asc r (ksigs_asc t h)
end
end M
theorem SgC.sub {w w' : World} (e : Sub w w') : ∀ {l : List M.Sg} {xs : List Value}, SgC w l xs → SgC w' l xs
 | [], _, h => h
 | s :: r, _, ⟨A, n, c, ys, h1, h2, h3⟩ => ⟨A, n, c, ys, h1, h2.sub e, SgC.sub e h3⟩
theorem SgC.take {w : World} : ∀ {l : List M.Sg} {xs : List Value} (k : Nat), SgC w l xs → SgC w (l.take k) (xs.take (k * 3)) ∧ SgC w (l.drop k) (xs.drop (k * 3))
 | [], _, k, h => by rw [show _ = [] from h]; simp [SgC]
 | s :: r, xs, 0, h => by simp [SgC]; exact h
 | s :: r, _, k + 1, ⟨A, n, c, ys, h1, h2, h3⟩ => by
  obtain ⟨a1, a2⟩ := SgC.take k h3
  subst h1
  rw [show (k + 1) * 3 = k * 3 + 1 + 1 + 1 by omega]
  exact ⟨⟨A, n, c, _, rfl, h2, a1⟩, a2⟩
/-- Blocks beside the names' own. -/
abbrev nmP (g0 : Nat) (v : Value) (b : Nat) : Prop := b ≠ g0 ∧ v.ownBlock ≠ some b
/-- The names that were met: their list, of the call's own. -/
def Nms (base g0 : Nat) (w : World) (v : Value) (p : List M.Sg × Bool) : Prop :=
 Box w g0 #[v, .bool (!p.2)] 60 ∧ v.ownBlock ≠ some g0 ∧ ∃ xs, w.ownsRow base 53 3 v p.1.length xs ∧ SgC (gp (nmP g0 v) w) p.1 xs
theorem Nms.up {base g0 : Nat} {w w' : World} {v : Value} {p : List M.Sg × Bool} (h : Nms base g0 w v p) (e : Ext w w') : Nms base g0 w' v p := by
 obtain ⟨h1, h2, xs, h3, h4⟩ := h
 exact ⟨h1.up e, h2, xs, kframe h3 fun b _ hb => e.block b hb, h4.sub (gp_mono e.size fun b hb hp => ⟨hp, e.block b hb⟩)⟩
theorem Nms.sgs {base g0 : Nat} {w : World} {v : Value} {p : List M.Sg × Bool} (h : Nms base g0 w v p) : Sgs w p.1 v := by
 obtain ⟨-, -, xs, h1, h2⟩ := h
 have h2' := h2.sub (gp_sub _ _)
 have hh := h1
 obtain ⟨hl, h3⟩ := h1
 rcases h3 with ⟨rfl, h0⟩ | ⟨b, cap, cur, rfl, hb, hc, hc1, hm, _, _⟩
 ·rw [show p.1 = [] from List.eq_nil_of_length_eq_zero h0]
  exact Sgs.nil w
 ·refine ⟨_, _, _, rfl, rfl, hc1, hm, fun hn => ⟨_, rfl, (Array.getElem?_eq_some_iff.1 hc).1, fun k s hk => ?_⟩⟩
  obtain ⟨A, n, c, g0, g1, g2, g3⟩ := h2'.get k s hk
  refine ⟨A, n, c, ⟨World.ownsRow.cells hh (g := b) rfl _ _ g0, ?_, ?_⟩, g3⟩
  ·rw [Addr.add_add]; exact World.ownsRow.cells hh (g := b) rfl _ _ g1
  ·rw [Addr.add_add]; exact World.ownsRow.cells hh (g := b) rfl _ _ g2
/-- What became of the names behind a call. -/
def NmSt (base g0 : Nat) (w : World) (v : Value) (q : List M.Sg × Bool) (w' : World) : Prop :=
 ∃ v', Nms base g0 w' v' q ∧ Kept (g0 :: v.ownBlock.toList) w w' ∧ (v'.ownBlock = v.ownBlock ∨ ∃ b, w.heap.size ≤ b ∧ v'.ownBlock = some b)
theorem NmSt.refl {base g0 : Nat} {w : World} {v : Value} {q : List M.Sg × Bool} (h : Nms base g0 w v q) : NmSt base g0 w v q w := ⟨v, h, Kept.refl _ _, .inl rfl⟩
theorem kept_more {X Y : List Nat} {w w' : World} (h : Kept X w w') (hs : ∀ k, k < w.heap.size → k ∉ Y → k ∉ X) : Kept Y w w' := ⟨h.1, fun k hk hy => h.2 k hk (hs k hk hy)⟩
theorem NmSt.trans {base g0 : Nat} {w w1 w2 : World} {v v1 : Value} {q : List M.Sg × Bool} (h1 : Kept (g0 :: v.ownBlock.toList) w w1) (h2 : v1.ownBlock = v.ownBlock ∨ ∃ b, w.heap.size ≤ b ∧ v1.ownBlock = some b) (h3 : NmSt base g0 w1 v1 q w2) : NmSt base g0 w v q w2 := by
 obtain ⟨v', a1, a2, a3⟩ := h3
 refine ⟨v', a1, ⟨h1.1.trans a2.1, ?_⟩, ?_⟩
 ·intro k hk hy
  rw [a2.2 k (Nat.lt_of_lt_of_le hk h1.1.size) ?_, h1.2 k hk hy]
  intro hx
  rcases h2 with h2 | ⟨b, hb, h2⟩
  ·rw [h2] at hx; exact hy hx
  ·rw [h2] at hx
   simp at hx hy
   rcases hx with hx | hx
   ·exact hy.1 hx
   ·omega
 ·rcases a3 with a3 | ⟨b, hb, a3⟩
  ·rw [a3]; exact h2
  ·exact .inr ⟨b, Nat.le_trans h1.1.size hb, a3⟩
set_option maxHeartbeats 16000000 in
set_option maxRecDepth 100000 in
theorem take_n {base g0 : Nat} {w : World} {v : Value} {p : List M.Sg × Bool} {s : M.Sg} {A' : Option Addr} {c' : Nat} (h : Nms base g0 w v p) (hs : Ints (gp (nmP g0 v) w) s.args (.slice A' s.args.length c')) (ha : M.kAsc p.1) (hlen : p.1.length ≤ 999999) (hbase : base ≤ w.heap.size) (hg0 : g0 < base) :
 Calls Tryd.prog 66 #[.pointer (some ⟨g0, 0, none⟩), sgv s.name A' s.args.length c' s.ret] w (fun e w' => e = .returned (.tuple #[]) ∧ NmSt base g0 w v (M.kadd s p) w') := by
 obtain ⟨l, ok⟩ := p
 replace ha : M.kAsc l := ha
 replace hlen : l.length ≤ 999999 := hlen
 obtain ⟨hbx, hog, xs, hrow, hsg⟩ := h
 obtain ⟨VA, vc, rfl, hvc1, hvc2⟩ := kshape hrow
 replace hrow : w.ownsRow base 53 3 (.slice VA l.length vc) l.length xs := hrow
 replace hbx : Box w g0 #[.slice VA l.length vc, .bool (!ok)] 60 := hbx
 replace hsg : SgC (gp (nmP g0 (.slice VA l.length vc)) w) l xs := hsg
 replace hog : (Value.slice VA l.length vc).ownBlock ≠ some g0 := hog
 replace hs : Ints (gp (nmP g0 (.slice VA l.length vc)) w) s.args (.slice A' s.args.length c') := hs
 have HNM := hid (show Nms base g0 w (.slice VA l.length vc) (l, ok) from ⟨hbx, hog, xs, hrow, hsg⟩)
 have HSG := hid HNM.out.sgs
 have HIS := hid (show IsSg w s (sgv s.name A' s.args.length c' s.ret) from ⟨A', c', rfl, hs.sub (gp_sub _ _)⟩)
 have hgl := hbx.lt
 have hvc9 : vc ≤ 9223372036854775807 := by unfold maxLen at hvc2; omega
 have HOL := hid (show ∀ b, b ∈ (Value.slice VA l.length vc).ownBlock.toList → base ≤ b ∧ b < w.heap.size from fun b hb => by
  have := hrow.lt b (by simpa using hb)
  exact ⟨this.1, this.2⟩)
 have HGN := hid (show g0 ∉ (Value.slice VA l.length vc).ownBlock.toList from fun hb => hog (by simpa using hb))
 obtain ⟨n, hn⟩ : ∃ n, l.length = n := ⟨_, rfl⟩
 obtain ⟨m, hm⟩ : ∃ m, s.args.length = m := ⟨_, rfl⟩
 obtain ⟨nm, hnm⟩ : ∃ x, s.name = x := ⟨_, rfl⟩
 obtain ⟨rt, hrt⟩ : ∃ x, s.ret = x := ⟨_, rfl⟩
 have HSR := hid (show ∀ w', Ext w w' → Calls Tryd.prog 86 #[.slice VA l.length vc, sgv s.name A' s.args.length c' s.ret, byNameFun] w' (GivesAt w' s l) from fun w' e => search_t (HSG.out.up e) ha (by omega))
 have HB := hid (Box.new w #[str nm, .slice A' m c', .int .i64 rt] 53)
 have HX := hid hbx
 have HROW := hid hrow
 have HSC := hid hsg
 have HHS := hid hs
 have HLN := hid hn
 have HNG := hid hog
 have HSM := hid (show s.args.length = m ∧ s.name = nm ∧ s.ret = rt from ⟨hm, hnm, hrt⟩)
 have E := hid (Ext.alloc w (.cells #[str nm, .slice A' m c', .int .i64 rt] 53))
 rw [hn, hm, hnm, hrt] at HSR
 rw [hn] at hvc1 HX HOL HGN HNM HNG
 rw [hm, hnm, hrt] at HIS
 rw [hn]
 rw [hm, hnm, hrt]
 replace HX := hid (HX.out.up E.out)
 replace hlen : n ≤ 999999 := by omega
 clear hbx hog hrow hsg hs ha hn hm hnm hrt hvc2
 go_enter Tryd.func66, Tryd.ntmps66
 go_wp2_with fail
 refine wp_region_D [(0, 0), (1, 0), (2, 0), (3, 0), (4, 0), (5, 1), (6, 0), (7, 0), (8, 0), (9, 0), (10, 0)] fun wd hb => ?_
 replace E := hid (E.out.trans hb)
 replace HB := hid (HB.out.up hb)
 replace HX := hid (HX.out.up hb)
 clear hb
 refine WE.p 7 (.pointer (some ⟨g0, 0, none⟩)) ?_
 simp only [Act.put, pA, pB, pC]
 refine WE.p 8 (.pointer (some ⟨g0, 0, none⟩)) ?_
 simp only [Act.put, pA, pB, pC]
 refine WE.p 9 (.pointer (some ⟨g0, 0, none⟩)) ?_
 simp only [Act.put, pA, pB, pC]
 refine WE.q 10 (.slice VA n vc) rfl (fun w' hk => by have ce := (HX.out.up hk).k 0; go_simp) ?_
 simp only [Act.put, pA, pB, pC]
 refine WE.q 11 (sgv nm A' m c' rt) rfl (fun w' hk => by obtain ⟨x0, x1, x2⟩ := box3b (HB.out.up hk); go_simp) ?_
 simp only [Act.put, pA, pB, pC]
 refine WE.c 12 ((HSR.out _ E.out).mono ?_)
 rintro e w2 ⟨k, b, rfl, hkl, hkp, hkq, hft, hff, hb⟩
 refine ⟨_, rfl, hb, ?_⟩
 have HKL := hid hkl
 have HKP := hid hkp
 have HKQ := hid hkq
 have HFT := hid hft
 have HFF := hid hff
 clear hkl hkp hkq hft hff
 replace E := hid (E.out.trans hb)
 replace HB := hid (HB.out.up hb)
 replace HX := hid (HX.out.up hb)
 clear hb
 simp only [Act.put, pA, pB, pC]
 refine WE.p 6 (.tuple #[.int .i64 (k : Int), .bool b]) ?_
 simp only [Act.put, pA, pB, pC]
 refine WE.p 13 (.int .i64 (k : Int)) ?_
 simp only [Act.put, pA, pB, pC]
 refine WE.p 14 (.bool b) ?_
 simp only [Act.put, pA, pB, pC]
 refine WE.p 4 (.int .i64 (k : Int)) ?_
 simp only [Act.put, pA, pB, pC]
 refine WE.p 5 (.bool b) ?_
 simp only [Act.put, pA, pB, pC]
 refine WE.done ?_
 cases b
 case true =>
  obtain ⟨x, hx, hxn⟩ := HFT.out rfl
  have hkn : k < n := by have := (List.getElem?_eq_some_iff.1 hx).1; rw [HLN.out] at this; exact this
  have HKF := hid (show M.kadd s (l, ok) = (l, ok && M.ksameS x s) from M.kadd_found HKP.out hx (HKQ.out k x (Nat.le_refl _) hx) hxn)
  have hkn' : (k : Int) < (n : Int) := by omega
  have hsg := HSG.out
  rw [HLN.out] at hsg
  obtain ⟨ad, u, B, d, rfl, hu, ⟨c0, c1, c2⟩, hv⟩ := hsg.get hkn
  obtain rfl : u = x := by rw [hx] at hu; injection hu with hu; exact hu.symm
  have C0 := hid c0
  have C1 := hid c1
  have C2 := hid c2
  have HV := hid hv
  clear hu hx hxn c0 c1 c2 hv hsg HFT HFF
  have HSS := hid (show ∀ w', Ext w w' → Calls Tryd.prog 88 #[sgv nm A' m c' rt, sgv u.name B u.args.length d u.ret] w' (GivesB w' (M.ksameS s u)) from fun w' e => sameSig_t (HIS.out.up e) (HV.out.up e))
  obtain ⟨q, hq⟩ : ∃ q, M.ksameS s u = q := ⟨_, rfl⟩
  rw [hq] at HSS
  have HQS := hid (show M.ksameS u s = q by rw [← hq]; unfold M.ksameS; rw [decide_eq_decide]; exact eq_comm)
  clear hq
  have HFIN := hid (show ∀ (W : World) (nb : Bool), Ext w W → nb = (!(ok && q)) → NmSt base g0 w (.slice (some ad) n vc) (M.kadd s (l, ok)) (W.setCell ⟨g0, 1, none⟩ (.bool nb)) from fun W nb e hnb => by
   have hset : ∀ b, b ≠ g0 → (W.setCell ⟨g0, 1, none⟩ (.bool nb)).heap[b]? = W.heap[b]? := fun b hb => Below.heap_setCell _ _ _ _ (show b ≠ g0 from hb)
   obtain ⟨h1, h2, ys, h3, h4⟩ := HNM.out.up e
   rw [HKF.out, HQS.out]
   refine ⟨.slice (some ad) n vc, ⟨?_, h2, ys, ?_, ?_⟩, ?_, .inl rfl⟩
   ·have := h1.setAt 1 (.bool nb)
    rw [hnb] at this ⊢
    exact this
   ·exact kframe h3 fun b hb1 hb2 => hset b (by omega)
   ·exact h4.sub (gp_mono (by simp) fun b hb hp => ⟨hp, hset b hp.1⟩)
   ·exact ⟨(Below.mono e (Nat.zero_le _)).trans ((Below.refl 0 W).setCell (Nat.zero_le _) _), fun b hb hx => by rw [hset b (fun e => hx (by simp [e])), e.block b hb]⟩)
  cases ok
  ·go_wp2_with fail
   refine wp_region_D [(0, 0), (1, 0), (2, 0), (3, 0), (4, 0), (5, 0), (6, 0), (7, 0), (8, 0), (9, 0), (10, 0), (11, 0), (12, 0), (13, 0), (14, 1), (15, 0), (16, 0), (17, 0), (18, 0), (19, 4)] fun wd hb => ?_
   replace E := hid (E.out.trans hb)
   replace HB := hid (HB.out.up hb)
   replace HX := hid (HX.out.up hb)
   clear hb
   refine WE.p 16 (.pointer (some ⟨g0, 0, none⟩)) ?_
   simp only [Act.put, pA, pB, pC]
   refine WE.p 17 (.pointer (some ⟨g0, 0, none⟩)) ?_
   simp only [Act.put, pA, pB, pC]
   refine WE.p 18 (.pointer (some ⟨g0, 0, none⟩)) ?_
   simp only [Act.put, pA, pB, pC]
   refine WE.p 19 (.pointer (some ⟨g0, 1, none⟩)) ?_
   simp only [Act.put, pA, pB, pC]
   refine WE.q 20 (.bool true) rfl (fun w' hk => by have ce := (HX.out.up hk).k 1; go_simp) ?_
   simp only [Act.put, pA, pB, pC]
   refine WE.p 21 (.bool true) ?_
   simp only [Act.put, pA, pB, pC]
   refine WE.s 22 ?_
   simp only [Act.put, pA, pB, pC]
   refine WE.s 23 ?_
   simp only [Act.put, pA, pB, pC]
   refine WE.s 24 ?_
   simp only [Act.put, pA, pB, pC]
   refine WE.s 25 ?_
   simp only [Act.put, pA, pB, pC]
   refine WE.s 26 ?_
   simp only [Act.put, pA, pB, pC]
   refine WE.s 27 ?_
   simp only [Act.put, pA, pB, pC]
   refine WE.s 28 ?_
   simp only [Act.put, pA, pB, pC]
   refine WE.s 29 ?_
   simp only [Act.put, pA, pB, pC]
   refine WE.t 30 ?_
   simp only [Act.put, pA, pB, pC]
   refine WE.s 31 ?_
   simp only [Act.put, pA, pB, pC]
   refine WE.p 32 (.bool true) ?_
   simp only [Act.put, pA, pB, pC]
   refine WE.p 33 (.pointer (some ⟨g0, 0, none⟩)) ?_
   simp only [Act.put, pA, pB, pC]
   refine WE.p 34 (.pointer (some ⟨g0, 1, none⟩)) ?_
   simp only [Act.put, pA, pB, pC]
   have hc1 := HX.out.k 1
   have hf1 := HX.out.free 1
   have hl1 := HX.out.lt
   refine WE.store (w' := wd.setCell ⟨g0, 1, none⟩ (.bool true)) rfl rfl (by rfl) (by go_simp) (by simp) ?_
   refine WE.done ?_
   go_wp2_with fail
   refine bodyPost_ret (results_none rfl _ _ _) rfl ?_
   exact ⟨rfl, HFIN.out _ _ E.out rfl⟩
  ·go_wp2_with fail
   refine wp_region_D [(0, 0), (1, 0), (2, 0), (3, 0), (4, 0), (5, 0), (6, 0), (7, 0), (8, 0), (9, 0), (10, 0), (11, 0), (12, 0), (13, 0), (14, 1), (15, 0), (16, 0), (17, 0), (18, 0), (19, 4)] fun wd hb => ?_
   replace E := hid (E.out.trans hb)
   replace HB := hid (HB.out.up hb)
   replace HX := hid (HX.out.up hb)
   clear hb
   refine WE.p 16 (.pointer (some ⟨g0, 0, none⟩)) ?_
   simp only [Act.put, pA, pB, pC]
   refine WE.p 17 (.pointer (some ⟨g0, 0, none⟩)) ?_
   simp only [Act.put, pA, pB, pC]
   refine WE.p 18 (.pointer (some ⟨g0, 0, none⟩)) ?_
   simp only [Act.put, pA, pB, pC]
   refine WE.p 19 (.pointer (some ⟨g0, 1, none⟩)) ?_
   simp only [Act.put, pA, pB, pC]
   refine WE.q 20 (.bool false) rfl (fun w' hk => by have ce := (HX.out.up hk).k 1; go_simp) ?_
   simp only [Act.put, pA, pB, pC]
   refine WE.p 21 (.bool false) ?_
   simp only [Act.put, pA, pB, pC]
   refine WE.q 22 (sgv nm A' m c' rt) rfl (fun w' hk => by obtain ⟨x0, x1, x2⟩ := box3b (HB.out.up hk); go_simp) ?_
   simp only [Act.put, pA, pB, pC]
   refine WE.p 23 (.pointer (some ⟨g0, 0, none⟩)) ?_
   simp only [Act.put, pA, pB, pC]
   refine WE.p 24 (.pointer (some ⟨g0, 0, none⟩)) ?_
   simp only [Act.put, pA, pB, pC]
   refine WE.p 25 (.pointer (some ⟨g0, 0, none⟩)) ?_
   simp only [Act.put, pA, pB, pC]
   refine WE.q 26 (.slice (some ad) n vc) rfl (fun w' hk => by have ce := (HX.out.up hk).k 0; go_simp) ?_
   simp only [Act.put, pA, pB, pC]
   refine WE.p 27 (.int .i64 (k : Int)) ?_
   simp only [Act.put, pA, pB, pC]
   refine WE.p 28 (.pointer (some (ad.add (k * 3)))) ?_
   simp only [Act.put, pA, pB, pC]
   refine WE.q 29 (sgv u.name B u.args.length d u.ret) rfl (fun w' hk => by have ee := E.out.trans hk; have x0 := ee.cell C0.out; have x1 := ee.cell C1.out; have x2 := ee.cell C2.out; go_simp) ?_
   simp only [Act.put, pA, pB, pC]
   refine WE.c 30 ((HSS.out _ E.out).mono ?_)
   rintro e w2 ⟨rfl, hb⟩
   refine ⟨_, rfl, hb, ?_⟩
   replace E := hid (E.out.trans hb)
   replace HB := hid (HB.out.up hb)
   replace HX := hid (HX.out.up hb)
   clear hb
   simp only [Act.put, pA, pB, pC]
   refine WE.p 31 (.bool (!q)) ?_
   simp only [Act.put, pA, pB, pC]
   refine WE.p 32 (.bool (!q)) ?_
   simp only [Act.put, pA, pB, pC]
   refine WE.p 33 (.pointer (some ⟨g0, 0, none⟩)) ?_
   simp only [Act.put, pA, pB, pC]
   refine WE.p 34 (.pointer (some ⟨g0, 1, none⟩)) ?_
   simp only [Act.put, pA, pB, pC]
   have hc1 := HX.out.k 1
   have hf1 := HX.out.free 1
   have hl1 := HX.out.lt
   refine WE.store (w' := w2.setCell ⟨g0, 1, none⟩ (.bool (!q))) rfl rfl (by rfl) (by go_simp) (by simp) ?_
   refine WE.done ?_
   go_wp2_with fail
   refine bodyPost_ret (results_none rfl _ _ _) rfl ?_
   exact ⟨rfl, HFIN.out _ _ E.out (by cases q <;> rfl)⟩
 case false =>
  have HKF := hid (show M.kadd s (l, ok) = (l.take k ++ [s] ++ l.drop k, ok) by
   rcases hq : l[k]? with _ | x
   ·have h1 := HKL.out
    rw [List.getElem?_eq_none_iff] at hq
    obtain rfl : k = l.length := by omega
    exact M.kadd_end HKP.out
   ·exact M.kadd_new HKP.out hq (HKQ.out k x (Nat.le_refl _) hq) (HFF.out rfl x hq))
  clear HFT HFF
  go_wp2_with fail
  refine wp_region_K (Value.slice VA n vc).ownBlock.toList [(0, 0), (1, 0), (2, 0), (3, 0), (4, 0), (5, 0), (6, 0), (7, 1), (8, 1), (9, 0), (10, 0), (11, 3)] fun wd hb => ?_
  replace E := hid (E.out.trans hb)
  replace HB := hid (HB.out.up hb)
  replace HX := hid (HX.out.up hb)
  clear hb
  have HBN := hid (show w.heap.size ∉ (Value.slice VA n vc).ownBlock.toList from fun hb => by have := (HOL.out _ hb).2; omega)
  refine WK.p 35 (.pointer (some ⟨g0, 0, none⟩)) ?_
  simp only [Act.put, pA, pB, pC]
  refine WK.p 36 (.pointer (some ⟨g0, 0, none⟩)) ?_
  simp only [Act.put, pA, pB, pC]
  refine WK.p 37 (.pointer (some ⟨g0, 0, none⟩)) ?_
  simp only [Act.put, pA, pB, pC]
  refine WK.p 38 (.pointer (some ⟨g0, 0, none⟩)) ?_
  simp only [Act.put, pA, pB, pC]
  refine WK.q 39 (.slice VA n vc) rfl (fun w' hk => by have ce := (HX.out.kept hk HGN.out).k 0; go_simp) ?_
  simp only [Act.put, pA, pB, pC]
  refine WK.p 40 (.int .i64 (k : Int)) ?_
  simp only [Act.put, pA, pB, pC]
  refine WK.q 41 (sgv nm A' m c' rt) rfl (fun w' hk => by obtain ⟨x0, x1, x2⟩ := box3b (HB.out.kept hk HBN.out); go_simp) ?_
  simp only [Act.put, pA, pB, pC]
  refine WK.act 42 (v := .slice (some ⟨wd.heap.size, 0, none⟩) 1 1) (w' := wd.alloc (.cells #[str nm, .slice A' m c', .int .i64 rt] 53)) rfl (by go_simp) ((Ext.alloc _ _).kept _) ?_
  simp only [Act.put, pA, pB, pC]
  obtain ⟨gl, hgl2⟩ : ∃ gl, wd.heap.size = gl := ⟨_, rfl⟩
  have HBL := hid (show Box (wd.alloc (.cells #[str nm, .slice A' m c', .int .i64 rt] 53)) gl #[str nm, .slice A' m c', .int .i64 rt] 53 by rw [← hgl2]; exact Box.new _ _ _)
  rw [hgl2]
  have HGL := hid (show w.heap.size ≤ gl by rw [← hgl2]; exact E.out.size)
  replace E := hid (E.out.alloc' (.cells #[str nm, .slice A' m c', .int .i64 rt] 53))
  replace HX := hid (HX.out.alloc (.cells #[str nm, .slice A' m c', .int .i64 rt] 53))
  obtain ⟨W1, hW1⟩ : ∃ W1, W1 = wd.alloc (.cells #[str nm, .slice A' m c', .int .i64 rt] 53) := ⟨_, rfl⟩
  have hkp1 : Kept (Value.slice VA n vc).ownBlock.toList wd W1 := by rw [hW1]; exact (Ext.alloc _ _).kept _
  rw [← hW1] at HBL E HX ⊢
  clear hW1 hgl2 hkp1 HB
  have hrow1 : W1.ownsRow base 53 3 (.slice VA n vc) n xs := by
   have := kframe HROW.out fun b _ hb => E.out.block b hb
   rwa [HLN.out] at this
  have hsc1 : SgC (gp (nmP g0 (.slice VA n vc)) W1) l xs := by
   have := HSC.out.sub (gp_mono (q := nmP g0 (.slice VA l.length vc)) E.out.size fun b hb hp => ⟨hp, E.out.block b hb⟩)
   rwa [HLN.out] at this
  have his1 : Ints (gp (nmP g0 (.slice VA n vc)) W1) s.args (.slice A' s.args.length c') := by
   have := HHS.out.sub (gp_mono (q := nmP g0 (.slice VA l.length vc)) E.out.size fun b hb hp => ⟨hp, E.out.block b hb⟩)
   rwa [HLN.out] at this
  refine WK.c 43 ((insert_t (k := k) hrow1 HBL.out (by intro u hu; simp at hu; rcases hu with rfl | rfl | rfl <;> rfl) hsc1.cell1 (by omega) (by have := HKL.out; rw [HLN.out] at this; exact this) (fun e => by have := (HOL.out gl (by rw [e]; simp)).2; have := HGL.out; omega) (Nat.le_trans hbase E.out.size)).mono ?_)
  rintro e W2 ⟨v', rfl, hro, hk2, hov⟩
  refine ⟨_, rfl, hk2, ?_⟩
  obtain ⟨VB, vb, rfl, hvb1, hvb2⟩ := kshape hro
  have HRO := hid hro
  have HK2 := hid hk2
  have HOV := hid hov
  have HX2 := hid (HX.out.kept hk2 HGN.out)
  have HSC1 := hid hsc1
  have HIS1 := hid his1
  clear hro hk2 hov hrow1 hsc1 his1 HBL
  simp only [Act.put, pA, pB, pC]
  refine WK.p 44 (.pointer (some ⟨g0, 0, none⟩)) ?_
  simp only [Act.put, pA, pB, pC]
  refine WK.p 45 (.pointer (some ⟨g0, 0, none⟩)) ?_
  simp only [Act.put, pA, pB, pC]
  have hc0 := HX2.out.k 0
  have hf0 := HX2.out.free 0
  have hl0 := HX2.out.lt
  refine WK.st (w' := W2.setCell ⟨g0, 0, none⟩ (.slice VB (n + 1) vb)) ?_
  refine WK.done ?_
  have HFIN := hid (show NmSt base g0 w (.slice VA n vc) (M.kadd s (l, ok)) (W2.setCell ⟨g0, 0, none⟩ (.slice VB (n + 1) vb)) by
   rw [HKF.out]
   have hset : ∀ b, b ≠ g0 → (W2.setCell ⟨g0, 0, none⟩ (.slice VB (n + 1) vb)).heap[b]? = W2.heap[b]? := fun b hb => Below.heap_setCell _ _ _ _ (show b ≠ g0 from hb)
   have hgW : g0 < W1.heap.size := HX.out.lt
   have hS : Sub (gp (nmP g0 (.slice VA n vc)) W1) (gp (nmP g0 (.slice VB (n + 1) vb)) (W2.setCell ⟨g0, 0, none⟩ (.slice VB (n + 1) vb))) := gp_mono (by simpa using HK2.out.1.size) fun b hb hp => by
    refine ⟨⟨hp.1, fun e => ?_⟩, ?_⟩
    ·rcases HOV.out with h | ⟨b', h1, h2⟩
     ·rw [h] at e; exact hp.2 e
     ·rw [h2] at e; injection e with e; omega
    ·rw [hset b hp.1]
     exact HK2.out.2 b hb (fun hx => hp.2 (by simpa using hx))
   obtain ⟨t1, t2⟩ := SgC.take k (HSC1.out.sub hS)
   obtain ⟨e1, e2, e3⟩ := HSM.out
   have one : SgC (gp (nmP g0 (.slice VB (n + 1) vb)) (W2.setCell ⟨g0, 0, none⟩ (.slice VB (n + 1) vb))) [s] [str nm, .slice A' m c', .int .i64 rt] := by
    refine ⟨A', s.args.length, c', [], by rw [e1, e2, e3], HIS1.out.sub hS, rfl⟩
   have hln := HLN.out
   have hkl := HKL.out
   refine ⟨.slice VB (n + 1) vb, ⟨HX2.out.setAt 0 _, fun e => ?_, _, ?_, (t1.app one).app t2⟩, ⟨?_, fun b hb hx => ?_⟩, ?_⟩
   ·rcases HOV.out with h | ⟨b', h1, h2⟩
    ·rw [h] at e; exact HNG.out e
    ·rw [h2] at e; injection e with e; omega
   ·have hlen2 : (l.take k ++ [s] ++ l.drop k).length = n + 1 := by simp; omega
    show World.ownsRow _ base 53 3 _ (l.take k ++ [s] ++ l.drop k).length _
    rw [hlen2]
    exact kframe HRO.out fun b hb1 hb2 => hset b (by omega)
   ·exact ((Below.mono E.out (Nat.zero_le _)).trans HK2.out.1).trans ((Below.refl 0 W2).setCell (Nat.zero_le _) _)
   ·simp only [List.mem_cons, not_or] at hx
    rw [hset b hx.1, HK2.out.2 b (Nat.lt_of_lt_of_le hb E.out.size) hx.2, E.out.block b hb]
   ·exact HOV.out.imp id fun ⟨b, h1, h2⟩ => ⟨b, Nat.le_trans E.out.size h1, h2⟩)
  clear hc0 hf0 hl0
  go_wp2_with fail
  refine bodyPost_end (results_none rfl _ _ _) rfl ?_
  exact ⟨rfl, HFIN.out⟩
end Go.Proofs.YtaoboilkpgphaaaDoor.Q
