/-
  Layer 12's laws: what a node that Make gives is worth, mathematics.
-/
import Derived.Test.YtkhmgdfhggejaaaGreatDoorWVK
namespace Go.Proofs.YtkhmgdfhggejaaaGreatDoor.Q
set_option linter.unusedSimpArgs false
set_option linter.unusedVariables false
open Go.RowKit
namespace M
theorem kcheck_cnt {op : Int} {l : List Tm} (h : kcheck op l = 0) : 1 + kcnts l ≤ 400 := by
 unfold kcheck at h
 split at h
 ·simp at h
 ·split at h
  ·rename_i h2 
   exact absurd h h2
  ·split at h
   ·simp at h
   ·omega
theorem kiss_of : ∀ {l : List Tm}, kIss l = true → kiss l = true
 | [], _ => by rw [kiss]
 | t :: r, h => by
  unfold kIss at h
  rw [List.all_cons, Bool.and_eq_true] at h
  rw [kiss, Bool.and_eq_true]
  refine ⟨?_, kiss_of h.2⟩
  have h1 := h.1
  unfold kIs at h1
  rw [Bool.and_eq_true] at h1
  exact h1.2
theorem mk_is {op : Int} {l : List Tm} (h1 : 5 ≤ op) (h2 : op ≤ 22) (ha : kargs op l.length = true) (hl : kIss l = true) (hc : kcheck op l = 0) : kmake op l = (.mk op false [] [] (kres op l) l, 0) ∧ kIs (.mk op false [] [] (kres op l) l) = true := by
 constructor
 ·unfold kmake
  rw [if_neg (by omega), if_neg (by rw [ha]; simp), if_neg (by rw [hl]; simp), if_neg (by rw [hc]; simp)]
 ·unfold kIs
  rw [Bool.and_eq_true]
  refine ⟨decide_eq_true ?_, ?_⟩
  ·rw [kcnt]; exact kcheck_cnt hc
  ·rw [kis, Bool.and_eq_true]
   refine ⟨kiss_of hl, ?_⟩
   unfold khead
   rw [if_neg (by omega), if_neg (by omega), if_neg (by omega), ha, hc, decide_eq_true (show (5 ≤ op ∧ op ≤ 22) from ⟨h1, h2⟩)]
   simp
   decide +kernel
theorem evs_is {m : List Fn} {l : List Tm} (hl : kIss l = true) : evs (mRead m) l = l.map (mEval m) := by
 rw [evs_map]
 refine List.map_congr_left fun t ht => ?_
 unfold mEval
 rw [if_pos (List.all_eq_true.1 hl t ht)]
theorem vIs_truth (b : Bool) : vIs (vTruth b) 1 = true := by cases b <;> kernel_rfl
theorem vIs_zero {s : Int} (h : s = 1 ∨ s = 2) : vIs (s, false, []) s = true := by rcases h with rfl | rfl <;> kernel_rfl
theorem mOf_is {m : List Fn} (hm : ∀ f ∈ m, fnIs f = true) {s : Sg} (hs : s.ret = 1 ∨ s.ret = 2) (l : List Vl) : vIs (mOf m s l) s.ret = true := by
 unfold mOf
 split
 ·exact vIs_zero hs
 ·rename_i f hf
  have h1 : f.sg = s := by simpa using List.find?_some hf
  have h2 := hm f (List.mem_of_find?_eq_some hf)
  unfold fnIs at h2
  rw [Bool.and_eq_true, Bool.and_eq_true] at h2
  split
  ·rename_i r hr
   have h3 := List.all_eq_true.1 h2.2.2 r (List.mem_of_find?_eq_some hr)
   rw [Bool.and_eq_true, h1] at h3
   exact h3.2
  ·rw [← h1]; exact h2.2.1
theorem vIs_one {x : Vl} (h : vIs x 1 = true) : x.1 = 1 ∧ (cz x = 0 ∨ cz x = 1) := by
 unfold vIs at h
 simp only [Bool.and_eq_true, Bool.or_eq_true, decide_eq_true_eq] at h
 exact ⟨h.1, h.2.2.resolve_left (by decide)⟩
theorem vIs_two {x : Vl} (h : vIs x 2 = true) : x.1 = 2 ∧ M.isZ x.2.1 x.2.2 = true := by
 unfold vIs at h
 simp only [Bool.and_eq_true, decide_eq_true_eq] at h
 exact ⟨h.1, h.2.1⟩
theorem ev_is {m : List Fn} (hm : ∀ f ∈ m, fnIs f = true) (t : Tm) : kis t = true → vIs (ev m t) t.sort = true := by
 refine Tm.indA (P := fun t => kis t = true → vIs (ev m t) t.sort = true) (fun op g ls nm s ks ih h => ?_) t
 rw [kis_mk, Bool.and_eq_true] at h
 obtain ⟨hk, hh⟩ := h
 show vIs (ev m (.mk op g ls nm s ks)) s = true
 rw [ev]
 by_cases h1 : op = 1
 ·unfold khead at hh
  rw [if_pos h1] at hh ⊢
  simp only [Bool.and_eq_true, decide_eq_true_eq] at hh
  obtain ⟨hz, -, rfl, -⟩ := hh
  unfold vIs
  rw [hz]; rfl
 rw [if_neg h1]
 by_cases h2 : op = 2
 ·unfold khead at hh
  rw [if_neg h1, if_pos (Or.inl h2)] at hh
  simp only [Bool.and_eq_true, decide_eq_true_eq] at hh
  obtain ⟨-, -, rfl, -⟩ := hh
  rw [if_pos h2]; exact vIs_truth true
 rw [if_neg h2]
 by_cases h3 : op = 3
 ·unfold khead at hh
  rw [if_neg h1, if_pos (Or.inr h3)] at hh
  simp only [Bool.and_eq_true, decide_eq_true_eq] at hh
  obtain ⟨-, -, rfl, -⟩ := hh
  rw [if_pos h3]; exact vIs_truth false
 rw [if_neg h3]
 by_cases h4 : op = 4
 ·unfold khead at hh
  rw [if_neg h1, if_neg (by omega), if_pos h4] at hh
  simp only [Bool.and_eq_true, decide_eq_true_eq] at hh
  rw [if_pos h4]
  exact mOf_is hm (s := ⟨nm, (evs m ks).map (·.1), s⟩) hh.2.2.2 _
 rw [if_neg h4]
 obtain ⟨ho1, ho2, ha, hc, hs⟩ := khead_op hh h1 h2 h3 h4
 by_cases h12 : op = 12
 ·subst h12
  obtain ⟨x, y, z, rfl⟩ := three_of (kargs_three ha)
  have hso : y.sort = z.sort := by
   unfold kcheck at hc
   split at hc
   ·simp at hc
   ·rename_i hq
    have hq' : ksorted 12 [x, y, z] = true := by simpa using hq
    unfold ksorted at hq'
    rw [if_neg (by decide), if_pos rfl, Bool.and_eq_true] at hq'
    exact of_decide_eq_true hq'.2
  have hsy : s = y.sort := by rw [hs]; unfold kres; rw [if_neg (by decide), if_pos rfl]; rfl
  rw [if_pos rfl, evs_map]
  have hy := ih 1 y rfl (kiss_at hk (k := 1) rfl)
  have hz := ih 2 z rfl (kiss_at hk (k := 2) rfl)
  split
  ·rw [hsy]; exact hy
  ·rw [hsy, hso]; exact hz
 rw [if_neg h12]
 by_cases hs2 : s = 2
 ·rw [if_pos hs2, hs2]; exact vIs_vz _
 ·rw [if_neg hs2]
  have : s = 1 := by
   rw [hs] at hs2 ⊢
   unfold kres at hs2 ⊢
   split at hs2
   ·exact absurd rfl hs2
   ·rename_i hq
    rw [if_neg hq, if_neg h12]
  rw [this]; exact vIs_truth _
theorem eval_is {m : List Fn} {t : Tm} (h : kIs t = true) : vIs (mEval m t) t.sort = true := by
 unfold mEval
 rw [if_pos h]
 unfold kIs at h
 rw [Bool.and_eq_true] at h
 refine ev_is (fun f hf => ?_) t h.2
 unfold mRead at hf
 split at hf
 ·rename_i hi
  obtain ⟨k, hk⟩ := List.getElem?_of_mem hf
  exact mIs_fn hi hk
 ·cases hf
theorem eval_mk {op : Int} {l : List Tm} (m : List Fn) (h1 : 5 ≤ op) (h2 : op ≤ 22) (h12 : op ≠ 12) (ha : kargs op l.length = true) (hl : kIss l = true) (hc : kcheck op l = 0) :
 mEval m (kmake op l).1 = if kres op l = 2 then vz 2 (mReck op ((l.map (mEval m)).map cz)) else vTruth (mTold op (l.map (mEval m))) := by
 obtain ⟨hm, hi⟩ := mk_is h1 h2 ha hl hc
 rw [hm]
 show mEval m (.mk op false [] [] (kres op l) l) = _
 rw [mEval, if_pos hi, ev, if_neg (by omega), if_neg (by omega), if_neg (by omega), if_neg (by omega), if_neg h12, evs_is hl]
def vYes (x : Vl) : Bool := decide (x.1 = 1) && decide (cz x ≠ 0)
theorem vIs_eq {x : Vl} (h : vIs x 2 = true) : x = vz 2 (cz x) := by
 obtain ⟨h1, h2⟩ := vIs_two h
 obtain ⟨c1, c2⟩ := canon_isZ h2
 obtain ⟨s, g, ls⟩ := x
 obtain rfl : s = 2 := h1
 show (2, g, ls) = (2, decide (cz (2, g, ls) < 0), M.limbs (cz (2, g, ls)).natAbs)
 rw [← c1, ← c2]
theorem quo_all (A d : Int) (h : d ≠ 0) : d * (A / d) + A % d = A ∧ 0 ≤ A % d ∧ A % d < (d.natAbs : Int) := ⟨Int.mul_ediv_add_emod A d, Int.emod_nonneg A h, Int.emod_lt A h⟩
theorem vYes_holds {x : Vl} (h : vIs x 1 = true) : vYes x = vHolds x := by
 obtain ⟨h1, h2⟩ := vIs_one h
 unfold vYes vHolds
 rw [decide_eq_true h1, Bool.true_and, decide_eq_decide]
 omega
theorem vYes_truth (b : Bool) : vYes (vTruth b) = b := by cases b <;> kernel_rfl
theorem kcnts_one (p : Tm) : kcnts [p] = kcnt p := by rw [kcnts, kcnts, Nat.add_zero]
theorem kcnts_two (p q : Tm) : kcnts [p, q] = kcnt p + kcnt q := by rw [kcnts, kcnts_one]
theorem kIss_one {p : Tm} (hp : kIs p = true) : kIss [p] = true := by unfold kIss; simp [hp]
theorem kIss_two {p q : Tm} (hp : kIs p = true) (hq : kIs q = true) : kIss [p, q] = true := by unfold kIss; simp [hp, hq]
theorem kcheck_of {op : Int} {l : List Tm} (hs : ksorted op l = true) (hl : klin op l = 0) (hc : 1 + kcnts l ≤ 400) : kcheck op l = 0 := by
 unfold kcheck
 rw [if_neg (by rw [hs]; simp), if_neg (by rw [hl]; simp), if_neg (by omega)]
theorem klin_no {op : Int} {l : List Tm} (h1 : op ≠ 15) (h2 : op ≠ 16) (h3 : op ≠ 17) : klin op l = 0 := by
 unfold klin
 rw [if_neg h1, if_neg (by omega)]
theorem kres_one {op : Int} {l : List Tm} (h : op ≠ 12 ∧ (op < 13 ∨ 18 < op)) : kres op l = 1 := by
 unfold kres
 rw [if_neg (by omega), if_neg h.1]
theorem kres_two {op : Int} {l : List Tm} (h : 13 ≤ op ∧ op ≤ 18) : kres op l = 2 := by
 unfold kres
 rw [if_pos (by omega)]
section
variable {m : List Fn} {p q : Tm}
theorem yes_one (hp : kIs p = true) (hs : p.sort = 1) (hc : kcnt p ≤ 120) : vYes (mEval m (kmake 5 [p]).1) = !vYes (mEval m p) := by
 rw [eval_mk m (by decide) (by decide) (by decide) rfl (kIss_one hp) (kcheck_of (by unfold ksorted kall; simp [hs]) (klin_no (by decide) (by decide) (by decide)) (by rw [kcnts_one]; omega)), if_neg (by rw [kres_one (by decide)]; decide), vYes_truth, vYes_holds (hs ▸ eval_is hp)]
 rfl
theorem yes_two {op : Int} (ho : op = 6 ∨ op = 7 ∨ op = 8 ∨ op = 9 ∨ op = 10) (hp : kIs p = true) (hs : p.sort = 1) (hc : kcnt p ≤ 120) (hq : kIs q = true) (hs' : q.sort = 1) (hc' : kcnt q ≤ 120) :
 vYes (mEval m (kmake op [p, q]).1) = mTold op [mEval m p, mEval m q] := by
 rw [eval_mk m (by omega) (by omega) (by omega) (by rcases ho with rfl | rfl | rfl | rfl | rfl <;> rfl) (kIss_two hp hq) (kcheck_of (by rcases ho with rfl | rfl | rfl | rfl | rfl <;> (unfold ksorted kall kat; simp [hs, hs'])) (klin_no (by omega) (by omega) (by omega)) (by rw [kcnts_two]; omega)),
  if_neg (by rw [kres_one (by omega)]; decide), vYes_truth]
 rfl
theorem yes_num {op : Int} (ho : op = 10 ∨ op = 11 ∨ op = 19 ∨ op = 20 ∨ op = 21 ∨ op = 22) (hp : kIs p = true) (hs : p.sort = 2) (hc : kcnt p ≤ 120) (hq : kIs q = true) (hs' : q.sort = 2) (hc' : kcnt q ≤ 120) :
 vYes (mEval m (kmake op [p, q]).1) = mTold op [mEval m p, mEval m q] := by
 rw [eval_mk m (by omega) (by omega) (by omega) (by rcases ho with rfl | rfl | rfl | rfl | rfl | rfl <;> rfl) (kIss_two hp hq) (kcheck_of (by rcases ho with rfl | rfl | rfl | rfl | rfl | rfl <;> (unfold ksorted kall kat; simp [hs, hs'])) (klin_no (by omega) (by omega) (by omega)) (by rw [kcnts_two]; omega)),
  if_neg (by rw [kres_one (by omega)]; decide), vYes_truth]
 rfl
theorem num_add (hp : kIs p = true) (hs : p.sort = 2) (hc : kcnt p ≤ 120) (hq : kIs q = true) (hs' : q.sort = 2) (hc' : kcnt q ≤ 120) :
 mEval m (kmake 13 [p, q]).1 = vz 2 (cz (mEval m p) + cz (mEval m q)) := by
 rw [eval_mk m (by decide) (by decide) (by decide) rfl (kIss_two hp hq) (kcheck_of (by unfold ksorted kall kat; simp [hs, hs']) (klin_no (by decide) (by decide) (by decide)) (by rw [kcnts_two]; omega)), if_pos (kres_two (by decide))]
 unfold mReck mSum
 simp
theorem num_quo {op d : Int} (ho : op = 16 ∨ op = 17) (hd : d ≠ 0) (hn : knum q = some d) (hp : kIs p = true) (hs : p.sort = 2) (hc : kcnt p ≤ 120) (hq : kIs q = true) (hs' : q.sort = 2) (hc' : kcnt q ≤ 120) :
 mEval m (kmake op [p, q]).1 = vz 2 (if op = 16 then cz (mEval m p) / cz (mEval m q) else cz (mEval m p) % cz (mEval m q)) := by
 have hl : klin op [p, q] = 0 := by
  unfold klin
  rw [if_neg (by omega), if_pos (by omega), show kat [p, q] 1 = q from rfl, hn]
  exact if_neg hd
 rw [eval_mk m (by omega) (by omega) (by omega) (by rcases ho with rfl | rfl <;> rfl) (kIss_two hp hq) (kcheck_of (by rcases ho with rfl | rfl <;> (unfold ksorted kall kat; simp [hs, hs'])) hl (by rw [kcnts_two]; omega)), if_pos (kres_two (by omega))]
 rcases ho with rfl | rfl <;> (unfold mReck; simp)
end
end M
set_option maxHeartbeats 4000000 in
theorem vyes_n {m : List M.Fn} {t : M.Tm} {mv v : Value} {w : World} (hm : StrIn w m mv) (ht : IsTm w t v) (hf : M.kfew t = true) (hT : Tab w) : Calls Tryz.prog 11 #[v, mv] w (GivesB w (M.vYes (M.mEval m t))) := by
 have hsh := ht.shape
 obtain ⟨N, nn, nc, A, n, c, rfl, -, -, -, -, -, -⟩ := hsh
 obtain ⟨⟨s, g, ls⟩, hx⟩ : ∃ x, M.mEval m t = x := ⟨_, rfl⟩
 have HEV := hid (show ∀ w', Ext w w' → Calls Tryz.prog 14 #[kv t.op t.g N nn nc t.name t.sort A n c, mv] w' (GivesVW w' (s, g, ls) 20050) from fun w' e => hx ▸ eval_v (hm.up e) (ht.up e) hf (hT.up e))
 rw [hx]
 obtain ⟨op, hop⟩ : ∃ x, t.op = x := ⟨_, rfl⟩
 obtain ⟨tg, hg⟩ : ∃ x, t.g = x := ⟨_, rfl⟩
 obtain ⟨nm, hnm⟩ : ∃ x, t.name = x := ⟨_, rfl⟩
 obtain ⟨so, hso⟩ : ∃ x, t.sort = x := ⟨_, rfl⟩
 obtain ⟨mA, mc, rfl⟩ := hm.list.shape
 rw [hop, hg, hnm, hso] at HEV ⊢
 clear hop hg hnm hso hx hm ht hf hT
 obtain ⟨mn, hmn⟩ : ∃ x, m.length = x := ⟨_, rfl⟩
 rw [hmn] at HEV ⊢
 clear hmn
 obtain ⟨⟨b0, b1, b2, b3, b4, b5⟩, -, -⟩ := boxF6 (Box.new w #[.int .i64 op, .bool tg, .slice N nn nc, str nm, .int .i64 so, .slice A n c] 27)
 go_enter Tryz.func11, Tryz.ntmps11
 go_wp2_with fail
 refine (HEV.out _ (Ext.alloc w _)).mono ?_
 rintro e w1 ⟨v1, rfl, hv1, hx, -⟩
 obtain ⟨N1, n1, c1, rfl, hn1⟩ := hv1
 have HN1 := hid (show LNum w1 (.slice N1 n1 c1) ls from hn1)
 have E := hid ((Ext.alloc w (.cells #[.int .i64 op, .bool tg, .slice N nn nc, str nm, .int .i64 so, .slice A n c] 27)).trans hx)
 clear hx hn1 b0 b1 b2 b3 b4 b5 HEV
 go_upto_region 2 with (fail)
 refine vwp_at (fun W => Box W w1.heap.size #[.int .i64 s, .bool g, .slice N1 n1 c1] 38 ∧ Ext w1 W) ⟨Box.new w1 _ _, Ext.alloc w1 _⟩ ?_
 intro W ⟨hb, he⟩
 obtain ⟨g1, hg1⟩ : ∃ x, w1.heap.size = x := ⟨_, rfl⟩
 rw [hg1] at hb ⊢
 have HN2 := hid (HN1.out.up he)
 replace E := hid (E.out.trans he)
 obtain ⟨⟨d0, d1, d2⟩, -, -⟩ := box3v hb
 clear hb he hg1 HN1
 by_cases hs : s = 1
 ·subst hs
  obtain ⟨y, hy⟩ : ∃ y, (M.zv g ls).sign = y := ⟨_, rfl⟩
  have HSG := hid (rSign_w (worth_tm (g := g) HN2.out) hy)
  have HR := hid (show M.vYes (1, g, ls) = (y != 0) by
   unfold M.vYes
   rw [show decide ((1, g, ls).1 = (1 : Int)) = true from decide_eq_true rfl, Bool.true_and, ← hy, Bool.eq_iff_iff]
   show decide (M.zv g ls ≠ 0) = true ↔ _
   simp [Int.sign_eq_zero_iff_zero])
  clear hy
  go_wp2_with fail
  refine HSG.out.mono ?_
  rintro e w2 ⟨rfl, hx⟩
  replace E := hid (E.out.trans hx)
  clear hx HSG d0 d1 d2
  go_wp2_with fail
  go_ret
  exact ⟨by rw [HR.out]; rfl, E.out⟩
 ·have hs' : (s == 1) = false := by simpa using hs
  have HR := hid (show M.vYes (s, g, ls) = false by
   unfold M.vYes
   rw [show decide ((s, g, ls).1 = (1 : Int)) = false from decide_eq_false hs, Bool.false_and])
  clear hs
  go_wp2_with fail
  go_ret
  exact ⟨by rw [HR.out]; rfl, E.out⟩
theorem OwnTm.lit {B : Nat} {V w : World} {op : Int} {g : Bool} {ls : List Nat} {nm : List UInt8} {so : Int} {ks : List M.Tm} {N A : Option Addr} {nn nc n c : Nat} (hn : LNum V (.slice N nn nc) ls) (hk : Tms V ks (.slice A n c)) (hb : B ≤ w.heap.size) :
 OwnTm B V (w.alloc (.cells #[.int .i64 op, .bool g, .slice N nn nc, str nm, .int .i64 so, .slice A n c] 27)) (.slice (some ⟨w.heap.size, 0, none⟩) 1 1) [.mk op g ls nm so ks] :=
 ⟨[.int .i64 op, .bool g, .slice N nn nc, str nm, .int .i64 so, .slice A n c], World.ownsRow_lit w #[.int .i64 op, .bool g, .slice N nn nc, str nm, .int .i64 so, .slice A n c] 1 hb (by unfold maxLen; omega) rfl, N, nn, nc, A, n, c, [], rfl, hn, hk, rfl⟩
theorem wpList_appTmV {B : Nat} {V w : World} {ops : Array Oper} {rest : List Oper} {o : Oper} {a : Act} {Q : Exit → Act → World → Prop} (hgd : o.guard = none) (s x : Operand)
 (ho : o.op = .call { callee := .builtin .append, args := #[s, x], argTypes := #[25, 25] }) {v : Value} {l m : List M.Tm} {A : Option Addr} {n c : Nat}
 (hs : a.eval s = v) (hx : a.eval x = .slice A n c) (h : OwnTm B V w v l) (hm : TmSrc V w m A n) (hlen : l.length + m.length ≤ 1000000) (hbase : B ≤ w.heap.size)
 (hq : ∀ v' w', OwnTm B V w' v' (l ++ m) → Below B w w' → Kept v.ownBlock.toList w w' → wpList Tryz.prog ops Q rest (a.put o.dst v') w') : wpList Tryz.prog ops Q (o :: rest) a w := by
 obtain ⟨v', w', hr, h2, h3, h4⟩ := appTm_run (c := c) h hm hlen hbase o.type
 refine wpList_plain hgd fun K hK => ?_
 unfold Oper.wp execOp
 simp only [ho, resolve, invoke, builtin, Sem.run_bind, Sem.run_pure, Result.andThen_ok, List.map_toArray, List.map_cons, List.map_nil, hs, hx, hr]
 exact hK _ _ (hq v' w' h2 h3 h4)
set_option maxHeartbeats 8000000 in
set_option maxRecDepth 20000 in
theorem vmade_one {op : Int} {t : M.Tm} {v : Value} {w : World} (ht : IsTm w t v) (hf : M.kfew t = true) (hi : M.kis (M.kmake op [t]).1 = true) : Calls Tryz.prog 12 #[.int .i64 op, v, .pointer none] w (GivesT1 w (M.kmake op [t]).1) := by
 have hsh := ht.shape
 obtain ⟨N, nn, nc, A, n, c, rfl, -, -, -, -, -, -⟩ := hsh
 obtain ⟨⟨T, er⟩, hT⟩ : ∃ r, M.kmake op [t] = r := ⟨_, rfl⟩
 have HMK := hid (show ∀ w' gb, Ext w w' → Box w' gb #[.int .i64 t.op, .bool t.g, .slice N nn nc, str t.name, .int .i64 t.sort, .slice A n c] 27 → Calls Tryz.prog 35 #[.int .i64 op, .slice (some ⟨gb, 0, none⟩) 1 1] w' (GivesTm w' (T, er)) from fun w' gb e hb => hT ▸ kMake_n (tms_one (ht.up e) hb) (by simp [hf]))
 rw [hT] at hi ⊢
 have HI := hid (show M.kis T = true from hi)
 clear hi
 show Calls Tryz.prog 12 _ w (GivesT1 w T)
 obtain ⟨top, hop⟩ : ∃ x, t.op = x := ⟨_, rfl⟩
 obtain ⟨tg, hg⟩ : ∃ x, t.g = x := ⟨_, rfl⟩
 obtain ⟨nm, hnm⟩ : ∃ x, t.name = x := ⟨_, rfl⟩
 obtain ⟨so, hso⟩ : ∃ x, t.sort = x := ⟨_, rfl⟩
 rw [hop, hg, hnm, hso] at HMK ⊢
 clear hop hg hnm hso hT ht hf
 obtain ⟨⟨b0, b1, b2, b3, b4, b5⟩, -, -⟩ := boxF6 ((Box.new w #[.int .i64 top, .bool tg, .slice N nn nc, str nm, .int .i64 so, .slice A n c] 27).alloc (.cells zero6 27))
 go_enter Tryz.func12, Tryz.ntmps12
 go_wp2_with fail
 refine (HMK.out _ _ (((Ext.alloc w _).trans (Ext.alloc _ _)).trans (Ext.alloc _ _)) (Box.at_ (w := (w.alloc _).alloc _) _ _ (by simp))).mono ?_
 rintro e w1 ⟨v1, rfl, hv1, hx⟩
 have HV1 := hid (show IsTm w1 T v1 from hv1)
 obtain ⟨N1, nn1, nc1, A1, n1, c1, rfl, -, -, -, -, -, -⟩ := hv1.shape
 have hbx : Ext ((w.alloc (.cells #[.int .i64 top, .bool tg, .slice N nn nc, str nm, .int .i64 so, .slice A n c] 27)).alloc (.cells zero6 27)) w1 := (Ext.alloc _ _).trans hx
 have HB6 := hid ((Box.at_ (w := w.alloc (.cells #[.int .i64 top, .bool tg, .slice N nn nc, str nm, .int .i64 so, .slice A n c] 27)) (g := w.heap.size + 1) zero6 27 (by simp)).up hbx)
 have E := hid (show Ext w w1 from ((Ext.alloc w _).trans (Ext.alloc _ _)).trans hbx)
 obtain ⟨g6, hg6⟩ : ∃ g, w.heap.size + 1 = g := ⟨_, rfl⟩
 have HGE := hid (show w.heap.size ≤ g6 by omega)
 rw [hg6] at HB6 ⊢
 clear hx hv1 hbx hg6 b0 b1 b2 b3 b4 b5 HMK
 go_upto_region 5 with (fail)
 refine vwp_at (fun W => Box W w1.heap.size #[.int .i64 T.op, .bool T.g, .slice N1 nn1 nc1, str T.name, .int .i64 T.sort, .slice A1 n1 c1] 27 ∧ Box W g6 zero6 27 ∧ Ext w1 W) ⟨Box.new w1 _ _, HB6.out.alloc _, Ext.alloc w1 _⟩ ?_
 intro W ⟨hb8, hb6, he⟩
 obtain ⟨g8, hg8⟩ : ∃ g, w1.heap.size = g := ⟨_, rfl⟩
 have hne : g6 ≠ g8 := by have := HB6.out.lt; omega
 rw [hg8] at hb8 ⊢
 have HV2 := hid (HV1.out.up he)
 have E2 := hid (E.out.trans he)
 have HB2 := hid hb6
 obtain ⟨⟨d0, d1, d2, d3, d4, d5⟩, -, -⟩ := boxF6 hb8
 obtain ⟨⟨r0, r1, r2, r3, r4, r5⟩, ⟨q0, q1, q2, q3, q4, q5⟩, hz⟩ := boxF6 hb6
 clear hb8 hb6 he hg8 HB6 HV1 E
 go_wp2_with fail
 refine bodyPost_ret (v := kv T.op T.g N1 nn1 nc1 T.name T.sort A1 n1 c1) (by simp [results, Tryz.results12, go_sem, r0, r1, r2, r3, r4, r5, hz]) rfl ?_
 exact ⟨_, rfl, isTm_put HB2.out HI.out HV2.out, put6_ext E2.out HGE.out⟩
set_option maxHeartbeats 8000000 in
set_option maxRecDepth 20000 in
theorem vmade_two {op : Int} {t q : M.Tm} {v : Value} {gq : Nat} {N2 A2 : Option Addr} {nn2 nc2 n2 c2 : Nat} {w : World} (ht : IsTm w t v) (hq : IsTm w q (kv q.op q.g N2 nn2 nc2 q.name q.sort A2 n2 c2)) (hbq : Box w gq #[.int .i64 q.op, .bool q.g, .slice N2 nn2 nc2, str q.name, .int .i64 q.sort, .slice A2 n2 c2] 27) (hf : M.kfew t = true) (hf' : M.kfew q = true) (hi : M.kis (M.kmake op [t, q]).1 = true) :
 Calls Tryz.prog 12 #[.int .i64 op, v, .pointer (some ⟨gq, 0, none⟩)] w (GivesT1 w (M.kmake op [t, q]).1) := by
 obtain ⟨top, tg, tls, nm, so, tks⟩ := t
 obtain ⟨qop, qg, qls, qnm, qso, qks⟩ := q
 obtain ⟨N, nn, nc, A, c, rfl, hn, hk⟩ := ht
 obtain ⟨N2', nn2', nc2', A2', c2', e2, hn2, hk2⟩ := hq
 replace hn : LNum w (.slice N nn nc) tls := hn
 obtain ⟨n, hnn⟩ : ∃ n, (M.Tm.mk top tg tls nm so tks).kids.length = n := ⟨_, rfl⟩
 rw [hnn] at hk ⊢
 replace hk : Tms w tks (.slice A n c) := hk
 simp only [Value.agg.injEq, Array.mk.injEq, List.cons.injEq, and_true, Value.slice.injEq, true_and] at e2
 obtain ⟨⟨rfl, rfl, rfl⟩, rfl, rfl, rfl⟩ := e2
 replace hn2 : LNum w (.slice N2 nn2 nc2) qls := hn2
 obtain ⟨n2, hnn2⟩ : ∃ n, (M.Tm.mk qop qg qls qnm qso qks).kids.length = n := ⟨_, rfl⟩
 rw [hnn2] at hbq hk2
 replace hk2 : Tms w qks (.slice A2 n2 c2) := hk2
 clear hnn hnn2
 obtain ⟨⟨T, er⟩, hT⟩ : ∃ r, M.kmake op [.mk top tg tls nm so tks, .mk qop qg qls qnm qso qks] = r := ⟨_, rfl⟩
 have HMK := hid (show ∀ w' v', Tms w' [.mk top tg tls nm so tks, .mk qop qg qls qnm qso qks] v' → Calls Tryz.prog 35 #[.int .i64 op, v'] w' (GivesTm w' (T, er)) from fun w' v' h => hT ▸ kMake_n h (by simp [hf, hf']))
 rw [hT] at hi ⊢
 have HI := hid (show M.kis T = true from hi)
 clear hi
 show Calls Tryz.prog 12 #[.int .i64 op, kv top tg N nn nc nm so A n c, .pointer (some ⟨gq, 0, none⟩)] w (GivesT1 w T)
 have HN := hid hn
 have HK := hid hk
 have HN2 := hid hn2
 have HK2 := hid hk2
 clear hT hf hf' hn hk hn2 hk2
 obtain ⟨⟨b0, b1, b2, b3, b4, b5⟩, -, -⟩ := boxF6 ((Box.new w #[.int .i64 top, .bool tg, .slice N nn nc, str nm, .int .i64 so, .slice A n c] 27).alloc (.cells zero6 27))
 obtain ⟨⟨d0, d1, d2, d3, d4, d5⟩, -, -⟩ := boxF6 (((hbq.alloc (.cells #[.int .i64 top, .bool tg, .slice N nn nc, str nm, .int .i64 so, .slice A n c] 27)).alloc (.cells zero6 27)).alloc (.cells #[.int .i64 top, .bool tg, .slice N nn nc, str nm, .int .i64 so, .slice A n c] 27))
 simp only [M.Tm.op, M.Tm.g, M.Tm.name, M.Tm.sort] at d0 d1 d2 d3 d4 d5
 clear hbq
 go_enter Tryz.func12, Tryz.ntmps12
 go_wp2_with (at_builtin; refine wpList_appTmV (B := w.heap.size + 2) (V := w) (l := [.mk top tg tls nm so tks]) (m := [.mk qop qg qls qnm qso qks]) rfl (.tmp 14) (.tmp 18) rfl rfl rfl ?own ?src ?len ?base ?_)
 case own =>
  have h := (OwnTm.lit (op := top) (g := tg) (nm := nm) (so := so) (B := w.heap.size + 2) (w := (w.alloc (.cells #[.int .i64 top, .bool tg, .slice N nn nc, str nm, .int .i64 so, .slice A n c] 27)).alloc (.cells zero6 27)) HN.out HK.out (by simp)).up (Ext.alloc _ (.cells #[.int .i64 qop, .bool qg, .slice N2 nn2 nc2, str qnm, .int .i64 qso, .slice A2 n2 c2] 27))
  rw [World.size_alloc, World.size_alloc] at h
  exact h
 case src => exact tmSrc_one (Box.at_ (w := ((w.alloc (.cells #[.int .i64 top, .bool tg, .slice N nn nc, str nm, .int .i64 so, .slice A n c] 27)).alloc (.cells zero6 27)).alloc (.cells #[.int .i64 top, .bool tg, .slice N nn nc, str nm, .int .i64 so, .slice A n c] 27)) _ _ (by simp)) HN2.out HK2.out
 case len => simp
 case base => simp
 intro v5 w5 hO5 hB5 hK5
 have hx5 : Ext (((w.alloc (.cells #[.int .i64 top, .bool tg, .slice N nn nc, str nm, .int .i64 so, .slice A n c] 27)).alloc (.cells zero6 27))) w5 := by
  have h1 := Below.trans (B := w.heap.size + 2) (((Ext.alloc ((w.alloc (.cells #[.int .i64 top, .bool tg, .slice N nn nc, str nm, .int .i64 so, .slice A n c] 27)).alloc (.cells zero6 27)) (.cells #[.int .i64 top, .bool tg, .slice N nn nc, str nm, .int .i64 so, .slice A n c] 27)).trans (Ext.alloc _ (.cells #[.int .i64 qop, .bool qg, .slice N2 nn2 nc2, str qnm, .int .i64 qso, .slice A2 n2 c2] 27))).mono (by simp)) hB5
  exact h1.mono (by simp)
 have HB6 := hid ((Box.at_ (w := w.alloc (.cells #[.int .i64 top, .bool tg, .slice N nn nc, str nm, .int .i64 so, .slice A n c] 27)) (g := w.heap.size + 1) zero6 27 (by simp)).up hx5)
 have E := hid (show Ext w w5 from ((Ext.alloc w _).trans (Ext.alloc _ _)).trans hx5)
 have HTS := hid (hO5.tms E.out.sub)
 obtain ⟨A5, c5, rfl, -, -⟩ := hO5.shape
 obtain ⟨g6, hg6⟩ : ∃ g, w.heap.size + 1 = g := ⟨_, rfl⟩
 have HGE := hid (show w.heap.size ≤ g6 by omega)
 rw [hg6] at HB6 ⊢
 clear hx5 hO5 hB5 hK5 hg6 b0 b1 b2 b3 b4 b5 d0 d1 d2 d3 d4 d5
 go_wp2_with fail
 refine (HMK.out _ _ HTS.out).mono ?_
 rintro e w1 ⟨v1, rfl, hv1, hx⟩
 have HV1 := hid (show IsTm w1 T v1 from hv1)
 obtain ⟨N1, nn1, nc1, A1, n1, c1, rfl, -, -, -, -, -, -⟩ := hv1.shape
 replace HB6 := hid (HB6.out.up hx)
 replace E := hid (E.out.trans hx)
 clear hx hv1 HMK HTS
 go_upto_region 5 with (fail)
 refine vwp_at (fun W => Box W w1.heap.size #[.int .i64 T.op, .bool T.g, .slice N1 nn1 nc1, str T.name, .int .i64 T.sort, .slice A1 n1 c1] 27 ∧ Box W g6 zero6 27 ∧ Ext w1 W) ⟨Box.new w1 _ _, HB6.out.alloc _, Ext.alloc w1 _⟩ ?_
 intro W ⟨hb8, hb6, he⟩
 obtain ⟨g8, hg8⟩ : ∃ g, w1.heap.size = g := ⟨_, rfl⟩
 have hne : g6 ≠ g8 := by have := HB6.out.lt; omega
 rw [hg8] at hb8 ⊢
 have HV2 := hid (HV1.out.up he)
 have E2 := hid (E.out.trans he)
 have HB2 := hid hb6
 obtain ⟨⟨d0, d1, d2, d3, d4, d5⟩, -, -⟩ := boxF6 hb8
 obtain ⟨⟨r0, r1, r2, r3, r4, r5⟩, ⟨q0, q1, q2, q3, q4, q5⟩, hz⟩ := boxF6 hb6
 clear hb8 hb6 he hg8 HB6 HV1 E
 go_wp2_with fail
 refine bodyPost_ret (v := kv T.op T.g N1 nn1 nc1 T.name T.sort A1 n1 c1) (by simp [results, Tryz.results12, go_sem, r0, r1, r2, r3, r4, r5, hz]) rfl ?_
 exact ⟨_, rfl, isTm_put HB2.out HI.out HV2.out, put6_ext E2.out HGE.out⟩
end Go.Proofs.YtkhmgdfhggejaaaGreatDoor.Q
