/-
  Layer 12's laws: ValueRules: what the made terms are and are worth, bundled.
-/
import Derived.Test.YtkhmgdfhggejaaaGreatDoorWVQ
import Derived.Test.YtkhmgdfhggejaaaGreatDoorWVP
import Derived.Test.YtkhmgdfhggejaaaGreatDoorWVM
import Derived.Test.YtkhmgdfhggejaaaGreatDoorWRZB
namespace Go.Proofs.YtkhmgdfhggejaaaGreatDoor.Q
set_option linter.unusedSimpArgs false
set_option linter.unusedVariables false
open Go.RowKit
theorem M.fnOk_wdR {f : M.Fn} (h : M.fnOk f) : M.funWd f ∧ M.fnWd 40 f := by
 obtain ⟨h1, h2, h3, h4, h5⟩ := h
 exact ⟨⟨by omega, by omega, by omega, fun r hr => ⟨by have := (h5 r hr).1; omega, fun x hx => by have := (h5 r hr).2.2 x hx; omega, by have := (h5 r hr).2.1; omega⟩, by omega⟩, by omega, fun r hr => by have := (h5 r hr).2.1; omega⟩
namespace M
theorem fewT_parts {t : Tm} (h : vfewT t = true) : kcnt t ≤ 120 ∧ kfew t = true := by
 unfold vfewT at h
 rw [Bool.and_eq_true] at h
 exact ⟨of_decide_eq_true h.1, vfew_kfew h.2⟩
def Ok (T : Tm) : Prop := kis T = true ∧ kfew T = true
theorem made_ok {op : Int} {l : List Tm} (h1 : 5 ≤ op) (h2 : op ≤ 22) (ha : kargs op l.length = true) (hl : kIss l = true) (hc : kcheck op l = 0) (hf : kfews l = true) : Ok (kmake op l).1 := by
 obtain ⟨hm, hi⟩ := mk_is h1 h2 ha hl hc
 rw [hm]
 unfold kIs at hi
 rw [Bool.and_eq_true] at hi
 refine ⟨hi.2, ?_⟩
 show kfew (.mk op false [] [] (kres op l) l) = true
 rw [kfew, hf]
 rfl
theorem kfews_one {p : Tm} (h : kfew p = true) : kfews [p] = true := by rw [kfews, kfews, h]; rfl
theorem kfews_two {p q : Tm} (h : kfew p = true) (h' : kfew q = true) : kfews [p, q] = true := by rw [kfews, h, kfews_one h']; rfl
theorem vSame_bools {x y : Vl} (hx : vIs x 1 = true) (hy : vIs y 1 = true) : vSame x y = (vHolds x == vHolds y) := by
 obtain ⟨h1, h2⟩ := vIs_one hx
 obtain ⟨h3, h4⟩ := vIs_one hy
 unfold vSame vHolds
 rw [h1, h3]
 rcases h2 with h2 | h2 <;> rcases h4 with h4 | h4 <;> rw [h2, h4] <;> rfl
theorem vDist_two (x y : Vl) : vDist [x, y] = !vSame x y := by
 rw [vDist, vDist, vDist]
 simp
theorem vSame_nums {x y : Vl} (hx : vIs x 2 = true) (hy : vIs y 2 = true) : vSame x y = decide (cz x = cz y) := by
 unfold vSame
 rw [(vIs_two hx).1, (vIs_two hy).1]
 rfl
structure RulesB (m : List Fn) (p q : Tm) (x y : Bool) : Prop where
 b5 : Ok (kmake 5 [p]).1 ∧ vYes (mEval m (kmake 5 [p]).1) = !x
 b6 : Ok (kmake 6 [p, q]).1 ∧ vYes (mEval m (kmake 6 [p, q]).1) = (x && y)
 b7 : Ok (kmake 7 [p, q]).1 ∧ vYes (mEval m (kmake 7 [p, q]).1) = (x || y)
 b9 : Ok (kmake 9 [p, q]).1 ∧ vYes (mEval m (kmake 9 [p, q]).1) = (!x || y)
 b8 : Ok (kmake 8 [p, q]).1 ∧ vYes (mEval m (kmake 8 [p, q]).1) = (x != y)
 b10 : Ok (kmake 10 [p, q]).1 ∧ vYes (mEval m (kmake 10 [p, q]).1) = (x == y)
theorem rulesB {m : List Fn} {p q : Tm} (hp' : kIs p = true) (hs : p.sort = 1) (hw : kcnt p ≤ 120 ∧ kfew p = true) (hq' : kIs q = true) (hs' : q.sort = 1) (hw' : kcnt q ≤ 120 ∧ kfew q = true) : RulesB m p q (vYes (mEval m p)) (vYes (mEval m q)) := by
 have hx : vIs (mEval m p) 1 = true := hs ▸ eval_is hp'
 have hy : vIs (mEval m q) 1 = true := hs' ▸ eval_is hq'
 have ok : ∀ op : Int, (op = 6 ∨ op = 7 ∨ op = 8 ∨ op = 9 ∨ op = 10) → Ok (kmake op [p, q]).1 := fun op ho =>
  made_ok (by omega) (by omega) (by rcases ho with rfl | rfl | rfl | rfl | rfl <;> rfl) (kIss_two hp' hq') (kcheck_of (by rcases ho with rfl | rfl | rfl | rfl | rfl <;> (unfold ksorted kall kat; simp [hs, hs'])) (klin_no (by omega) (by omega) (by omega)) (by rw [kcnts_two]; omega)) (kfews_two hw.2 hw'.2)
 have val : ∀ op : Int, (op = 6 ∨ op = 7 ∨ op = 8 ∨ op = 9 ∨ op = 10) → vYes (mEval m (kmake op [p, q]).1) = mTold op [mEval m p, mEval m q] := fun op ho => yes_two ho hp' hs hw.1 hq' hs' hw'.1
 rw [vYes_holds hx, vYes_holds hy]
 refine ⟨⟨?_, ?_⟩, ⟨ok 6 (by decide), ?_⟩, ⟨ok 7 (by decide), ?_⟩, ⟨ok 9 (by decide), ?_⟩, ⟨ok 8 (by decide), ?_⟩, ⟨ok 10 (by decide), ?_⟩⟩
 ·exact made_ok (by decide) (by decide) rfl (kIss_one hp') (kcheck_of (by unfold ksorted kall; simp [hs]) (klin_no (by decide) (by decide) (by decide)) (by rw [kcnts_one]; omega)) (kfews_one hw.2)
 ·rw [yes_one hp' hs hw.1, vYes_holds hx]
 ·rw [val 6 (by decide)]; show ([mEval m p, mEval m q].all vHolds) = _; simp
 ·rw [val 7 (by decide)]; show ([mEval m p, mEval m q].any vHolds) = _; simp
 ·rw [val 9 (by decide)]; rfl
 ·rw [val 8 (by decide)]; show vDist [mEval m p, mEval m q] = _; rw [vDist_two, vSame_bools hx hy]; rfl
 ·rw [val 10 (by decide)]; show vSame (mEval m p) (mEval m q) = _; exact vSame_bools hx hy
structure RulesZ (m : List Fn) (a b : Tm) (X Y : Int) : Prop where
 n19 : Ok (kmake 19 [a, b]).1 ∧ vYes (mEval m (kmake 19 [a, b]).1) = decide (M.zcmp X Y ≤ 0)
 n20 : Ok (kmake 20 [a, b]).1 ∧ vYes (mEval m (kmake 20 [a, b]).1) = decide (M.zcmp X Y < 0)
 n21 : Ok (kmake 21 [a, b]).1 ∧ vYes (mEval m (kmake 21 [a, b]).1) = decide (0 ≤ M.zcmp X Y)
 n22 : Ok (kmake 22 [a, b]).1 ∧ vYes (mEval m (kmake 22 [a, b]).1) = decide (0 < M.zcmp X Y)
 n10 : Ok (kmake 10 [a, b]).1 ∧ vYes (mEval m (kmake 10 [a, b]).1) = (M.zcmp X Y == 0)
 n11 : Ok (kmake 11 [a, b]).1 ∧ vYes (mEval m (kmake 11 [a, b]).1) = (M.zcmp X Y != 0)
 n13 : Ok (kmake 13 [a, b]).1 ∧ mEval m (kmake 13 [a, b]).1 = vz 2 (X + Y)
theorem zcmp_all (X Y : Int) : decide (X ≤ Y) = decide (M.zcmp X Y ≤ 0) ∧ decide (X < Y) = decide (M.zcmp X Y < 0) ∧ decide (Y ≤ X) = decide (0 ≤ M.zcmp X Y) ∧ decide (Y < X) = decide (0 < M.zcmp X Y) ∧ decide (X = Y) = (M.zcmp X Y == 0) ∧ (!decide (X = Y)) = (M.zcmp X Y != 0) := by
 rcases (by omega : X < Y ∨ Y < X ∨ X = Y) with h | h | h
 ·rw [M.zcmp_lt h]
  simp
  omega
 ·rw [M.zcmp_gt h]
  simp
  omega
 ·subst h
  rw [M.zcmp_same rfl]
  simp
theorem rulesZ {m : List Fn} {a b : Tm} (hp' : kIs a = true) (hs : a.sort = 2) (hw : kcnt a ≤ 120 ∧ kfew a = true) (hq' : kIs b = true) (hs' : b.sort = 2) (hw' : kcnt b ≤ 120 ∧ kfew b = true) : RulesZ m a b (cz (mEval m a)) (cz (mEval m b)) := by
 have hx : vIs (mEval m a) 2 = true := hs ▸ eval_is hp'
 have hy : vIs (mEval m b) 2 = true := hs' ▸ eval_is hq'
 have ok : ∀ op : Int, (op = 10 ∨ op = 11 ∨ op = 13 ∨ op = 19 ∨ op = 20 ∨ op = 21 ∨ op = 22) → Ok (kmake op [a, b]).1 := fun op ho =>
  made_ok (by omega) (by omega) (by rcases ho with rfl | rfl | rfl | rfl | rfl | rfl | rfl <;> rfl) (kIss_two hp' hq') (kcheck_of (by rcases ho with rfl | rfl | rfl | rfl | rfl | rfl | rfl <;> (unfold ksorted kall kat; simp [hs, hs'])) (klin_no (by omega) (by omega) (by omega)) (by rw [kcnts_two]; omega)) (kfews_two hw.2 hw'.2)
 have val : ∀ op : Int, (op = 10 ∨ op = 11 ∨ op = 19 ∨ op = 20 ∨ op = 21 ∨ op = 22) → vYes (mEval m (kmake op [a, b]).1) = mTold op [mEval m a, mEval m b] := fun op ho => yes_num ho hp' hs hw.1 hq' hs' hw'.1
 obtain ⟨c1, c2, c3, c4, c5, c6⟩ := zcmp_all (cz (mEval m a)) (cz (mEval m b))
 refine ⟨⟨ok 19 (by decide), ?_⟩, ⟨ok 20 (by decide), ?_⟩, ⟨ok 21 (by decide), ?_⟩, ⟨ok 22 (by decide), ?_⟩, ⟨ok 10 (by decide), ?_⟩, ⟨ok 11 (by decide), ?_⟩, ⟨ok 13 (by decide), ?_⟩⟩
 ·rw [val 19 (by decide), ← c1]; rfl
 ·rw [val 20 (by decide), ← c2]; rfl
 ·rw [val 21 (by decide), ← c3]; rfl
 ·rw [val 22 (by decide), ← c4]; rfl
 ·rw [val 10 (by decide), ← c5]; exact vSame_nums hx hy
 ·rw [val 11 (by decide), ← c6]; show vDist [mEval m a, mEval m b] = _; rw [vDist_two, vSame_nums hx hy]
 ·exact num_add hp' hs hw.1 hq' hs' hw'.1
theorem numT_is (Z : Int) : kIs (knumT Z) = true := by
 unfold kIs knumT
 rw [kcnt, kcnts, kis, kiss]
 unfold khead
 rw [if_pos rfl, M.isZ_of]
 rfl
theorem numT_ev (m : List Fn) (Z : Int) : mEval m (knumT Z) = vz 2 Z := by
 unfold mEval
 rw [if_pos (numT_is Z), knumT, ev, if_pos rfl]
 rfl
theorem numT_num (Z : Int) : knum (knumT Z) = some Z := by
 unfold knum
 rw [if_pos (show (knumT Z).op = 1 from rfl)]
 exact congrArg some (M.zv_of Z)
theorem numT_few {Z : Int} (h1 : -32768 ≤ Z) (h2 : Z ≤ 32767) : kfew (knumT Z) = true := by
 have : (M.limbs Z.natAbs).length ≤ 3 := limbs_len3 (by omega)
 rw [knumT, kfew, kfews]
 simp
 omega
structure RulesQ (m : List Fn) (a : Tm) (d X : Int) : Prop where
 n16 : Ok (kmake 16 [a, knumT d]).1 ∧ mEval m (kmake 16 [a, knumT d]).1 = vz 2 (X / d)
 n17 : Ok (kmake 17 [a, knumT d]).1 ∧ mEval m (kmake 17 [a, knumT d]).1 = vz 2 (X % d)
theorem rulesQ {m : List Fn} {a : Tm} {d : Int} (hp' : kIs a = true) (hs : a.sort = 2) (hw : kcnt a ≤ 120 ∧ kfew a = true) (hd : d ≠ 0) (h1 : -32768 ≤ d) (h2 : d ≤ 32767) : RulesQ m a d (cz (mEval m a)) := by
 have hl : ∀ op : Int, (op = 16 ∨ op = 17) → klin op [a, knumT d] = 0 := fun op ho => by
  unfold klin
  rw [if_neg (by omega), if_pos (by omega), show kat [a, knumT d] 1 = knumT d from rfl, numT_num]
  exact if_neg hd
 have hc : kcnt (knumT d) ≤ 120 := by rw [knumT, kcnt, kcnts]; decide
 have ok : ∀ op : Int, (op = 16 ∨ op = 17) → Ok (kmake op [a, knumT d]).1 := fun op ho =>
  made_ok (by omega) (by omega) (by rcases ho with rfl | rfl <;> rfl) (kIss_two hp' (numT_is d)) (kcheck_of (by rcases ho with rfl | rfl <;> (unfold ksorted kall kat; simp [hs, show (knumT d).sort = 2 from rfl])) (hl op ho) (by rw [kcnts_two]; omega)) (kfews_two hw.2 (numT_few h1 h2))
 have val : ∀ op : Int, (op = 16 ∨ op = 17) → mEval m (kmake op [a, knumT d]).1 = vz 2 (if op = 16 then cz (mEval m a) / d else cz (mEval m a) % d) := fun op ho => by
  rw [num_quo ho hd (numT_num d) hp' hs hw.1 (numT_is d) rfl hc, numT_ev, cz_vz]
 exact ⟨⟨ok 16 (by decide), val 16 (by decide)⟩, ⟨ok 17 (by decide), val 17 (by decide)⟩⟩
end M
def GivesNm (w : World) (g : Bool) (Z : Int) (e : Ending) (w' : World) : Prop := ∃ N n c, e = .returned (vv 2 g N n c) ∧ LNum w' (.slice N n c) (M.limbs Z.natAbs) ∧ (M.limbs Z.natAbs).length ≤ 20050 ∧ Ext w w'
theorem eval_num {f : FuncId} {args : Array Value} {w : World} {x : M.Vl} {Z : Int} {g : Bool} (hx : x = M.vz 2 Z) (hg : decide (Z < 0) = g) (h : Calls Tryz.prog f args w (GivesVW w x 20050)) : Calls Tryz.prog f args w (GivesNm w g Z) := by
 subst hx
 refine h.mono ?_
 rintro e w' ⟨v, rfl, ⟨N, n, c, rfl, hn⟩, hb, hl⟩
 exact ⟨N, n, c, by rw [← hg]; rfl, hn, hl, hb⟩
theorem num_worth {w : World} {Z : Int} {g : Bool} {N : Option Addr} {n c k : Nat} (hg : decide (Z < 0) = g) (h : LNum w (.slice N n c) (M.limbs Z.natAbs)) (hk : (M.limbs Z.natAbs).length ≤ k) : Worth w (.agg #[.bool g, .slice N n c]) Z k :=
 worth_of h hk (by rw [← hg]; exact (M.zv_of Z).symm)
theorem made2 {op : Int} {t q : M.Tm} {v : Value} {gq : Nat} {o2 so2 : Int} {g2 : Bool} {nm2 : List UInt8} {N2 A2 : Option Addr} {nn2 nc2 n2 c2 : Nat} {w : World} (he : q.op = o2 ∧ q.g = g2 ∧ q.name = nm2 ∧ q.sort = so2) (ht : IsTm w t v) (hq : IsTm w q (kv o2 g2 N2 nn2 nc2 nm2 so2 A2 n2 c2)) (hbq : Box w gq #[.int .i64 o2, .bool g2, .slice N2 nn2 nc2, str nm2, .int .i64 so2, .slice A2 n2 c2] 27) (hf : M.kfew t = true) (hf' : M.kfew q = true) (hi : M.kis (M.kmake op [t, q]).1 = true) :
 Calls Tryz.prog 12 #[.int .i64 op, v, .pointer (some ⟨gq, 0, none⟩)] w (GivesT1 w (M.kmake op [t, q]).1) := by
 obtain ⟨rfl, rfl, rfl, rfl⟩ := he
 exact vmade_two ht hq hbq hf hf' hi
section
variable {P : Program} {ops : Array Oper} {Q : Exit → Act → World → Prop} {A : Nat → TypeId × Array Value} {B : Nat} {r : List (Nat × Nat)} {G : List Nat} {a : Act} {w : World} {i : Nat}
theorem WE.opt (n : Nat) (b : Bool) (v : Value) {o : Oper} (ho : ops[i]? = some o) (hw : Region.wanted o (yielded ops a.tmps) = b) (hy : ∀ w', b = true → (execOp a.eval o).run P w' = .ok (.value v) w')
 (h : ∀ u, (b = true → u = v) → WE P ops Q A B r G (a.put (some n) u) w) (hd : o.dst = some n := by exact rfl) : WE P ops Q A B ((i, 0) :: r) G a w := by
 cases b
 ·exact WE.skip ho hd hw (h _ (fun h => by cases h))
 ·exact WE.pure ho hd hw (fun w' _ => hy w' rfl) (h _ (fun _ => rfl))
end
section
variable {ops : Array Oper} {Q : Exit → Act → World → Prop} {A : Nat → TypeId × Array Value} {B : Nat} {r : List (Nat × Nat)} {G : List Nat} {a : Act} {w X : World} {i : Nat} {o : Oper}
theorem WE.ld (n : Nat) {g : Nat} {op so : Int} {tg : Bool} {tn : List UInt8} {N K : Option Addr} {nn nc k c : Nat} {s : Operand} (hb : Box w g #[.int .i64 op, .bool tg, .slice N nn nc, str tn, .int .i64 so, .slice K k c] 27)
 (h : WE Tryz.prog ops Q A B r G (a.put (some n) (kv op tg N nn nc tn so K k c)) w) (ho : ops[i]? = some o := by exact rfl) (hop : o.op = .load 27 s := by exact rfl) (hs : a.eval s = .pointer (some ⟨g, 0, none⟩) := by exact rfl) (hd : o.dst = some n := by exact rfl)
 (hw : Region.wanted o (yielded ops a.tmps) = true := by rfl) : WE Tryz.prog ops Q A B ((i, 0) :: r) G a w := by
 refine WE.q n _ ho (fun w' hk => ?_) h hd hw
 obtain ⟨⟨x0, x1, x2, x3, x4, x5⟩, -, -⟩ := boxF6 (hb.up hk)
 unfold execOp
 simp only [hop, hs]
 go_simp
theorem WE.cB (n : Nat) {f : FuncId} {args : Array Value} {z : Bool} (E : Hid (Ext X w)) (hc : Calls Tryz.prog f args w (GivesB w z)) (h : ∀ w', Hid (Ext X w') → WE Tryz.prog ops Q A B r G (a.put (some n) (.bool z)) w') (ho : ops[i]? = some o := by exact rfl) (hd : o.dst = some n := by exact rfl)
 (hw : Region.wanted o (yielded ops a.tmps) = true := by rfl) (he : (execOp a.eval o).run Tryz.prog w = .ok (.enter f args) w := by go_simp) : WE Tryz.prog ops Q A B ((i, 1) :: r) G a w :=
 WE.c n (hc.mono fun e w' ⟨h1, hb⟩ => ⟨_, h1, hb, h w' (hid (E.out.trans hb))⟩) ho hd hw he
theorem WE.cT (n : Nat) {f : FuncId} {args : Array Value} {T : M.Tm} (E : Hid (Ext X w)) (hc : Calls Tryz.prog f args w (GivesT1 w T)) (h : ∀ v w', Hid (IsTm w' T v) → Hid (Ext X w') → WE Tryz.prog ops Q A B r G (a.put (some n) v) w') (ho : ops[i]? = some o := by exact rfl) (hd : o.dst = some n := by exact rfl)
 (hw : Region.wanted o (yielded ops a.tmps) = true := by rfl) (he : (execOp a.eval o).run Tryz.prog w = .ok (.enter f args) w := by go_simp) : WE Tryz.prog ops Q A B ((i, 1) :: r) G a w :=
 WE.c n (hc.mono fun e w' ⟨v, h1, hv, hb⟩ => ⟨v, h1, hb, h v w' (hid hv) (hid (E.out.trans hb))⟩) ho hd hw he
end
structure RF (W : World) (m : List M.Fn) (mv vP : Value) (p q : M.Tm) (g : Nat) : Prop where
 hm : ∀ w', Ext W w' → StrIn w' m mv
 ht : ∀ w', Ext W w' → Tab w'
 two : ∀ op, M.Ok (M.kmake op [p, q]).1 → ∀ w', Ext W w' → Calls Tryz.prog 12 #[.int .i64 op, vP, .pointer (some ⟨g, 0, none⟩)] w' (GivesT1 w' (M.kmake op [p, q]).1)
theorem RF.mk_ {W : World} {m : List M.Fn} {mv vP : Value} {p q : M.Tm} {g : Nat} {o2 so2 : Int} {g2 : Bool} {nm2 : List UInt8} {N2 A2 : Option Addr} {nn2 nc2 n2 c2 : Nat} (hm : ∀ w', Ext W w' → StrIn w' m mv) (ht : ∀ w', Ext W w' → Tab w') (hp : ∀ w', Ext W w' → IsTm w' p vP) (he : q.op = o2 ∧ q.g = g2 ∧ q.name = nm2) (hs : q.sort = so2) (hq : ∀ w', Ext W w' → IsTm w' q (kv o2 g2 N2 nn2 nc2 nm2 so2 A2 n2 c2)) (hb : Box W g #[.int .i64 o2, .bool g2, .slice N2 nn2 nc2, str nm2, .int .i64 so2, .slice A2 n2 c2] 27) (hf : M.kfew p = true) (hf' : M.kfew q = true) : RF W m mv vP p q g :=
 ⟨hm, ht, fun op h w' e => made2 ⟨he.1, he.2.1, he.2.2, hs⟩ (hp w' e) (hq w' e) (hb.up e) hf hf' h.1⟩
theorem yes_of {W : World} {m : List M.Fn} {mv : Value} (hm : ∀ w', Ext W w' → StrIn w' m mv) (ht : ∀ w', Ext W w' → Tab w') {T : M.Tm} {z : Bool} (h : M.Ok T ∧ M.vYes (M.mEval m T) = z) : Hid (∀ w' v', Ext W w' → IsTm w' T v' → Calls Tryz.prog 11 #[v', mv] w' (GivesB w' z)) :=
 hid fun w' v' e hv => h.2 ▸ vyes_n (hm w' e) hv h.1.2 (ht w' e)
theorem RF.yes {W : World} {m : List M.Fn} {mv vP : Value} {p q : M.Tm} {g : Nat} (R : RF W m mv vP p q g) {op : Int} {e : Bool} (h : M.Ok (M.kmake op [p, q]).1 ∧ M.vYes (M.mEval m (M.kmake op [p, q]).1) = e) :
 ∃ T z, Hid (e = z) ∧ Hid (∀ w', Ext W w' → Calls Tryz.prog 12 #[.int .i64 op, vP, .pointer (some ⟨g, 0, none⟩)] w' (GivesT1 w' T)) ∧ Hid (∀ w' v', Ext W w' → IsTm w' T v' → Calls Tryz.prog 11 #[v', mv] w' (GivesB w' z)) :=
 ⟨_, _, hid rfl, hid (R.two op h.1), yes_of R.hm R.ht h⟩
theorem subTo {w : World} {u v : Value} {Z Y R : Int} {j k : Nat} (hu : Worth w u Z j) (hv : Worth w v Y k) (hj : j ≤ 100000000) (hk : k ≤ 100000000) (h : Z - Y = R) : Calls Tryz.prog 16 #[u, v] w (GivesZ w R (max j k + 1)) := h ▸ rSub_w hu hv hj hk
theorem addTo {w : World} {u v : Value} {Z Y R : Int} {j k : Nat} (hu : Worth w u Z j) (hv : Worth w v Y k) (hj : j ≤ 100000000) (hk : k ≤ 100000000) (h : Z + Y = R) : Calls Tryz.prog 18 #[u, v] w (GivesZ w R (max j k + 1)) := h ▸ rAdd_w hu hv hj hk
theorem mulTo {w : World} {u v : Value} {Z Y R : Int} {j k : Nat} (hu : Worth w u Z j) (hv : Worth w v Y k) (hj : j ≤ 1000000) (hk : k ≤ 1000000) (h : Z * Y = R) : Calls Tryz.prog 19 #[u, v] w (GivesZ w R (j + k)) := h ▸ rMul_w hu hv hj hk
theorem absTo {w : World} {u : Value} {Z R : Int} {j : Nat} (hu : Worth w u Z j) (h : (Z.natAbs : Int) = R) : Calls Tryz.prog 22 #[u] w (GivesZ w R j) := h ▸ rAbs_w hu
set_option maxHeartbeats 400000000 in
set_option maxRecDepth 100000 in
theorem rules_v {p q a b : M.Tm} {m : List M.Fn} {vP vQ vA vB mv : Value} {d : Int} {w : World} (hp : IsTm w p vP) (hq : IsTm w q vQ) (ha : IsTm w a vA) (hb : IsTm w b vB) (hm : FnList w m mv) (hd1 : -32768 ≤ d) (hd2 : d ≤ 32767) (hT : Tab w) : Calls Tryz.prog 3 #[vP, vQ, vA, vB, mv, .int .i16 d] w (GivesB w true) := by
 obtain ⟨NP, nnP, ncP, AP, nP, cP, rfl, -, -, -, -, -, -⟩ := hp.shape
 obtain ⟨NQ, nnQ, ncQ, AQ, nQ, cQ, rfl, -, -, -, -, -, -⟩ := hq.shape
 obtain ⟨NA, nnA, ncA, AA, nA, cA, rfl, -, -, -, -, -, -⟩ := ha.shape
 obtain ⟨NB, nnB, ncB, AB, nB, cB, rfl, -, -, -, -, -, -⟩ := hb.shape
 obtain ⟨MA, mc, rfl⟩ := hm.shape
 obtain ⟨fP, hfP⟩ : ∃ z, M.vfewT p = z := ⟨_, rfl⟩
 obtain ⟨iP, hiP⟩ : ∃ z, M.kIs p = z := ⟨_, rfl⟩
 have HFP := hid (show ∀ w', Ext w w' → Calls Tryz.prog 8 #[kv p.op p.g NP nnP ncP p.name p.sort AP nP cP] w' (GivesB w' fP) from fun w' e => hfP ▸ fewTermV_n p (hp.up e))
 have HIP := hid (show M.kfew p = true → ∀ w', Ext w w' → Calls Tryz.prog 10 #[kv p.op p.g NP nnP ncP p.name p.sort AP nP cP] w' (GivesB w' iP) from fun hf w' e => hiP ▸ rkIs_n p (hp.up e) hf)
 have HTP := hid (show ∀ w', Ext w w' → IsTm w' p (kv p.op p.g NP nnP ncP p.name p.sort AP nP cP) from fun w' e => hp.up e)
 have HGP := hid (And.intro hfP hiP)
 obtain ⟨fQ, hfQ⟩ : ∃ z, M.vfewT q = z := ⟨_, rfl⟩
 obtain ⟨iQ, hiQ⟩ : ∃ z, M.kIs q = z := ⟨_, rfl⟩
 have HFQ := hid (show ∀ w', Ext w w' → Calls Tryz.prog 8 #[kv q.op q.g NQ nnQ ncQ q.name q.sort AQ nQ cQ] w' (GivesB w' fQ) from fun w' e => hfQ ▸ fewTermV_n q (hq.up e))
 have HIQ := hid (show M.kfew q = true → ∀ w', Ext w w' → Calls Tryz.prog 10 #[kv q.op q.g NQ nnQ ncQ q.name q.sort AQ nQ cQ] w' (GivesB w' iQ) from fun hf w' e => hiQ ▸ rkIs_n q (hq.up e) hf)
 have HTQ := hid (show ∀ w', Ext w w' → IsTm w' q (kv q.op q.g NQ nnQ ncQ q.name q.sort AQ nQ cQ) from fun w' e => hq.up e)
 have HGQ := hid (And.intro hfQ hiQ)
 obtain ⟨fA, hfA⟩ : ∃ z, M.vfewT a = z := ⟨_, rfl⟩
 obtain ⟨iA, hiA⟩ : ∃ z, M.kIs a = z := ⟨_, rfl⟩
 have HFA := hid (show ∀ w', Ext w w' → Calls Tryz.prog 8 #[kv a.op a.g NA nnA ncA a.name a.sort AA nA cA] w' (GivesB w' fA) from fun w' e => hfA ▸ fewTermV_n a (ha.up e))
 have HIA := hid (show M.kfew a = true → ∀ w', Ext w w' → Calls Tryz.prog 10 #[kv a.op a.g NA nnA ncA a.name a.sort AA nA cA] w' (GivesB w' iA) from fun hf w' e => hiA ▸ rkIs_n a (ha.up e) hf)
 have HTA := hid (show ∀ w', Ext w w' → IsTm w' a (kv a.op a.g NA nnA ncA a.name a.sort AA nA cA) from fun w' e => ha.up e)
 have HGA := hid (And.intro hfA hiA)
 obtain ⟨fB, hfB⟩ : ∃ z, M.vfewT b = z := ⟨_, rfl⟩
 obtain ⟨iB, hiB⟩ : ∃ z, M.kIs b = z := ⟨_, rfl⟩
 have HFB := hid (show ∀ w', Ext w w' → Calls Tryz.prog 8 #[kv b.op b.g NB nnB ncB b.name b.sort AB nB cB] w' (GivesB w' fB) from fun w' e => hfB ▸ fewTermV_n b (hb.up e))
 have HIB := hid (show M.kfew b = true → ∀ w', Ext w w' → Calls Tryz.prog 10 #[kv b.op b.g NB nnB ncB b.name b.sort AB nB cB] w' (GivesB w' iB) from fun hf w' e => hiB ▸ rkIs_n b (hb.up e) hf)
 have HTB := hid (show ∀ w', Ext w w' → IsTm w' b (kv b.op b.g NB nnB ncB b.name b.sort AB nB cB) from fun w' e => hb.up e)
 have HGB := hid (And.intro hfB hiB)
 have HTAB := hid (fun w' (e : Ext w w') => hT.up e)
 have HFL := hid (fun w' (e : Ext w w') => hm.up e)
 have HD := hid (And.intro hd1 hd2)
 obtain ⟨mn, hmn⟩ : ∃ n, m.length = n := ⟨_, rfl⟩
 rw [hmn] at HFL ⊢
 obtain ⟨opP, hopP⟩ : ∃ z, p.op = z := ⟨_, rfl⟩
 obtain ⟨tgP, htgP⟩ : ∃ z, p.g = z := ⟨_, rfl⟩
 obtain ⟨tnP, htnP⟩ : ∃ z, p.name = z := ⟨_, rfl⟩
 obtain ⟨soP, hsoP⟩ : ∃ z, p.sort = z := ⟨_, rfl⟩
 rw [hopP, htgP, htnP, hsoP] at HFP HIP HTP ⊢
 have HSP := hid hsoP
 have HOP := hid (And.intro hopP (And.intro htgP htnP))
 obtain ⟨opQ, hopQ⟩ : ∃ z, q.op = z := ⟨_, rfl⟩
 obtain ⟨tgQ, htgQ⟩ : ∃ z, q.g = z := ⟨_, rfl⟩
 obtain ⟨tnQ, htnQ⟩ : ∃ z, q.name = z := ⟨_, rfl⟩
 obtain ⟨soQ, hsoQ⟩ : ∃ z, q.sort = z := ⟨_, rfl⟩
 rw [hopQ, htgQ, htnQ, hsoQ] at HFQ HIQ HTQ ⊢
 have HSQ := hid hsoQ
 have HOQ := hid (And.intro hopQ (And.intro htgQ htnQ))
 obtain ⟨opA, hopA⟩ : ∃ z, a.op = z := ⟨_, rfl⟩
 obtain ⟨tgA, htgA⟩ : ∃ z, a.g = z := ⟨_, rfl⟩
 obtain ⟨tnA, htnA⟩ : ∃ z, a.name = z := ⟨_, rfl⟩
 obtain ⟨soA, hsoA⟩ : ∃ z, a.sort = z := ⟨_, rfl⟩
 rw [hopA, htgA, htnA, hsoA] at HFA HIA HTA ⊢
 have HSA := hid hsoA
 have HOA := hid (And.intro hopA (And.intro htgA htnA))
 obtain ⟨opB, hopB⟩ : ∃ z, b.op = z := ⟨_, rfl⟩
 obtain ⟨tgB, htgB⟩ : ∃ z, b.g = z := ⟨_, rfl⟩
 obtain ⟨tnB, htnB⟩ : ∃ z, b.name = z := ⟨_, rfl⟩
 obtain ⟨soB, hsoB⟩ : ∃ z, b.sort = z := ⟨_, rfl⟩
 rw [hopB, htgB, htnB, hsoB] at HFB HIB HTB ⊢
 have HSB := hid hsoB
 have HOB := hid (And.intro hopB (And.intro htgB htnB))
 show Calls Tryz.prog 3 #[kv opP tgP NP nnP ncP tnP soP AP nP cP, kv opQ tgQ NQ nnQ ncQ tnQ soQ AQ nQ cQ, kv opA tgA NA nnA ncA tnA soA AA nA cA, kv opB tgB NB nnB ncB tnB soB AB nB cB, .slice MA mn mc, .int .i16 d] w (GivesB w true)
 clear hmn hm hT hd1 hd2 hopP htgP htnP hsoP hfP hiP hp hopQ htgQ htnQ hsoQ hfQ hiQ hq hopA htgA htnA hsoA hfA hiA ha hopB htgB htnB hsoB hfB hiB hb
 go_enter Tryz.func3, Tryz.ntmps3
 go_upto_region 1 with (fail)
 refine vwp_at (fun W => Box W w.heap.size #[.int .i64 opP, .bool tgP, .slice NP nnP ncP, str tnP, .int .i64 soP, .slice AP nP cP] 27 ∧ Box W (w.heap.size + 1) #[.int .i64 opQ, .bool tgQ, .slice NQ nnQ ncQ, str tnQ, .int .i64 soQ, .slice AQ nQ cQ] 27 ∧ Box W (w.heap.size + 2) #[.int .i64 opA, .bool tgA, .slice NA nnA ncA, str tnA, .int .i64 soA, .slice AA nA cA] 27 ∧ Box W (w.heap.size + 3) #[.int .i64 opB, .bool tgB, .slice NB nnB ncB, str tnB, .int .i64 soB, .slice AB nB cB] 27 ∧ Ext w W) ⟨((((Box.new w #[.int .i64 opP, .bool tgP, .slice NP nnP ncP, str tnP, .int .i64 soP, .slice AP nP cP] 27).alloc (.cells #[.int .i64 opQ, .bool tgQ, .slice NQ nnQ ncQ, str tnQ, .int .i64 soQ, .slice AQ nQ cQ] 27)).alloc (.cells #[.int .i64 opA, .bool tgA, .slice NA nnA ncA, str tnA, .int .i64 soA, .slice AA nA cA] 27)).alloc (.cells #[.int .i64 opB, .bool tgB, .slice NB nnB ncB, str tnB, .int .i64 soB, .slice AB nB cB] 27)), (((Box.at_ (w := (w.alloc (.cells #[.int .i64 opP, .bool tgP, .slice NP nnP ncP, str tnP, .int .i64 soP, .slice AP nP cP] 27))) (g := w.heap.size + 1) #[.int .i64 opQ, .bool tgQ, .slice NQ nnQ ncQ, str tnQ, .int .i64 soQ, .slice AQ nQ cQ] 27 (by simp)).alloc (.cells #[.int .i64 opA, .bool tgA, .slice NA nnA ncA, str tnA, .int .i64 soA, .slice AA nA cA] 27)).alloc (.cells #[.int .i64 opB, .bool tgB, .slice NB nnB ncB, str tnB, .int .i64 soB, .slice AB nB cB] 27)), ((Box.at_ (w := ((w.alloc (.cells #[.int .i64 opP, .bool tgP, .slice NP nnP ncP, str tnP, .int .i64 soP, .slice AP nP cP] 27)).alloc (.cells #[.int .i64 opQ, .bool tgQ, .slice NQ nnQ ncQ, str tnQ, .int .i64 soQ, .slice AQ nQ cQ] 27))) (g := w.heap.size + 2) #[.int .i64 opA, .bool tgA, .slice NA nnA ncA, str tnA, .int .i64 soA, .slice AA nA cA] 27 (by simp)).alloc (.cells #[.int .i64 opB, .bool tgB, .slice NB nnB ncB, str tnB, .int .i64 soB, .slice AB nB cB] 27)), Box.at_ (w := (((w.alloc (.cells #[.int .i64 opP, .bool tgP, .slice NP nnP ncP, str tnP, .int .i64 soP, .slice AP nP cP] 27)).alloc (.cells #[.int .i64 opQ, .bool tgQ, .slice NQ nnQ ncQ, str tnQ, .int .i64 soQ, .slice AQ nQ cQ] 27)).alloc (.cells #[.int .i64 opA, .bool tgA, .slice NA nnA ncA, str tnA, .int .i64 soA, .slice AA nA cA] 27))) (g := w.heap.size + 3) #[.int .i64 opB, .bool tgB, .slice NB nnB ncB, str tnB, .int .i64 soB, .slice AB nB cB] 27 (by simp), ((alloc_two w _ _).trans (alloc_two _ _ _))⟩ ?_
 intro W ⟨hb0, hb1, hb2, hb3, he⟩
 obtain ⟨g0, hg0⟩ : ∃ g, w.heap.size = g := ⟨_, rfl⟩
 obtain ⟨g1, hg1⟩ : ∃ g, w.heap.size + 1 = g := ⟨_, rfl⟩
 obtain ⟨g2, hg2⟩ : ∃ g, g1 + 1 = g := ⟨_, rfl⟩
 obtain ⟨g3, hg3⟩ : ∃ g, g2 + 1 = g := ⟨_, rfl⟩
 rw [hg0] at hb0
 rw [hg1] at hb1
 rw [show w.heap.size + 2 = g2 by omega] at hb2
 rw [show w.heap.size + 3 = g3 by omega] at hb3
 simp only [hg1, hg2, hg3]
 rw [hg0]
 have HBP := hid hb0
 have HBQ := hid hb1
 have HBA := hid hb2
 have HBB := hid hb3
 replace HFP := hid (fun w' (e : Ext W w') => HFP.out w' (he.trans e))
 replace HIP := hid (fun hf w' (e : Ext W w') => HIP.out hf w' (he.trans e))
 replace HTP := hid (fun w' (e : Ext W w') => HTP.out w' (he.trans e))
 replace HFQ := hid (fun w' (e : Ext W w') => HFQ.out w' (he.trans e))
 replace HIQ := hid (fun hf w' (e : Ext W w') => HIQ.out hf w' (he.trans e))
 replace HTQ := hid (fun w' (e : Ext W w') => HTQ.out w' (he.trans e))
 replace HFA := hid (fun w' (e : Ext W w') => HFA.out w' (he.trans e))
 replace HIA := hid (fun hf w' (e : Ext W w') => HIA.out hf w' (he.trans e))
 replace HTA := hid (fun w' (e : Ext W w') => HTA.out w' (he.trans e))
 replace HFB := hid (fun w' (e : Ext W w') => HFB.out w' (he.trans e))
 replace HIB := hid (fun hf w' (e : Ext W w') => HIB.out hf w' (he.trans e))
 replace HTB := hid (fun w' (e : Ext W w') => HTB.out w' (he.trans e))
 replace HTAB := hid (fun w' (e : Ext W w') => HTAB.out w' (he.trans e))
 replace HFL := hid (fun w' (e : Ext W w') => HFL.out w' (he.trans e))
 have E00 := hid he
 have E := hid (Ext.refl W)
 clear hb0 hb1 hb2 hb3 he hg0 hg1 hg2 hg3
 go_wp2_with fail
 refine (vknown_n (HTAB.out _ E.out)).mono ?_
 rintro e w1 ⟨rfl, hx⟩
 replace E := hid (E.out.trans hx)
 clear hx
 obtain ⟨⟨b0, b1, b2, b3, b4, b5⟩, -, -⟩ := boxF6 (HBP.out.up E.out)
 go_wp2_with fail
 clear b0 b1 b2 b3 b4 b5
 refine (HFP.out _ E.out).mono ?_
 rintro e w2 ⟨rfl, hx⟩
 replace E := hid (E.out.trans hx)
 clear hx
 cases fP
 case false =>
  go_wp2_with fail
  go_ret
  exact ⟨rfl, E00.out.trans E.out⟩
 have HWP := hid (M.fewT_parts HGP.out.1)
 obtain ⟨⟨b0, b1, b2, b3, b4, b5⟩, -, -⟩ := boxF6 (HBQ.out.up E.out)
 go_wp2_with fail
 clear b0 b1 b2 b3 b4 b5
 refine (HFQ.out _ E.out).mono ?_
 rintro e w2 ⟨rfl, hx⟩
 replace E := hid (E.out.trans hx)
 clear hx
 cases fQ
 case false =>
  go_wp2_with fail
  go_ret
  exact ⟨rfl, E00.out.trans E.out⟩
 have HWQ := hid (M.fewT_parts HGQ.out.1)
 obtain ⟨⟨b0, b1, b2, b3, b4, b5⟩, -, -⟩ := boxF6 (HBA.out.up E.out)
 go_wp2_with fail
 clear b0 b1 b2 b3 b4 b5
 refine (HFA.out _ E.out).mono ?_
 rintro e w2 ⟨rfl, hx⟩
 replace E := hid (E.out.trans hx)
 clear hx
 cases fA
 case false =>
  go_wp2_with fail
  go_ret
  exact ⟨rfl, E00.out.trans E.out⟩
 have HWA := hid (M.fewT_parts HGA.out.1)
 obtain ⟨⟨b0, b1, b2, b3, b4, b5⟩, -, -⟩ := boxF6 (HBB.out.up E.out)
 go_wp2_with fail
 clear b0 b1 b2 b3 b4 b5
 refine (HFB.out _ E.out).mono ?_
 rintro e w2 ⟨rfl, hx⟩
 replace E := hid (E.out.trans hx)
 clear hx
 cases fB
 case false =>
  go_wp2_with fail
  go_ret
  exact ⟨rfl, E00.out.trans E.out⟩
 have HWB := hid (M.fewT_parts HGB.out.1)
 go_wp2_with fail
 refine (fewFuns_v (HFL.out _ E.out)).mono ?_
 rintro e w3 ⟨z, rfl, hx, hq⟩
 have HQ := hid hq
 clear hq
 replace E := hid (E.out.trans hx)
 clear hx
 cases z
 case false =>
  go_wp2_with fail
  go_ret
  exact ⟨rfl, E00.out.trans E.out⟩
 obtain ⟨hfl, hfo⟩ := HQ.out rfl
 have HM := hid (show ∀ w', Ext W w' → StrIn w' m (.slice MA mn mc) from fun w' e => ⟨HFL.out w' e, by omega, fun f hf => (M.fnOk_wdR (hfo f hf)).1, fun f hf => (M.fnOk_wdR (hfo f hf)).2⟩)
 clear hfl hfo HQ HFL
 replace HIP := hid (HIP.out HWP.out.2)
 obtain ⟨⟨b0, b1, b2, b3, b4, b5⟩, -, -⟩ := boxF6 (HBP.out.up E.out)
 go_wp2_with fail
 clear b0 b1 b2 b3 b4 b5
 refine (HIP.out _ E.out).mono ?_
 rintro e w2 ⟨rfl, hx⟩
 replace E := hid (E.out.trans hx)
 clear hx
 clear HIP HFP
 cases iP
 case false =>
  go_wp2_with fail
  go_ret
  exact ⟨rfl, E00.out.trans E.out⟩
 have HKP := hid HGP.out.2
 clear HGP
 replace HIQ := hid (HIQ.out HWQ.out.2)
 obtain ⟨⟨b0, b1, b2, b3, b4, b5⟩, -, -⟩ := boxF6 (HBQ.out.up E.out)
 go_wp2_with fail
 clear b0 b1 b2 b3 b4 b5
 refine (HIQ.out _ E.out).mono ?_
 rintro e w2 ⟨rfl, hx⟩
 replace E := hid (E.out.trans hx)
 clear hx
 clear HIQ HFQ
 cases iQ
 case false =>
  go_wp2_with fail
  go_ret
  exact ⟨rfl, E00.out.trans E.out⟩
 have HKQ := hid HGQ.out.2
 clear HGQ
 replace HIA := hid (HIA.out HWA.out.2)
 obtain ⟨⟨b0, b1, b2, b3, b4, b5⟩, -, -⟩ := boxF6 (HBA.out.up E.out)
 go_wp2_with fail
 clear b0 b1 b2 b3 b4 b5
 refine (HIA.out _ E.out).mono ?_
 rintro e w2 ⟨rfl, hx⟩
 replace E := hid (E.out.trans hx)
 clear hx
 clear HIA HFA
 cases iA
 case false =>
  go_wp2_with fail
  go_ret
  exact ⟨rfl, E00.out.trans E.out⟩
 have HKA := hid HGA.out.2
 clear HGA
 replace HIB := hid (HIB.out HWB.out.2)
 obtain ⟨⟨b0, b1, b2, b3, b4, b5⟩, -, -⟩ := boxF6 (HBB.out.up E.out)
 go_wp2_with fail
 clear b0 b1 b2 b3 b4 b5
 refine (HIB.out _ E.out).mono ?_
 rintro e w2 ⟨rfl, hx⟩
 replace E := hid (E.out.trans hx)
 clear hx
 clear HIB HFB
 cases iB
 case false =>
  go_wp2_with fail
  go_ret
  exact ⟨rfl, E00.out.trans E.out⟩
 have HKB := hid HGB.out.2
 clear HGB
 by_cases hsP : soP = 1
 case neg =>
  have hq1 : (soP == 1) = false := by simpa using hsP
  have hq2 : (soP != 1) = true := by simpa using hsP
  have hz := hid hsP
  clear hsP
  obtain ⟨⟨-, -, -, -, sP, -⟩, -, -⟩ := boxF6 (HBP.out.up E.out)
  go_wp2_with fail
  go_ret
  exact ⟨rfl, E00.out.trans E.out⟩
 subst hsP
 by_cases hsQ : soQ = 1
 case neg =>
  have hq1 : (soQ == 1) = false := by simpa using hsQ
  have hq2 : (soQ != 1) = true := by simpa using hsQ
  have hz := hid hsQ
  clear hsQ
  obtain ⟨⟨-, -, -, -, sP, -⟩, -, -⟩ := boxF6 (HBP.out.up E.out)
  obtain ⟨⟨-, -, -, -, sQ, -⟩, -, -⟩ := boxF6 (HBQ.out.up E.out)
  go_wp2_with fail
  go_ret
  exact ⟨rfl, E00.out.trans E.out⟩
 subst hsQ
 by_cases hsA : soA = 2
 case neg =>
  have hq1 : (soA == 2) = false := by simpa using hsA
  have hq2 : (soA != 2) = true := by simpa using hsA
  have hz := hid hsA
  clear hsA
  obtain ⟨⟨-, -, -, -, sP, -⟩, -, -⟩ := boxF6 (HBP.out.up E.out)
  obtain ⟨⟨-, -, -, -, sQ, -⟩, -, -⟩ := boxF6 (HBQ.out.up E.out)
  obtain ⟨⟨-, -, -, -, sA, -⟩, -, -⟩ := boxF6 (HBA.out.up E.out)
  go_wp2_with fail
  go_ret
  exact ⟨rfl, E00.out.trans E.out⟩
 subst hsA
 by_cases hsB : soB = 2
 case neg =>
  have hq1 : (soB == 2) = false := by simpa using hsB
  have hq2 : (soB != 2) = true := by simpa using hsB
  have hz := hid hsB
  clear hsB
  obtain ⟨⟨-, -, -, -, sP, -⟩, -, -⟩ := boxF6 (HBP.out.up E.out)
  obtain ⟨⟨-, -, -, -, sQ, -⟩, -, -⟩ := boxF6 (HBQ.out.up E.out)
  obtain ⟨⟨-, -, -, -, sA, -⟩, -, -⟩ := boxF6 (HBA.out.up E.out)
  obtain ⟨⟨-, -, -, -, sB, -⟩, -, -⟩ := boxF6 (HBB.out.up E.out)
  go_wp2_with fail
  go_ret
  exact ⟨rfl, E00.out.trans E.out⟩
 subst hsB
 obtain ⟨⟨-, -, -, -, sP, -⟩, -, -⟩ := boxF6 (HBP.out.up E.out)
 obtain ⟨⟨-, -, -, -, sQ, -⟩, -, -⟩ := boxF6 (HBQ.out.up E.out)
 obtain ⟨⟨-, -, -, -, sA, -⟩, -, -⟩ := boxF6 (HBA.out.up E.out)
 obtain ⟨⟨-, -, -, -, sB, -⟩, -, -⟩ := boxF6 (HBB.out.up E.out)
 go_upto_region 5 with (fail)
 clear sP sQ sA sB
 have HX := hid (M.rulesB (m := m) HKP.out HSP.out HWP.out HKQ.out HSQ.out HWQ.out)
 have HY := hid (M.rulesZ (m := m) HKA.out HSA.out HWA.out HKB.out HSB.out HWB.out)
 obtain ⟨x, hx⟩ : ∃ z, M.vYes (M.mEval m p) = z := ⟨_, rfl⟩
 obtain ⟨y, hy⟩ : ∃ z, M.vYes (M.mEval m q) = z := ⟨_, rfl⟩
 rw [hx, hy] at HX
 have HYP := hid (show ∀ w', Ext W w' → Calls Tryz.prog 11 #[kv opP tgP NP nnP ncP tnP 1 AP nP cP, .slice MA mn mc] w' (GivesB w' x) from fun w' e => hx ▸ vyes_n (HM.out w' e) (HTP.out w' e) HWP.out.2 (HTAB.out w' e))
 have HYQ := hid (show ∀ w', Ext W w' → Calls Tryz.prog 11 #[kv opQ tgQ NQ nnQ ncQ tnQ 1 AQ nQ cQ, .slice MA mn mc] w' (GivesB w' y) from fun w' e => hy ▸ vyes_n (HM.out w' e) (HTQ.out w' e) HWQ.out.2 (HTAB.out w' e))
 clear hx hy
 have RB := hid (RF.mk_ HM.out HTAB.out HTP.out HOQ.out HSQ.out HTQ.out HBQ.out HWP.out.2 HWQ.out.2)
 have RZ := hid (RF.mk_ HM.out HTAB.out HTA.out HOB.out HSB.out HTB.out HBB.out HWA.out.2 HWB.out.2)
 obtain ⟨zb5, hzb5⟩ : ∃ z, (!x) = z := ⟨_, rfl⟩
 obtain ⟨Tb5, hTb5⟩ : ∃ T, (M.kmake 5 [p]).1 = T := ⟨_, rfl⟩
 have HMb5 := hid (fun w' (e : Ext W w') => vmade_one (op := 5) (HTP.out w' e) HWP.out.2 HX.out.b5.1.1)
 have HYb5 := yes_of HM.out HTAB.out HX.out.b5
 rw [hTb5] at HMb5 HYb5
 rw [hzb5] at HYb5
 have HZb5 := hid hzb5
 clear hzb5 hTb5
 obtain ⟨Tb6, zb6, HZb6, HMb6, HYb6⟩ := RB.out.yes HX.out.b6
 obtain ⟨Tb7, zb7, HZb7, HMb7, HYb7⟩ := RB.out.yes HX.out.b7
 obtain ⟨Tb9, zb9, HZb9, HMb9, HYb9⟩ := RB.out.yes HX.out.b9
 obtain ⟨Tb8, zb8, HZb8, HMb8, HYb8⟩ := RB.out.yes HX.out.b8
 obtain ⟨Tb10, zb10, HZb10, HMb10, HYb10⟩ := RB.out.yes HX.out.b10
 clear HX
 refine wp_region_D [(0, 0), (1, 0), (3, 0), (4, 0), (2, 1), (5, 1), (6, 0), (7, 0)] fun wd hb => ?_
 replace E := hid (E.out.trans hb)
 clear hb
 refine WE.ld 85 (HBP.out.up E.out) ?_
 refine WE.p 86 (.slice MA mn mc) ?_
 simp only [pX]
 refine WE.ld 88 (HBQ.out.up E.out) ?_
 refine WE.p 89 (.slice MA mn mc) ?_
 simp only [pX]
 refine WE.cB 87 E (HYP.out _ E.out) fun w6 E => ?_
 refine WE.cB 90 E (HYQ.out _ E.out) fun w6 E => ?_
 simp only [pX]
 refine WE.p 13 (.bool x) ?_
 refine WE.p 14 (.bool y) ?_
 simp only [pX]
 refine WE.done ?_
 clear HYP HYQ
 as_aux_lemma =>
 go_upto_region 6 with (fail)
 refine wp_region_S [(0, 0), (1, 1), (2, 0), (3, 1), (4, 0), (5, 0), (6, 0), (7, 0), (8, 1), (9, 0), (10, 1), (11, 0), (12, 0), (13, 0), (14, 0), (15, 0), (16, 0), (17, 0), (18, 0), (19, 1), (20, 0), (21, 1), (22, 0), (23, 0), (24, 0), (25, 0), (26, 0), (27, 0), (28, 0), (29, 0), (30, 1), (31, 0), (32, 1), (33, 0), (34, 0), (35, 0), (36, 0), (37, 0), (38, 0), (39, 0), (40, 0), (41, 0), (42, 1), (43, 0), (44, 1), (45, 0), (46, 0), (47, 0), (48, 0), (49, 0), (50, 0), (51, 0), (52, 1), (53, 0), (54, 1), (55, 0), (56, 0), (57, 0), (58, 0), (59, 0)] fun wd hb => ?_
 replace E := hid (E.out.trans hb)
 clear hb
 refine WE.ld 91 (HBP.out.up E.out) ?_
 refine WE.cT 92 E (HMb5.out _ E.out) fun v7 w6 HV7 E => ?_
 simp only [pX]
 refine WE.p 93 (.slice MA mn mc) ?_
 refine WE.cB 94 E (HYb5.out _ v7 E.out HV7.out) fun w6 E => ?_
 simp only [pX]
 clear HV7
 refine WE.p 95 (.bool x) ?_
 refine WE.q 96 (.bool false) rfl (fun w' hk => by have hi := HZb5.out; subst hi; cases x <;> go_simp) ?_
 simp only [pX]
 refine WE.p 97 (.bool false) ?_
 clear HMb5 HYb5 HZb5
 refine WE.ld 98 (HBP.out.up E.out) ?_
 simp only [pX]
 refine WE.cT 99 E (HMb6.out _ E.out) fun v7 w6 HV7 E => ?_
 refine WE.p 100 (.slice MA mn mc) ?_
 simp only [pX]
 refine WE.cB 101 E (HYb6.out _ v7 E.out HV7.out) fun w6 E => ?_
 clear HV7
 refine WE.p 102 (.bool x) ?_
 simp only [pX]
 refine WE.p 103 (.bool x) ?_
 refine WE.opt 104 (x) (.bool y) rfl (by cases x <;> rfl) (fun w' hb => by cases x <;> first | exact absurd hb (by decide) | go_simp) fun u104 hu => ?_
 have HU := hid hu
 clear hu
 simp only [pX]
 refine WE.q 105 (.bool zb6) rfl (fun w' hk => by have hi := HZb6.out; subst hi; cases x <;> cases y <;> first | (have hu := HU.out rfl; subst hu; go_simp; done) | go_simp) ?_
 clear HU
 refine WE.q 106 (.bool false) rfl (fun w' hk => by cases zb6 <;> go_simp) ?_
 simp only [pX]
 refine WE.p 107 (.bool false) ?_
 refine WE.p 108 (.bool false) ?_
 simp only [pX]
 clear HMb6 HYb6 HZb6
 refine WE.ld 109 (HBP.out.up E.out) ?_
 refine WE.cT 110 E (HMb7.out _ E.out) fun v7 w6 HV7 E => ?_
 simp only [pX]
 refine WE.p 111 (.slice MA mn mc) ?_
 refine WE.cB 112 E (HYb7.out _ v7 E.out HV7.out) fun w6 E => ?_
 simp only [pX]
 clear HV7
 refine WE.p 113 (.bool x) ?_
 refine WE.p 114 (.bool x) ?_
 simp only [pX]
 refine WE.opt 115 (!x) (.bool y) rfl (by cases x <;> rfl) (fun w' hb => by cases x <;> first | exact absurd hb (by decide) | go_simp) fun u115 hu => ?_
 have HU := hid hu
 clear hu
 refine WE.q 116 (.bool zb7) rfl (fun w' hk => by have hi := HZb7.out; subst hi; cases x <;> cases y <;> first | (have hu := HU.out rfl; subst hu; go_simp; done) | go_simp) ?_
 simp only [pX]
 clear HU
 refine WE.q 117 (.bool false) rfl (fun w' hk => by cases zb7 <;> go_simp) ?_
 refine WE.p 118 (.bool false) ?_
 simp only [pX]
 refine WE.p 119 (.bool false) ?_
 clear HMb7 HYb7 HZb7
 refine WE.ld 120 (HBP.out.up E.out) ?_
 simp only [pX]
 refine WE.cT 121 E (HMb9.out _ E.out) fun v7 w6 HV7 E => ?_
 refine WE.p 122 (.slice MA mn mc) ?_
 simp only [pX]
 refine WE.cB 123 E (HYb9.out _ v7 E.out HV7.out) fun w6 E => ?_
 clear HV7
 refine WE.p 124 (.bool x) ?_
 simp only [pX]
 refine WE.q 125 (.bool (!x)) rfl (fun w' hk => by cases x <;> go_simp) ?_
 refine WE.p 126 (.bool (!x)) ?_
 simp only [pX]
 refine WE.opt 127 (x) (.bool y) rfl (by cases x <;> rfl) (fun w' hb => by cases x <;> first | exact absurd hb (by decide) | go_simp) fun u127 hu => ?_
 have HU := hid hu
 clear hu
 refine WE.q 128 (.bool zb9) rfl (fun w' hk => by have hi := HZb9.out; subst hi; cases x <;> cases y <;> first | (have hu := HU.out rfl; subst hu; go_simp; done) | go_simp) ?_
 simp only [pX]
 clear HU
 refine WE.q 129 (.bool false) rfl (fun w' hk => by cases zb9 <;> go_simp) ?_
 refine WE.p 130 (.bool false) ?_
 simp only [pX]
 refine WE.p 131 (.bool false) ?_
 clear HMb9 HYb9 HZb9
 refine WE.ld 132 (HBP.out.up E.out) ?_
 simp only [pX]
 refine WE.cT 133 E (HMb8.out _ E.out) fun v7 w6 HV7 E => ?_
 refine WE.p 134 (.slice MA mn mc) ?_
 simp only [pX]
 refine WE.cB 135 E (HYb8.out _ v7 E.out HV7.out) fun w6 E => ?_
 clear HV7
 refine WE.p 136 (.bool x) ?_
 simp only [pX]
 refine WE.p 137 (.bool y) ?_
 refine WE.q 138 (.bool zb8) rfl (fun w' hk => by have hi := HZb8.out; subst hi; cases x <;> cases y <;> go_simp) ?_
 simp only [pX]
 refine WE.q 139 (.bool false) rfl (fun w' hk => by cases zb8 <;> go_simp) ?_
 refine WE.p 140 (.bool false) ?_
 simp only [pX]
 refine WE.p 141 (.bool false) ?_
 clear HMb8 HYb8 HZb8
 refine WE.ld 142 (HBP.out.up E.out) ?_
 simp only [pX]
 refine WE.cT 143 E (HMb10.out _ E.out) fun v7 w6 HV7 E => ?_
 refine WE.p 144 (.slice MA mn mc) ?_
 simp only [pX]
 refine WE.cB 145 E (HYb10.out _ v7 E.out HV7.out) fun w6 E => ?_
 clear HV7
 refine WE.p 146 (.bool x) ?_
 simp only [pX]
 refine WE.p 147 (.bool y) ?_
 refine WE.q 148 (.bool zb10) rfl (fun w' hk => by have hi := HZb10.out; subst hi; cases x <;> cases y <;> go_simp) ?_
 simp only [pX]
 refine WE.q 149 (.bool false) rfl (fun w' hk => by cases zb10 <;> go_simp) ?_
 refine WE.p 150 (.bool false) ?_
 simp only [pX]
 clear HMb10 HYb10 HZb10
 refine WE.done ?_
 obtain ⟨X, hX⟩ : ∃ z, M.cz (M.mEval m a) = z := ⟨_, rfl⟩
 obtain ⟨Y, hYY⟩ : ∃ z, M.cz (M.mEval m b) = z := ⟨_, rfl⟩
 rw [hX, hYY] at HY
 have HQ := hid (show d ≠ 0 → M.RulesQ m a d X from fun h => hX ▸ M.rulesQ HKA.out HSA.out HWA.out h HD.out.1 HD.out.2)
 have HXA := hid (show M.mEval m a = M.vz 2 X by rw [← hX]; exact M.vIs_eq (HSA.out ▸ M.eval_is HKA.out))
 have HYB := hid (show M.mEval m b = M.vz 2 Y by rw [← hYY]; exact M.vIs_eq (HSB.out ▸ M.eval_is HKB.out))
 clear hX hYY
 obtain ⟨gX, hgX⟩ : ∃ z, decide (X < 0) = z := ⟨_, rfl⟩
 obtain ⟨gY, hgY⟩ : ∃ z, decide (Y < 0) = z := ⟨_, rfl⟩
 have HGX := hid hgX
 have HGY := hid hgY
 have HEA := hid (show ∀ w', Ext W w' → Calls Tryz.prog 14 #[kv opA tgA NA nnA ncA tnA 2 AA nA cA, .slice MA mn mc] w' (GivesNm w' gX X) from fun w' e => eval_num HXA.out HGX.out (eval_v (HM.out w' e) (HTA.out w' e) HWA.out.2 (HTAB.out w' e)))
 have HEB := hid (show ∀ w', Ext W w' → Calls Tryz.prog 14 #[kv opB tgB NB nnB ncB tnB 2 AB nB cB, .slice MA mn mc] w' (GivesNm w' gY Y) from fun w' e => eval_num HYB.out HGY.out (eval_v (HM.out w' e) (HTB.out w' e) HWB.out.2 (HTAB.out w' e)))
 clear hgX hgY
 obtain ⟨c, hc⟩ : ∃ z, M.zcmp X Y = z := ⟨_, rfl⟩
 have HC := hid hc
 obtain ⟨Tn19, zn19, HZn19, HMn19, HYn19⟩ := RZ.out.yes HY.out.n19
 obtain ⟨Tn20, zn20, HZn20, HMn20, HYn20⟩ := RZ.out.yes HY.out.n20
 obtain ⟨Tn21, zn21, HZn21, HMn21, HYn21⟩ := RZ.out.yes HY.out.n21
 obtain ⟨Tn22, zn22, HZn22, HMn22, HYn22⟩ := RZ.out.yes HY.out.n22
 obtain ⟨Tn10, zn10, HZn10, HMn10, HYn10⟩ := RZ.out.yes HY.out.n10
 obtain ⟨Tn11, zn11, HZn11, HMn11, HYn11⟩ := RZ.out.yes HY.out.n11
 rw [hc] at HZn19 HZn20 HZn21 HZn22 HZn10 HZn11
 obtain ⟨Tn13, hTn13⟩ : ∃ T, (M.kmake 13 [a, b]).1 = T := ⟨_, rfl⟩
 have HMn13 := hid (RZ.out.two 13 HY.out.n13.1)
 have Hn13 := hid HY.out.n13
 rw [hTn13] at HMn13 Hn13
 clear hTn13 RB RZ
 clear hc HY
 as_aux_lemma =>
 go_upto_region 8 with (fail)
 refine wp_region_D [(0, 0), (1, 0), (4, 0), (5, 0), (2, 1), (3, 0), (6, 1), (7, 0), (8, 1), (9, 0)] fun wd hb => ?_
 replace E := hid (E.out.trans hb)
 clear hb
 refine WE.ld 151 (HBA.out.up E.out) ?_
 refine WE.p 152 (.slice MA mn mc) ?_
 simp only [pX]
 refine WE.ld 155 (HBB.out.up E.out) ?_
 refine WE.p 156 (.slice MA mn mc) ?_
 simp only [pX]
 refine WE.c 153 ((HEA.out _ E.out).mono ?_)
 rintro e w6 ⟨N1, n1, c1, rfl, hn1, hl1, hb⟩
 refine ⟨_, rfl, hb, ?_⟩
 replace E := hid (E.out.trans hb)
 clear hb
 have HN1 := hid (And.intro hn1 hl1)
 clear hn1 hl1
 simp only [pX]
 refine WE.q 154 (.agg #[.bool gX, .slice N1 n1 c1]) rfl (fun w' hk => by have hf := fun w' => field_vN 2 gX N1 n1 c1 w'; go_simp) ?_
 refine WE.c 157 ((HEB.out _ E.out).mono ?_)
 rintro e w6 ⟨N2, n2, c2, rfl, hn2, hl2, hb⟩
 refine ⟨_, rfl, hb, ?_⟩
 replace E := hid (E.out.trans hb)
 replace HN1 := hid (And.intro (LNum.up HN1.out.1 hb) HN1.out.2)
 clear hb
 have HN2 := hid (And.intro hn2 hl2)
 clear hn2 hl2
 simp only [pX]
 refine WE.q 158 (.agg #[.bool gY, .slice N2 n2 c2]) rfl (fun w' hk => by have hf := fun w' => field_vN 2 gY N2 n2 c2 w'; go_simp) ?_
 refine WE.c 159 ((rCmp_w (num_worth HGX.out HN1.out.1 HN1.out.2) (num_worth HGY.out HN2.out.1 HN2.out.2) HC.out).mono ?_)
 rintro e w6 ⟨rfl, hb⟩
 refine ⟨_, rfl, hb, ?_⟩
 replace E := hid (E.out.trans hb)
 replace HN1 := hid (And.intro (LNum.up HN1.out.1 hb) HN1.out.2)
 replace HN2 := hid (And.intro (LNum.up HN2.out.1 hb) HN2.out.2)
 clear hb
 simp only [pX]
 clear HN1
 clear HN2
 refine WE.p 15 (.int .i64 c) ?_
 simp only [pX]
 refine WE.done ?_
 as_aux_lemma =>
 go_upto_region 9 with (fail)
 refine wp_region_S [(0, 0), (1, 1), (2, 0), (3, 1), (4, 0), (5, 0), (6, 0), (7, 0), (8, 0), (9, 1), (10, 0), (11, 1), (12, 0), (13, 0), (14, 0), (15, 0), (16, 0), (17, 0), (18, 1), (19, 0), (20, 1), (21, 0), (22, 0), (23, 0), (24, 0), (25, 0), (26, 0), (27, 1), (28, 0), (29, 1), (30, 0), (31, 0), (32, 0), (33, 0), (34, 0), (35, 0), (36, 1), (37, 0), (38, 1), (39, 0), (40, 0), (41, 0), (42, 0), (43, 0), (44, 0), (45, 1), (46, 0), (47, 1), (48, 0), (49, 0), (50, 0), (51, 0)] fun wd hb => ?_
 replace E := hid (E.out.trans hb)
 clear hb
 refine WE.ld 160 (HBA.out.up E.out) ?_
 refine WE.cT 161 E (HMn19.out _ E.out) fun v7 w6 HV7 E => ?_
 simp only [pX]
 refine WE.p 162 (.slice MA mn mc) ?_
 refine WE.cB 163 E (HYn19.out _ v7 E.out HV7.out) fun w6 E => ?_
 simp only [pX]
 clear HV7
 refine WE.p 164 (.int .i64 c) ?_
 refine WE.q 165 (.bool zn19) rfl (fun w' hk => by have hi := HZn19.out; subst hi; go_simp) ?_
 simp only [pX]
 refine WE.q 166 (.bool false) rfl (fun w' hk => by cases zn19 <;> go_simp) ?_
 refine WE.p 167 (.bool false) ?_
 simp only [pX]
 clear HMn19 HYn19 HZn19
 refine WE.ld 168 (HBA.out.up E.out) ?_
 refine WE.cT 169 E (HMn20.out _ E.out) fun v7 w6 HV7 E => ?_
 simp only [pX]
 refine WE.p 170 (.slice MA mn mc) ?_
 refine WE.cB 171 E (HYn20.out _ v7 E.out HV7.out) fun w6 E => ?_
 simp only [pX]
 clear HV7
 refine WE.p 172 (.int .i64 c) ?_
 refine WE.q 173 (.bool zn20) rfl (fun w' hk => by have hi := HZn20.out; subst hi; go_simp) ?_
 simp only [pX]
 refine WE.q 174 (.bool false) rfl (fun w' hk => by cases zn20 <;> go_simp) ?_
 refine WE.p 175 (.bool false) ?_
 simp only [pX]
 refine WE.p 176 (.bool false) ?_
 clear HMn20 HYn20 HZn20
 refine WE.ld 177 (HBA.out.up E.out) ?_
 simp only [pX]
 refine WE.cT 178 E (HMn21.out _ E.out) fun v7 w6 HV7 E => ?_
 refine WE.p 179 (.slice MA mn mc) ?_
 simp only [pX]
 refine WE.cB 180 E (HYn21.out _ v7 E.out HV7.out) fun w6 E => ?_
 clear HV7
 refine WE.p 181 (.int .i64 c) ?_
 simp only [pX]
 refine WE.q 182 (.bool zn21) rfl (fun w' hk => by have hi := HZn21.out; subst hi; go_simp) ?_
 refine WE.q 183 (.bool false) rfl (fun w' hk => by cases zn21 <;> go_simp) ?_
 simp only [pX]
 refine WE.p 184 (.bool false) ?_
 refine WE.p 185 (.bool false) ?_
 simp only [pX]
 clear HMn21 HYn21 HZn21
 refine WE.ld 186 (HBA.out.up E.out) ?_
 refine WE.cT 187 E (HMn22.out _ E.out) fun v7 w6 HV7 E => ?_
 simp only [pX]
 refine WE.p 188 (.slice MA mn mc) ?_
 refine WE.cB 189 E (HYn22.out _ v7 E.out HV7.out) fun w6 E => ?_
 simp only [pX]
 clear HV7
 refine WE.p 190 (.int .i64 c) ?_
 refine WE.q 191 (.bool zn22) rfl (fun w' hk => by have hi := HZn22.out; subst hi; go_simp) ?_
 simp only [pX]
 refine WE.q 192 (.bool false) rfl (fun w' hk => by cases zn22 <;> go_simp) ?_
 refine WE.p 193 (.bool false) ?_
 simp only [pX]
 refine WE.p 194 (.bool false) ?_
 clear HMn22 HYn22 HZn22
 refine WE.ld 195 (HBA.out.up E.out) ?_
 simp only [pX]
 refine WE.cT 196 E (HMn10.out _ E.out) fun v7 w6 HV7 E => ?_
 refine WE.p 197 (.slice MA mn mc) ?_
 simp only [pX]
 refine WE.cB 198 E (HYn10.out _ v7 E.out HV7.out) fun w6 E => ?_
 clear HV7
 refine WE.p 199 (.int .i64 c) ?_
 simp only [pX]
 refine WE.q 200 (.bool zn10) rfl (fun w' hk => by have hi := HZn10.out; subst hi; go_simp) ?_
 refine WE.q 201 (.bool false) rfl (fun w' hk => by cases zn10 <;> go_simp) ?_
 simp only [pX]
 refine WE.p 202 (.bool false) ?_
 refine WE.p 203 (.bool false) ?_
 simp only [pX]
 clear HMn10 HYn10 HZn10
 refine WE.ld 204 (HBA.out.up E.out) ?_
 refine WE.cT 205 E (HMn11.out _ E.out) fun v7 w6 HV7 E => ?_
 simp only [pX]
 refine WE.p 206 (.slice MA mn mc) ?_
 refine WE.cB 207 E (HYn11.out _ v7 E.out HV7.out) fun w6 E => ?_
 simp only [pX]
 clear HV7
 refine WE.p 208 (.int .i64 c) ?_
 refine WE.q 209 (.bool zn11) rfl (fun w' hk => by have hi := HZn11.out; subst hi; go_simp) ?_
 simp only [pX]
 refine WE.q 210 (.bool false) rfl (fun w' hk => by cases zn11 <;> go_simp) ?_
 refine WE.p 211 (.bool false) ?_
 simp only [pX]
 clear HMn11 HYn11 HZn11
 refine WE.done ?_
 clear HC
 obtain ⟨⟨b0, b1, b2, b3, b4, b5⟩, -, -⟩ := boxF6 (HBA.out.up E.out)
 go_wp2_with fail
 clear b0 b1 b2 b3 b4 b5
 refine (HMn13.out _ E.out).mono ?_
 rintro e w6 ⟨v7, rfl, hv7, hx⟩
 have HV7 := hid (show IsTm w6 Tn13 v7 from hv7)
 clear hv7
 replace E := hid (E.out.trans hx)
 clear hx
 obtain ⟨gS, hgS⟩ : ∃ z, decide (X + Y < 0) = z := ⟨_, rfl⟩
 have HGS := hid hgS
 clear hgS
 go_wp2_with fail
 refine (eval_num Hn13.out.2 HGS.out (eval_v (HM.out _ E.out) HV7.out Hn13.out.1.2 (HTAB.out _ E.out))).mono ?_
 rintro e w7 ⟨N3, n3, c3, rfl, hn3, hl3, hx⟩
 replace E := hid (E.out.trans hx)
 clear hx
 have HN3 := hid (And.intro hn3 hl3)
 clear hn3 hl3
 clear HV7 Hn13 HMn13
 have hfl := field_vN
 as_aux_lemma =>
 go_upto_region 12 with (fail)
 clear hfl
 refine vwp_at (fun W' => Box W' w7.heap.size #[.bool gS, .slice N3 n3 c3] 24 ∧ Ext w7 W') ⟨Box.new w7 _ _, Ext.alloc w7 _⟩ ?_
 intro W12 ⟨hb12, hx⟩
 obtain ⟨g16, hg16⟩ : ∃ g, w7.heap.size = g := ⟨_, rfl⟩
 rw [hg16] at hb12 ⊢
 have HBS := hid hb12
 clear hb12 hg16
 replace E := hid (E.out.trans hx)
 replace HN3 := hid (And.intro (LNum.up HN3.out.1 hx) HN3.out.2)
 clear hx
 refine wp_region_D [(0, 0), (1, 0), (2, 0), (6, 0), (7, 0), (3, 1), (4, 0), (5, 1), (8, 1), (9, 0), (10, 1), (11, 0)] fun wd hb => ?_
 replace E := hid (E.out.trans hb)
 replace HN3 := hid (And.intro (LNum.up HN3.out.1 hb) HN3.out.2)
 replace HBS := hid (HBS.out.up hb)
 clear hb
 refine WE.q 217 (.agg #[.bool gS, .slice N3 n3 c3]) rfl (fun w' hk => by have x0 := (HBS.out.up hk).k 0; have x1 := (HBS.out.up hk).k 1; go_simp) ?_
 refine WE.ld 218 (HBB.out.up E.out) ?_
 simp only [pX]
 refine WE.p 219 (.slice MA mn mc) ?_
 refine WE.ld 223 (HBA.out.up E.out) ?_
 simp only [pX]
 refine WE.p 224 (.slice MA mn mc) ?_
 refine WE.c 220 ((HEB.out _ E.out).mono ?_)
 rintro e w6 ⟨N4, n4, c4, rfl, hn4, hl4, hb⟩
 refine ⟨_, rfl, hb, ?_⟩
 replace E := hid (E.out.trans hb)
 replace HN3 := hid (And.intro (LNum.up HN3.out.1 hb) HN3.out.2)
 replace HBS := hid (HBS.out.up hb)
 clear hb
 have HN4 := hid (And.intro hn4 hl4)
 clear hn4 hl4
 simp only [pX]
 refine WE.q 221 (.agg #[.bool gY, .slice N4 n4 c4]) rfl (fun w' hk => by have hf := fun w' => field_vN 2 gY N4 n4 c4 w'; go_simp) ?_
 refine WE.c 222 ((subTo (num_worth HGS.out HN3.out.1 HN3.out.2) (num_worth HGY.out HN4.out.1 HN4.out.2) (by decide) (by decide) (show X + Y - Y = X by omega)).mono ?_)
 rintro e w6 ⟨v7, rfl, ⟨N5, n5, c5, rfl, hn5, hl5⟩, hb⟩
 refine ⟨_, rfl, hb, ?_⟩
 replace E := hid (E.out.trans hb)
 replace HN3 := hid (And.intro (LNum.up HN3.out.1 hb) HN3.out.2)
 replace HBS := hid (HBS.out.up hb)
 replace HN4 := hid (And.intro (LNum.up HN4.out.1 hb) HN4.out.2)
 clear hb
 replace hn5 : LNum _ (.slice N5 n5 c5) (M.limbs (X).natAbs) := hn5
 have HN5 := hid (And.intro hn5 hl5)
 clear hn5 hl5
 rw [HGX.out]
 simp only [pX]
 refine WE.c 225 ((HEA.out _ E.out).mono ?_)
 rintro e w6 ⟨N6, n6, c6, rfl, hn6, hl6, hb⟩
 refine ⟨_, rfl, hb, ?_⟩
 replace E := hid (E.out.trans hb)
 replace HN3 := hid (And.intro (LNum.up HN3.out.1 hb) HN3.out.2)
 replace HBS := hid (HBS.out.up hb)
 replace HN4 := hid (And.intro (LNum.up HN4.out.1 hb) HN4.out.2)
 replace HN5 := hid (And.intro (LNum.up HN5.out.1 hb) HN5.out.2)
 clear hb
 have HN6 := hid (And.intro hn6 hl6)
 clear hn6 hl6
 simp only [pX]
 refine WE.q 226 (.agg #[.bool gX, .slice N6 n6 c6]) rfl (fun w' hk => by have hf := fun w' => field_vN 2 gX N6 n6 c6 w'; go_simp) ?_
 refine WE.c 227 ((equal_same (g := gX) HN5.out.1 HN6.out.1).mono ?_)
 rintro e w6 ⟨rfl, hb⟩
 refine ⟨_, rfl, hb, ?_⟩
 replace E := hid (E.out.trans hb)
 replace HN3 := hid (And.intro (LNum.up HN3.out.1 hb) HN3.out.2)
 replace HBS := hid (HBS.out.up hb)
 replace HN4 := hid (And.intro (LNum.up HN4.out.1 hb) HN4.out.2)
 replace HN5 := hid (And.intro (LNum.up HN5.out.1 hb) HN5.out.2)
 replace HN6 := hid (And.intro (LNum.up HN6.out.1 hb) HN6.out.2)
 clear hb
 simp only [pX]
 refine WE.q 228 (.bool false) rfl (fun w' hk => by go_simp) ?_
 simp only [pX]
 refine WE.done ?_
 clear HBS
 clear HN3
 clear HN4
 clear HN5
 clear HN6
 by_cases hd0 : d = 0
 case pos =>
  have hq : (d == 0) = true := by simpa using hd0
  have hz := hid hd0
  clear hd0
  go_wp2_with fail
  go_ret
  exact ⟨rfl, E00.out.trans E.out⟩
 have HQ2 := hid (HQ.out hd0)
 have HD0 := hid hd0
 have hq : (d == 0) = false := by simpa using hd0
 have hwr : IntKind.i64.wrap d = d := by rw [IntKind.wrap_i64]; have := HD.out; omega
 clear hd0 HQ
 go_wp2_with fail
 clear hq hwr
 refine (vnum_n (by have := HD.out; omega) (by have := HD.out; omega) _).mono ?_
 rintro e w20 ⟨v20, rfl, hv20, hx⟩
 replace E := hid (E.out.trans hx)
 clear hx
 obtain ⟨NN, nnN, ncN, AN, cN, hkv, h1, h2⟩ := hv20
 obtain ⟨gD, hgD⟩ : ∃ z, decide (d < 0) = z := ⟨_, rfl⟩
 replace hkv : v20 = kv 1 gD NN nnN ncN [] 2 AN 0 cN := by rw [← hgD]; exact hkv
 subst hkv
 have HTN := hid (show IsTm w20 (M.knumT d) (kv 1 gD NN nnN ncN [] 2 AN 0 cN) from ⟨NN, nnN, ncN, AN, cN, by rw [← hgD]; rfl, h1, h2⟩)
 have HGD := hid hgD
 clear hgD h1 h2
 as_aux_lemma =>
 go_upto_region 17 with (fail)
 refine vwp_at (fun W' => Box W' w20.heap.size #[.int .i64 1, .bool gD, .slice NN nnN ncN, str [], .int .i64 2, .slice AN 0 cN] 27 ∧ Ext w20 W') ⟨Box.new w20 _ _, Ext.alloc w20 _⟩ ?_
 intro W17 ⟨hb17, hx⟩
 obtain ⟨g17, hg17⟩ : ∃ g, w20.heap.size = g := ⟨_, rfl⟩
 rw [hg17] at hb17 ⊢
 have HBN := hid hb17
 clear hb17 hg17
 replace E := hid (E.out.trans hx)
 replace HTN := hid (HTN.out.up hx)
 clear hx
 obtain ⟨U, hU⟩ : ∃ z, X / d = z := ⟨_, rfl⟩
 obtain ⟨V, hV⟩ : ∃ z, X % d = z := ⟨_, rfl⟩
 have HUV := hid (show d * U + V = X ∧ 0 ≤ V ∧ V < (d.natAbs : Int) by rw [← hU, ← hV]; exact M.quo_all X d HD0.out)
 obtain ⟨Tq16, hTq16⟩ : ∃ T, (M.kmake 16 [a, M.knumT d]).1 = T := ⟨_, rfl⟩
 have Hq16 := hid (show M.Ok Tq16 ∧ M.mEval m Tq16 = M.vz 2 U by rw [← hTq16, ← hU]; exact HQ2.out.n16)
 have HMq16 := hid (show ∀ w', Ext W w' → IsTm w' (M.knumT d) (kv 1 gD NN nnN ncN [] 2 AN 0 cN) → Box w' g17 #[.int .i64 1, .bool gD, .slice NN nnN ncN, str [], .int .i64 2, .slice AN 0 cN] 27 → Calls Tryz.prog 12 #[.int .i64 16, kv opA tgA NA nnA ncA tnA 2 AA nA cA, .pointer (some ⟨g17, 0, none⟩)] w' (GivesT1 w' Tq16) from fun w' e ht hb => by have h := made2 (op := 16) (q := M.knumT d) ⟨rfl, HGD.out, rfl, rfl⟩ (HTA.out w' e) ht hb HWA.out.2 (M.numT_few HD.out.1 HD.out.2) (by rw [hTq16]; exact Hq16.out.1.1); rw [hTq16] at h; exact h)
 obtain ⟨gU, hgU⟩ : ∃ z, decide (U < 0) = z := ⟨_, rfl⟩
 have HGU := hid hgU
 obtain ⟨Tq17, hTq17⟩ : ∃ T, (M.kmake 17 [a, M.knumT d]).1 = T := ⟨_, rfl⟩
 have Hq17 := hid (show M.Ok Tq17 ∧ M.mEval m Tq17 = M.vz 2 V by rw [← hTq17, ← hV]; exact HQ2.out.n17)
 have HMq17 := hid (show ∀ w', Ext W w' → IsTm w' (M.knumT d) (kv 1 gD NN nnN ncN [] 2 AN 0 cN) → Box w' g17 #[.int .i64 1, .bool gD, .slice NN nnN ncN, str [], .int .i64 2, .slice AN 0 cN] 27 → Calls Tryz.prog 12 #[.int .i64 17, kv opA tgA NA nnA ncA tnA 2 AA nA cA, .pointer (some ⟨g17, 0, none⟩)] w' (GivesT1 w' Tq17) from fun w' e ht hb => by have h := made2 (op := 17) (q := M.knumT d) ⟨rfl, HGD.out, rfl, rfl⟩ (HTA.out w' e) ht hb HWA.out.2 (M.numT_few HD.out.1 HD.out.2) (by rw [hTq17]; exact Hq17.out.1.1); rw [hTq17] at h; exact h)
 obtain ⟨gV, hgV⟩ : ∃ z, decide (V < 0) = z := ⟨_, rfl⟩
 have HGV := hid hgV
 clear hU hV hTq16 hTq17 hgU hgV HQ2
 refine wp_region_L [(0, 0), (2, 0), (5, 0), (7, 0), (1, 2), (3, 2), (4, 0), (6, 2), (8, 2), (9, 5), (10, 3), (11, 3), (12, 4), (13, 4)] 24 #[.bool false, .slice none 0 0] fun wd hb => ?_
 replace E := hid (E.out.trans hb)
 replace HTN := hid (HTN.out.up hb)
 replace HBN := hid (HBN.out.up hb)
 clear hb
 have HSZ := hid (show W.heap.size ≤ wd.heap.size from E.out.size)
 refine WE.ld 234 (HBA.out.up E.out) ?_
 refine WE.p 236 (.slice MA mn mc) ?_
 simp only [pX]
 refine WE.ld 239 (HBA.out.up E.out) ?_
 refine WE.p 241 (.slice MA mn mc) ?_
 simp only [pX]
 refine WE.callR (d := some 235) rfl rfl (by rfl) (fun w => by go_simp) fun wa hea => ((HMq16.out _ (E.out.trans hea) (HTN.out.up hea) (HBN.out.up hea)).mono ?_)
 rintro e w6 ⟨v7, rfl, hv7, hb⟩
 refine ⟨_, rfl, hb, ?_⟩
 have hab := hea.trans hb
 replace E := hid (E.out.trans hab)
 replace HTN := hid (HTN.out.up hab)
 replace HBN := hid (HBN.out.up hab)
 clear hab
 have HV7 := hid (show IsTm w6 Tq16 v7 from hv7)
 clear hv7 hea hb
 simp only [pX]
 refine WE.callR (d := some 237) rfl rfl (by rfl) (fun w => by go_simp) fun wa hea => ((eval_num Hq16.out.2 HGU.out (eval_v (HM.out _ (E.out.trans hea)) (HV7.out.up hea) Hq16.out.1.2 (HTAB.out _ (E.out.trans hea)))).mono ?_)
 rintro e w6 ⟨N7, n7, c7, rfl, hn7, hl7, hb⟩
 refine ⟨_, rfl, hb, ?_⟩
 have hab := hea.trans hb
 replace E := hid (E.out.trans hab)
 replace HTN := hid (HTN.out.up hab)
 replace HBN := hid (HBN.out.up hab)
 clear hab
 have HN7 := hid (And.intro hn7 hl7)
 clear hn7 hl7
 clear hea hb HV7
 simp only [pX]
 refine WE.q 238 (.agg #[.bool gU, .slice N7 n7 c7]) rfl (fun w' hk => by have hf := fun w' => field_vN 2 gU N7 n7 c7 w'; go_simp) ?_
 simp only [pX]
 refine WE.callR (d := some 240) rfl rfl (by rfl) (fun w => by go_simp) fun wa hea => ((HMq17.out _ (E.out.trans hea) (HTN.out.up hea) (HBN.out.up hea)).mono ?_)
 rintro e w6 ⟨v7, rfl, hv7, hb⟩
 refine ⟨_, rfl, hb, ?_⟩
 have hab := hea.trans hb
 replace E := hid (E.out.trans hab)
 replace HTN := hid (HTN.out.up hab)
 replace HBN := hid (HBN.out.up hab)
 replace HN7 := hid (And.intro (LNum.up HN7.out.1 hab) HN7.out.2)
 clear hab
 have HV7 := hid (show IsTm w6 Tq17 v7 from hv7)
 clear hv7 hea hb
 simp only [pX]
 refine WE.callR (d := some 242) rfl rfl (by rfl) (fun w => by go_simp) fun wa hea => ((eval_num Hq17.out.2 HGV.out (eval_v (HM.out _ (E.out.trans hea)) (HV7.out.up hea) Hq17.out.1.2 (HTAB.out _ (E.out.trans hea)))).mono ?_)
 rintro e w6 ⟨N8, n8, c8, rfl, hn8, hl8, hb⟩
 refine ⟨_, rfl, hb, ?_⟩
 have hab := hea.trans hb
 replace E := hid (E.out.trans hab)
 replace HTN := hid (HTN.out.up hab)
 replace HBN := hid (HBN.out.up hab)
 replace HN7 := hid (And.intro (LNum.up HN7.out.1 hab) HN7.out.2)
 clear hab
 have HN8 := hid (And.intro hn8 hl8)
 clear hn8 hl8
 clear hea hb HV7
 simp only [pX]
 have hf := fun w' => field_vN 2 gV N8 n8 c8 w'
 refine WE.y 243 (.agg #[.bool gV, .slice N8 n8 c8]) ?_
 clear hf
 clear HTN HBN HMq16 HMq17 Hq16 Hq17
 refine WE.var (d := some 18) rfl fun g18 w18 hx hbx hge _ => ?_
 replace E := hid (E.out.trans hx)
 replace HN7 := hid (And.intro (LNum.up HN7.out.1 hx) HN7.out.2)
 replace HN8 := hid (And.intro (LNum.up HN8.out.1 hx) HN8.out.2)
 clear hx
 have HB18 := hid (show Box w18 g18 #[.bool false, .slice none 0 0] 24 from hbx)
 have HG18 := hid (show W.heap.size ≤ g18 from Nat.le_trans HSZ.out hge)
 clear hbx hge
 simp only [pX]
 refine WE.var (d := some 19) rfl fun g19 w19 hx hbx hge hng => ?_
 replace E := hid (E.out.trans hx)
 replace HN7 := hid (And.intro (LNum.up HN7.out.1 hx) HN7.out.2)
 replace HN8 := hid (And.intro (LNum.up HN8.out.1 hx) HN8.out.2)
 replace HB18 := hid (HB18.out.up hx)
 clear hx
 have HB19 := hid (show Box w19 g19 #[.bool false, .slice none 0 0] 24 from hbx)
 have HG19 := hid (show W.heap.size ≤ g19 ∧ g19 ≠ g18 from ⟨Nat.le_trans HSZ.out hge, fun e => hng (by simp [e])⟩)
 clear hbx hge hng
 simp only [pX]
 obtain ⟨⟨x0, x1⟩, ⟨y0, y1⟩, hz1⟩ := box2v HB18.out
 refine WE.store (w' := put2v w19 g18 (.bool gU) (.slice N7 n7 c7)) rfl rfl (by rfl) (by go_simp) (by simp) ?_
 have hkp : Kept [g18] w19 (put2v w19 g18 (.bool gU) (.slice N7 n7 c7)) := (kept_setAt _).trans (kept_setAt _)
 have hks := keeps_store HB18.out rfl hkp
 have K1 := hid (show Box (put2v w19 g18 (.bool gU) (.slice N7 n7 c7)) g18 #[.bool gU, .slice N7 n7 c7] 24 from HB18.out.set2 _ _)
 have K2 := hid (HB19.out.kept hkp (by have := HG19.out.2; simp; omega))
 have K3 := hid (hks _ _ HN7.out.1)
 have K4 := hid (hks _ _ HN8.out.1)
 have K5 := hid (E.out.keptG hkp (HG18.out))
 obtain ⟨W21, hW21⟩ : ∃ z, z = put2v w19 g18 (.bool gU) (.slice N7 n7 c7) := ⟨_, rfl⟩
 rw [← hW21] at K1 K2 K5 ⊢
 replace HN7 := hid (And.intro (show LNum W21 (.slice N7 n7 c7) (M.limbs U.natAbs) by rw [hW21]; exact K3.out) HN7.out.2)
 replace HN8 := hid (And.intro (show LNum W21 (.slice N8 n8 c8) (M.limbs V.natAbs) by rw [hW21]; exact K4.out) HN8.out.2)
 replace HB18 := hid K1.out
 replace HB19 := hid K2.out
 replace E := hid K5.out
 clear hkp hks hW21 K1 K2 K3 K4 K5 x0 x1 y0 y1 hz1
 obtain ⟨⟨x0, x1⟩, ⟨y0, y1⟩, hz1⟩ := box2v HB19.out
 refine WE.store (w' := put2v W21 g19 (.bool gV) (.slice N8 n8 c8)) rfl rfl (by rfl) (by go_simp) (by simp) ?_
 refine WE.done ?_
 have hkp : Kept [g19] W21 (put2v W21 g19 (.bool gV) (.slice N8 n8 c8)) := (kept_setAt _).trans (kept_setAt _)
 have hks := keeps_store HB19.out rfl hkp
 have K1 := hid (show Box (put2v W21 g19 (.bool gV) (.slice N8 n8 c8)) g19 #[.bool gV, .slice N8 n8 c8] 24 from HB19.out.set2 _ _)
 have K2 := hid (HB18.out.kept hkp (by have := HG19.out.2; simp; omega))
 have K3 := hid (hks _ _ HN7.out.1)
 have K4 := hid (hks _ _ HN8.out.1)
 have K5 := hid (E.out.keptG hkp (HG19.out.1))
 obtain ⟨W22, hW22⟩ : ∃ z, z = put2v W21 g19 (.bool gV) (.slice N8 n8 c8) := ⟨_, rfl⟩
 rw [← hW22] at K1 K2 K5 ⊢
 replace HN7 := hid (And.intro (show LNum W22 (.slice N7 n7 c7) (M.limbs U.natAbs) by rw [hW22]; exact K3.out) HN7.out.2)
 replace HN8 := hid (And.intro (show LNum W22 (.slice N8 n8 c8) (M.limbs V.natAbs) by rw [hW22]; exact K4.out) HN8.out.2)
 replace HB19 := hid K1.out
 replace HB18 := hid K2.out
 replace E := hid K5.out
 clear hkp hks hW22 K1 K2 K3 K4 K5 x0 x1 y0 y1 hz1
 have hwr : IntKind.i64.wrap d = d := by rw [IntKind.wrap_i64]; have := HD.out; omega
 obtain ⟨S, hS⟩ : ∃ z, V.sign = z := ⟨_, rfl⟩
 have HSG := hid hS
 have HS0 := hid (show 0 ≤ S by rw [← hS]; exact Int.sign_nonneg_iff.2 HUV.out.2.1)
 clear hS
 have HZC := hid (M.zcmp_lt HUV.out.2.2)
 obtain ⟨R, hR⟩ : ∃ z, d * U = z := ⟨_, rfl⟩
 obtain ⟨gR, hgR⟩ : ∃ z, decide (R < 0) = z := ⟨_, rfl⟩
 have HGR := hid hgR
 have HRV := hid (show R + V = X by rw [← hR]; exact HUV.out.1)
 have HR := hid hR
 clear hR hgR
 obtain ⟨D, hDD⟩ : ∃ z : Int, (d.natAbs : Int) = z := ⟨_, rfl⟩
 rw [hDD] at HZC
 obtain ⟨gA2, hgA2⟩ : ∃ z, decide (D < 0) = z := ⟨_, rfl⟩
 have HGA2 := hid hgA2
 have HDD := hid hDD
 clear hDD hgA2
 as_aux_lemma =>
 go_upto_region 18 with (fail)
 refine wp_region_D [(0, 0), (1, 0), (3, 0), (5, 0), (7, 0), (8, 0), (2, 1), (4, 1), (6, 1), (9, 1), (10, 0), (11, 1), (12, 0), (13, 0), (14, 1), (15, 0), (16, 0), (17, 0), (18, 0), (19, 0), (20, 0), (21, 1), (22, 1), (23, 1), (24, 0), (25, 0), (26, 0)] fun wd hb => ?_
 replace E := hid (E.out.trans hb)
 replace HN7 := hid (And.intro (LNum.up HN7.out.1 hb) HN7.out.2)
 replace HN8 := hid (And.intro (LNum.up HN8.out.1 hb) HN8.out.2)
 replace HB18 := hid (HB18.out.up hb)
 replace HB19 := hid (HB19.out.up hb)
 clear hb
 refine WE.p 244 (.int .i16 d) ?_
 refine WE.q 245 (.int .i64 d) rfl (fun w' hk => by go_simp) ?_
 simp only [pX]
 refine WE.q 247 (.agg #[.bool gU, .slice N7 n7 c7]) rfl (fun w' hk => by have x0 := (HB18.out.up hk).k 0; have x1 := (HB18.out.up hk).k 1; go_simp) ?_
 refine WE.q 249 (.agg #[.bool gV, .slice N8 n8 c8]) rfl (fun w' hk => by have x0 := (HB19.out.up hk).k 0; have x1 := (HB19.out.up hk).k 1; go_simp) ?_
 simp only [pX]
 refine WE.ld 251 (HBA.out.up E.out) ?_
 refine WE.p 252 (.slice MA mn mc) ?_
 simp only [pX]
 refine WE.c 246 ((rOf_z (n := d) (by have := HD.out; omega) (by have := HD.out; omega) _).mono ?_)
 rintro e w6 ⟨v7, rfl, ⟨N9, n9, c9, rfl, hn9, hl9⟩, hb⟩
 refine ⟨_, rfl, hb, ?_⟩
 replace E := hid (E.out.trans hb)
 replace HN7 := hid (And.intro (LNum.up HN7.out.1 hb) HN7.out.2)
 replace HN8 := hid (And.intro (LNum.up HN8.out.1 hb) HN8.out.2)
 replace HB18 := hid (HB18.out.up hb)
 replace HB19 := hid (HB19.out.up hb)
 clear hb
 replace hn9 : LNum _ (.slice N9 n9 c9) (M.limbs (d).natAbs) := hn9
 have HN9 := hid (And.intro hn9 hl9)
 clear hn9 hl9
 rw [HGD.out]
 refine WE.c 248 ((mulTo (num_worth HGD.out HN9.out.1 HN9.out.2) (num_worth HGU.out HN7.out.1 HN7.out.2) (by decide) (by decide) HR.out).mono ?_)
 rintro e w6 ⟨v7, rfl, ⟨N10, n10, c10, rfl, hn10, hl10⟩, hb⟩
 refine ⟨_, rfl, hb, ?_⟩
 replace E := hid (E.out.trans hb)
 replace HN7 := hid (And.intro (LNum.up HN7.out.1 hb) HN7.out.2)
 replace HN8 := hid (And.intro (LNum.up HN8.out.1 hb) HN8.out.2)
 replace HB18 := hid (HB18.out.up hb)
 replace HB19 := hid (HB19.out.up hb)
 replace HN9 := hid (And.intro (LNum.up HN9.out.1 hb) HN9.out.2)
 clear hb
 replace hn10 : LNum _ (.slice N10 n10 c10) (M.limbs (R).natAbs) := hn10
 have HN10 := hid (And.intro hn10 hl10)
 clear hn10 hl10
 rw [HGR.out]
 simp only [pX]
 refine WE.c 250 ((addTo (num_worth HGR.out HN10.out.1 HN10.out.2) (num_worth HGV.out HN8.out.1 HN8.out.2) (by decide) (by decide) HRV.out).mono ?_)
 rintro e w6 ⟨v7, rfl, ⟨N11, n11, c11, rfl, hn11, hl11⟩, hb⟩
 refine ⟨_, rfl, hb, ?_⟩
 replace E := hid (E.out.trans hb)
 replace HN7 := hid (And.intro (LNum.up HN7.out.1 hb) HN7.out.2)
 replace HN8 := hid (And.intro (LNum.up HN8.out.1 hb) HN8.out.2)
 replace HB18 := hid (HB18.out.up hb)
 replace HB19 := hid (HB19.out.up hb)
 replace HN9 := hid (And.intro (LNum.up HN9.out.1 hb) HN9.out.2)
 replace HN10 := hid (And.intro (LNum.up HN10.out.1 hb) HN10.out.2)
 clear hb
 replace hn11 : LNum _ (.slice N11 n11 c11) (M.limbs (X).natAbs) := hn11
 have HN11 := hid (And.intro hn11 hl11)
 clear hn11 hl11
 rw [HGX.out]
 refine WE.c 253 ((HEA.out _ E.out).mono ?_)
 rintro e w6 ⟨N12, n12, c12, rfl, hn12, hl12, hb⟩
 refine ⟨_, rfl, hb, ?_⟩
 replace E := hid (E.out.trans hb)
 replace HN7 := hid (And.intro (LNum.up HN7.out.1 hb) HN7.out.2)
 replace HN8 := hid (And.intro (LNum.up HN8.out.1 hb) HN8.out.2)
 replace HB18 := hid (HB18.out.up hb)
 replace HB19 := hid (HB19.out.up hb)
 replace HN9 := hid (And.intro (LNum.up HN9.out.1 hb) HN9.out.2)
 replace HN10 := hid (And.intro (LNum.up HN10.out.1 hb) HN10.out.2)
 replace HN11 := hid (And.intro (LNum.up HN11.out.1 hb) HN11.out.2)
 clear hb
 have HN12 := hid (And.intro hn12 hl12)
 clear hn12 hl12
 simp only [pX]
 refine WE.q 254 (.agg #[.bool gX, .slice N12 n12 c12]) rfl (fun w' hk => by have hf := fun w' => field_vN 2 gX N12 n12 c12 w'; go_simp) ?_
 refine WE.c 255 ((equal_same (g := gX) HN11.out.1 HN12.out.1).mono ?_)
 rintro e w6 ⟨rfl, hb⟩
 refine ⟨_, rfl, hb, ?_⟩
 replace E := hid (E.out.trans hb)
 replace HN7 := hid (And.intro (LNum.up HN7.out.1 hb) HN7.out.2)
 replace HN8 := hid (And.intro (LNum.up HN8.out.1 hb) HN8.out.2)
 replace HB18 := hid (HB18.out.up hb)
 replace HB19 := hid (HB19.out.up hb)
 replace HN9 := hid (And.intro (LNum.up HN9.out.1 hb) HN9.out.2)
 replace HN10 := hid (And.intro (LNum.up HN10.out.1 hb) HN10.out.2)
 replace HN11 := hid (And.intro (LNum.up HN11.out.1 hb) HN11.out.2)
 replace HN12 := hid (And.intro (LNum.up HN12.out.1 hb) HN12.out.2)
 clear hb
 simp only [pX]
 refine WE.p 256 (.bool true) ?_
 refine WE.q 257 (.agg #[.bool gV, .slice N8 n8 c8]) rfl (fun w' hk => by have x0 := (HB19.out.up hk).k 0; have x1 := (HB19.out.up hk).k 1; go_simp) ?_
 simp only [pX]
 refine WE.c 258 ((rSign_w (num_worth HGV.out HN8.out.1 HN8.out.2) HSG.out).mono ?_)
 rintro e w6 ⟨rfl, hb⟩
 refine ⟨_, rfl, hb, ?_⟩
 replace E := hid (E.out.trans hb)
 replace HN7 := hid (And.intro (LNum.up HN7.out.1 hb) HN7.out.2)
 replace HN8 := hid (And.intro (LNum.up HN8.out.1 hb) HN8.out.2)
 replace HB18 := hid (HB18.out.up hb)
 replace HB19 := hid (HB19.out.up hb)
 replace HN9 := hid (And.intro (LNum.up HN9.out.1 hb) HN9.out.2)
 replace HN10 := hid (And.intro (LNum.up HN10.out.1 hb) HN10.out.2)
 replace HN11 := hid (And.intro (LNum.up HN11.out.1 hb) HN11.out.2)
 replace HN12 := hid (And.intro (LNum.up HN12.out.1 hb) HN12.out.2)
 clear hb
 refine WE.q 259 (.bool true) rfl (fun w' hk => by have hi : decide (0 ≤ S) = true := decide_eq_true HS0.out; go_simp) ?_
 simp only [pX]
 refine WE.q 260 (.bool true) rfl (fun w' hk => by go_simp) ?_
 refine WE.p 261 (.bool true) ?_
 simp only [pX]
 refine WE.q 262 (.agg #[.bool gV, .slice N8 n8 c8]) rfl (fun w' hk => by have x0 := (HB19.out.up hk).k 0; have x1 := (HB19.out.up hk).k 1; go_simp) ?_
 refine WE.p 263 (.int .i16 d) ?_
 simp only [pX]
 refine WE.q 264 (.int .i64 d) rfl (fun w' hk => by go_simp) ?_
 refine WE.c 265 ((rOf_z (n := d) (by have := HD.out; omega) (by have := HD.out; omega) _).mono ?_)
 rintro e w6 ⟨v7, rfl, ⟨N13, n13, c13, rfl, hn13, hl13⟩, hb⟩
 refine ⟨_, rfl, hb, ?_⟩
 replace E := hid (E.out.trans hb)
 replace HN7 := hid (And.intro (LNum.up HN7.out.1 hb) HN7.out.2)
 replace HN8 := hid (And.intro (LNum.up HN8.out.1 hb) HN8.out.2)
 replace HB18 := hid (HB18.out.up hb)
 replace HB19 := hid (HB19.out.up hb)
 replace HN9 := hid (And.intro (LNum.up HN9.out.1 hb) HN9.out.2)
 replace HN10 := hid (And.intro (LNum.up HN10.out.1 hb) HN10.out.2)
 replace HN11 := hid (And.intro (LNum.up HN11.out.1 hb) HN11.out.2)
 replace HN12 := hid (And.intro (LNum.up HN12.out.1 hb) HN12.out.2)
 clear hb
 replace hn13 : LNum _ (.slice N13 n13 c13) (M.limbs (d).natAbs) := hn13
 have HN13 := hid (And.intro hn13 hl13)
 clear hn13 hl13
 rw [HGD.out]
 simp only [pX]
 refine WE.c 266 ((absTo (num_worth HGD.out HN13.out.1 HN13.out.2) HDD.out).mono ?_)
 rintro e w6 ⟨v7, rfl, ⟨N14, n14, c14, rfl, hn14, hl14⟩, hb⟩
 refine ⟨_, rfl, hb, ?_⟩
 replace E := hid (E.out.trans hb)
 replace HN7 := hid (And.intro (LNum.up HN7.out.1 hb) HN7.out.2)
 replace HN8 := hid (And.intro (LNum.up HN8.out.1 hb) HN8.out.2)
 replace HB18 := hid (HB18.out.up hb)
 replace HB19 := hid (HB19.out.up hb)
 replace HN9 := hid (And.intro (LNum.up HN9.out.1 hb) HN9.out.2)
 replace HN10 := hid (And.intro (LNum.up HN10.out.1 hb) HN10.out.2)
 replace HN11 := hid (And.intro (LNum.up HN11.out.1 hb) HN11.out.2)
 replace HN12 := hid (And.intro (LNum.up HN12.out.1 hb) HN12.out.2)
 replace HN13 := hid (And.intro (LNum.up HN13.out.1 hb) HN13.out.2)
 clear hb
 replace hn14 : LNum _ (.slice N14 n14 c14) (M.limbs (D).natAbs) := hn14
 have HN14 := hid (And.intro hn14 hl14)
 clear hn14 hl14
 rw [HGA2.out]
 refine WE.c 267 ((rCmp_w (num_worth HGV.out HN8.out.1 HN8.out.2) (num_worth HGA2.out HN14.out.1 HN14.out.2) HZC.out).mono ?_)
 rintro e w6 ⟨rfl, hb⟩
 refine ⟨_, rfl, hb, ?_⟩
 replace E := hid (E.out.trans hb)
 replace HN7 := hid (And.intro (LNum.up HN7.out.1 hb) HN7.out.2)
 replace HN8 := hid (And.intro (LNum.up HN8.out.1 hb) HN8.out.2)
 replace HB18 := hid (HB18.out.up hb)
 replace HB19 := hid (HB19.out.up hb)
 replace HN9 := hid (And.intro (LNum.up HN9.out.1 hb) HN9.out.2)
 replace HN10 := hid (And.intro (LNum.up HN10.out.1 hb) HN10.out.2)
 replace HN11 := hid (And.intro (LNum.up HN11.out.1 hb) HN11.out.2)
 replace HN12 := hid (And.intro (LNum.up HN12.out.1 hb) HN12.out.2)
 replace HN13 := hid (And.intro (LNum.up HN13.out.1 hb) HN13.out.2)
 replace HN14 := hid (And.intro (LNum.up HN14.out.1 hb) HN14.out.2)
 clear hb
 simp only [pX]
 refine WE.q 268 (.bool true) rfl (fun w' hk => by go_simp) ?_
 refine WE.q 269 (.bool true) rfl (fun w' hk => by go_simp) ?_
 simp only [pX]
 refine WE.p 12 (.bool true) ?_
 simp only [pX]
 refine WE.done ?_
 go_wp2_with fail
 go_ret
 exact ⟨rfl, E00.out.trans E.out⟩
end Go.Proofs.YtkhmgdfhggejaaaGreatDoor.Q
