/-
  Layer 12's laws: Of of what isn't negative, its limbs on new memory.
-/
import Derived.Test.YtkhmgdfhggejaaaGreatDoorWVJ
import Derived.Test.YtkhmgdfhggejaaaGreatDoorWJQH
import Derived.Test.YtkhmgdfhggejaaaGreatDoorWVC
import Derived.Test.YtkhmgdfhggejaaaGreatDoorWVH
namespace Go.Proofs.YtkhmgdfhggejaaaGreatDoor.Q
set_option linter.unusedSimpArgs false
set_option linter.unusedVariables false
open Go.RowKit

section
variable {P : Program} {ops : Array Oper} {Q : Exit → Act → World → Prop} {i j k : Nat} {r s t : Route} {a : Act} {w : World}
theorem WT.act_ (h : wpOp P ops Q i (fun a' w' => Ext w w' ∧ WT P ops Q r a' w') a w) : WT P ops Q (.act i r) a w := h
theorem WT.two_ (h1 : wpOp P ops Q i (fun a' w' => Ext w w' ∧ WT P ops Q r a' w') a w) (h2 : wpOp P ops Q j (fun a' w' => Ext w w' ∧ WT P ops Q s a' w') a w) : WT P ops Q (.two i r j s) a w := ⟨h1, h2⟩
theorem wpOp_actV {n : Nat} {v : Value} {w' : World} {o : Oper} {R : Act → World → Prop} (ho : ops[k]? = some o) (he : (execOp a.eval o).run P w = .ok (.value v) w') (hd : o.dst = some n) (hw : Region.wanted o (yielded ops a.tmps) = true) (h : R (a.put (some n) v) w') :
 wpOp P ops Q k R a w := by
 rw [← hd] at h
 unfold wpOp
 simp only [ho, hw, if_true]
 refine .inl ?_
 unfold Oper.wp
 rw [he]
 exact h
/-- Both orders, then the rest, told once. -/
theorem WT.late_ (h : wpOp P ops Q i (fun a' w' => WT P ops Q r a' w') a w) : WT P ops Q (.late i r) a w := h
end
/-- A drawn region told once, whatever order it drew. -/
theorem wp_region_to {P : Program} {id : Nat} {ops : Array Oper} {Q : Exit → Act → World → Prop} {a : Act} {w : World} (R : Act → Act → World → Prop) (h1 : (Code.region id ops true).wp P (fun c a' w' => c = .normal ∧ R a a' w') a w) (h2 : ∀ a' w', R a a' w' → Q .normal a' w') : (Code.region id ops true).wp P Q a w :=
 Code.wp_mono (fun e a' w' h => by obtain ⟨rfl, h⟩ := h; exact h2 a' w' h) h1
theorem natOf_own (n : Nat) (hn : (n : Int) ≤ 18446744073709551615) (w : World) :
 Calls Tryz.prog 46 #[.int .u64 (n : Int)] w (fun e w' => ∃ v, e = .returned v ∧ Own w.heap.size w' v (M.limbs n) ∧ Ext w w') := by
 have HL := hid (limbs_len3 (n := n) (by omega))
 go_enter Tryz.func46, Tryz.ntmps46
 go_wp2
 go_loopw [0, 3] (fun s0 v wr => ∃ (q : Nat) (l : List Nat), s0 = .int .u64 (q : Int) ∧ (q : Int) ≤ 18446744073709551615 ∧ M.limbs n = l ++ M.limbs q ∧ Own w.heap.size wr v l ∧ Below w.heap.size w wr) (fun s0 _ _ => (intOf s0).toNat)
 case atStart => exact ⟨n, [], rfl, hn, rfl, Own.nil _ _, Below.refl _ _⟩
 case round =>
  obtain ⟨q, l, rfl, hq, he, hown, hbel⟩ := hrel
  have HE := hid he
  clear he
  have HO := hid hown
  have HB := hid hbel
  clear hown hbel
  by_cases h0 : 0 < q
  ·go_wp2_with (at_builtin; refine wpList_app1 rfl (.tmp 6) (.tmp 10) rfl w.heap.size _ l rfl (HO.out.alloc _) wr.heap.size (q % 1000000000) rfl ?c1 ?c3 ?c4 ?c5 ?_)
   case c1 => simp [go_sem]
   case c3 => omega
   case c4 =>
    have h1 := HL.out
    rw [HE.out, List.length_append, M.limbs_pos (by omega), List.length_cons] at h1
    omega
   case c5 => have := HB.out.size; simp; omega
   intro v' w' hown' hgrow
   have HO' := hid hown'
   have HG := hid hgrow
   clear hown' hgrow
   go_wp2
   go_roundw
   case rel =>
    refine ⟨q / 1000000000, l ++ [q % 1000000000], by go_num, by omega, ?_, HO'.out, ?_⟩
    ·rw [HE.out, M.limbs_pos (by omega)]; simp
    ·have hz := HB.out.size
     exact (HB.out.alloc (by omega) _).trans ((HO.out.alloc _).below HG.out (Nat.le_refl _) (by simp; omega))
   case measure => simp [intOf]; all_goals omega
  ·have : q = 0 := by omega
   subst this
   go_wp2
   go_ret
   refine ⟨_, rfl, ?_, HB.out⟩
   have := HO.out
   rw [HE.out, M.limbs_zero, List.append_nil]
   exact this
/-- A call gives a number, not negative, whose limbs lie on new memory. -/
def GivesZN (w : World) (n : Int) (e : Ending) (w' : World) : Prop := ∃ A k c, e = .returned (.agg #[.bool false, .slice A k c]) ∧ LNum (gp (fun b => w.heap.size ≤ b) w') (.slice A k c) (M.limbs n.natAbs) ∧ Ext w w'
theorem rOf_own {n : Int} (hn : 0 ≤ n) (h2 : n ≤ 9223372036854775807) (w : World) :
 Calls Tryz.prog 20 #[.int .i64 n] w (GivesZN w n) := by
 obtain ⟨m, hm⟩ : ∃ m : Nat, m = n.natAbs := ⟨_, rfl⟩
 have HM := hid hm
 have HN := hid hn
 have HB2 := hid h2
 have hl : decide (n < 0) = false := by simpa using hn
 have hp : IntKind.u64.wrap n = (m : Int) := by rw [IntKind.wrap_u64]; omega
 clear hm hn h2
 go_enter Tryz.func20, Tryz.ntmps20
 go_upto_region 1 with (fail)
 obtain ⟨E, B1⟩ := open1 w #[.bool false, .slice none 0 0] 24
 refine wp_region_S [(0, 0), (1, 0)] fun wd hb => ?_
 replace E := hid (E.out.trans hb)
 replace B1 := hid (B1.out.up hb)
 clear hb
 refine WE.p 3 (.int .i64 n) ?_
 refine WE.p 4 (.bool false) ?_
 simp only [Act.put, pA, pB, pC]
 refine WE.done ?_
 go_upto_region 3 with (fail)
 refine wp_region_S [(0, 0), (1, 0), (2, 1), (3, 0), (4, 4)] fun wd hb => ?_
 replace E := hid (E.out.trans hb)
 replace B1 := hid (B1.out.up hb)
 clear hb
 refine WE.p 10 (.int .i64 n) ?_
 refine WE.p 11 (.int .u64 (m : Int)) ?_
 simp only [Act.put, pA, pB, pC]
 refine WE.call (d := some 12) rfl rfl (by rfl) (f := 46) (args := #[(.int .u64 (m : Int))]) (by go_simp) ?_
 refine (natOf_own m (by have := HM.out; have := HN.out; have := HB2.out; omega) _).mono ?_
 rintro e wn ⟨vx, rfl, hx, hb⟩
 have hLx : LNum (gp (fun b => w.heap.size + 1 ≤ b) wn) vx (M.limbs m) := own_ghost hx (by
  intro b h1 _
  show w.heap.size + 1 ≤ b
  have := B1.out.lt
  omega)
 obtain ⟨A1, n1, c1, rfl⟩ := hx.num.slice
 refine ⟨_, rfl, hb, ?_⟩
 replace E := hid (E.out.trans hb)
 replace B1 := hid (B1.out.up hb)
 have R1 := hid hLx
 clear hb hx hLx
 refine WE.p 13 (.agg #[.bool false, .slice A1 n1 c1]) ?_
 simp only [Act.put, pA, pB, pC]
 have f0 := B1.out.free 0
 have f1 := B1.out.free 1
 have b0 := B1.out.k 0
 have b1 := B1.out.k 1
 refine WE.store (w' := (wn.setCell ⟨w.heap.size, 0, none⟩ (.bool false)).setCell ⟨w.heap.size, 1, none⟩ (.slice A1 n1 c1)) rfl rfl (by rfl) (by go_simp) (by simp) ?_
 have hk : Kept [w.heap.size] wn ((wn.setCell ⟨w.heap.size, 0, none⟩ (.bool false)).setCell ⟨w.heap.size, 1, none⟩ (.slice A1 n1 c1)) := kept_set _ _
 have hbx : Box ((wn.setCell ⟨w.heap.size, 0, none⟩ (.bool false)).setCell ⟨w.heap.size, 1, none⟩ (.slice A1 n1 c1)) w.heap.size #[.bool false, .slice A1 n1 c1] 24 := B1.out.set2 _ _
 clear f0 f1 b0 b1
 generalize (wn.setCell ⟨w.heap.size, 0, none⟩ (.bool false)).setCell ⟨w.heap.size, 1, none⟩ (.slice A1 n1 c1) = ws at hk hbx ⊢
 replace E := hid (E.out.keptG hk (by simp))
 replace B1 := hid hbx
 replace R1 := hid (show LNum (gp (fun b => w.heap.size ≤ b) ws) (.slice A1 n1 c1) (M.limbs m) from LNum.sub R1.out (gpv_mono hk.1.size fun k hk1 h => ⟨Nat.le_trans (Nat.le_succ _) h, hk.2 k hk1 (by have h' : w.heap.size + 1 ≤ k := h; simp; omega)⟩))
 clear hk hbx
 refine WE.done ?_
 have r0 := B1.out.cell (o := 0) (v := .bool false) rfl
 have r1 := B1.out.cell (o := 1) (v := .slice A1 n1 c1) rfl
 go_wp2
 exact bodyPost_ret (v := .agg #[.bool false, .slice A1 n1 c1]) (by simp [results, Tryz.results20, go_sem, r0, r1]) rfl ⟨_, _, _, rfl, by rw [← HM.out]; exact R1.out, E.out⟩
end Go.Proofs.YtkhmgdfhggejaaaGreatDoor.Q

/-
  Layer 12's laws: a function of rows that are told one by one, mathematics.
-/
namespace Go.Proofs.YtkhmgdfhggejaaaGreatDoor.Q
set_option linter.unusedSimpArgs false
set_option linter.unusedVariables false
open Go.RowKit
namespace M
def rowT (a i : Nat) : List Vl × Vl := ([vz 2 (a : Int)], vz 2 (i : Int))
def rowsAt : List Nat → Nat → List (List Vl × Vl)
 | [], _ => []
 | x :: r, i => rowT (x % 4) i :: rowsAt r (i + 1)
def wantAt (a : Nat) (o : Int) : List Nat → Nat → Int
 | [], _ => o
 | x :: r, i => if x % 4 = a then (i : Int) else wantAt a o r (i + 1)
theorem rowsAt_len : ∀ (l : List Nat) (i : Nat), (rowsAt l i).length = l.length
 | [], _ => rfl
 | x :: r, i => by rw [rowsAt, List.length_cons, rowsAt_len r, List.length_cons]
theorem rowsAt_get : ∀ (l : List Nat) (i k : Nat), (rowsAt l i)[k]? = l[k]?.map fun x => rowT (x % 4) (i + k)
 | [], _, _ => rfl
 | x :: r, i, 0 => rfl
 | x :: r, i, k + 1 => by rw [rowsAt, List.getElem?_cons_succ, rowsAt_get r, List.getElem?_cons_succ, show i + 1 + k = i + (k + 1) by omega]
theorem wantAt_ge {a : Nat} {o : Int} {l : List Nat} {k x : Nat} (h : l[k]? = some x) : wantAt a o (l.drop k) k = if x % 4 = a then (k : Int) else wantAt a o (l.drop (k + 1)) (k + 1) := by rw [drop_get h]; rfl
theorem wantAt_in {a : Nat} {o : Int} (h1 : -9223372036854775808 ≤ o) (h2 : o ≤ 9223372036854775807) : ∀ (l : List Nat) (i : Nat), i + l.length ≤ 100 → -9223372036854775808 ≤ wantAt a o l i ∧ wantAt a o l i ≤ 9223372036854775807
 | [], _, _ => ⟨h1, h2⟩
 | x :: r, i, hi => by
  rw [List.length_cons] at hi
  rw [wantAt]
  split
  ·omega
  ·exact wantAt_in h1 h2 r (i + 1) (by omega)
theorem vSames_one (x y : Int) : vSames [vz 2 x] [vz 2 y] = decide (x = y) := by
 show (vSame (vz 2 x) (vz 2 y) && true) = _
 rw [Bool.and_true]
 unfold vSame
 rw [cz_vz, cz_vz, show decide ((vz 2 x).1 = (vz 2 y).1) = true from rfl, Bool.true_and]
theorem says_at {a : Nat} {o : Int} : ∀ (l : List Nat) (i : Nat), (match (rowsAt l i).find? fun r => vSames r.1 [vz 2 (a : Int)] with | some r => r.2 | none => vz 2 o) = vz 2 (wantAt a o l i)
 | [], _ => rfl
 | x :: r, i => by
  rw [rowsAt, List.find?_cons, show vSames (rowT (x % 4) i).1 [vz 2 (a : Int)] = decide (x % 4 = a) by rw [show (rowT (x % 4) i).1 = [vz 2 ((x % 4 : Nat) : Int)] from rfl, vSames_one]; exact decide_eq_decide.2 (by omega), wantAt]
  by_cases h : x % 4 = a
  ·rw [decide_eq_true h, if_pos h]; rfl
  ·rw [decide_eq_false h, if_neg h]; exact says_at r (i + 1)
def fTab (l : List Nat) (o : Int) : Fn := ⟨⟨[102], [2], 2⟩, rowsAt l 0, vz 2 o⟩
theorem vIs_vz (Z : Int) : vIs (vz 2 Z) 2 = true := by
 unfold vIs
 rw [show M.isZ (vz 2 Z).2.1 (vz 2 Z).2.2 = true from M.isZ_of Z]
 rfl
theorem rowsAt_is : ∀ (l : List Nat) (i : Nat), ((rowsAt l i).all fun r => vIss r.1 [2] && vIs r.2 2) = true
 | [], _ => rfl
 | x :: r, i => by
  rw [rowsAt, List.all_cons, rowsAt_is r, Bool.and_true]
  show ((vIs (vz 2 _) 2 && true) && vIs (vz 2 _) 2) = true
  rw [vIs_vz, vIs_vz]
  rfl
theorem fTab_is (l : List Nat) (o : Int) : mIs [fTab l o] = true := by
 rw [mIs_true]
 intro k hk
 obtain rfl : k = 0 := by simp at hk; exact hk
 rw [okAt_some (f := fTab l o) rfl]
 unfold fnIs
 rw [show ksig (fTab l o).sg = true by kernel_rfl, show vIs (fTab l o).els (fTab l o).sg.ret = true from vIs_vz o, show ((fTab l o).rows.all fun r => vIss r.1 (fTab l o).sg.args && vIs r.2 (fTab l o).sg.ret) = true from rowsAt_is l 0]
 rfl
def tA (a : Nat) : Tm := .mk 4 false [] [102] 2 [knumT (a : Int)]
theorem tA_is {a : Nat} (h : a < 4) : kIs (tA a) = true := by
 rcases (by omega : a = 0 ∨ a = 1 ∨ a = 2 ∨ a = 3) with rfl | rfl | rfl | rfl <;> kernel_rfl
theorem tA_few {a : Nat} (h : a < 4) : kfew (tA a) = true := by
 rcases (by omega : a = 0 ∨ a = 1 ∨ a = 2 ∨ a = 3) with rfl | rfl | rfl | rfl <;> kernel_rfl
theorem ev_tA (m : List Fn) (a : Nat) : ev m (tA a) = mOf m ⟨[102], [2], 2⟩ [vz 2 (a : Int)] := by
 unfold tA
 rw [ev, if_neg (by decide), if_neg (by decide), if_neg (by decide), if_pos rfl, evs, evs, knumT, ev, if_pos rfl]
 rfl
theorem eval_tab {a : Nat} (h : a < 4) (l : List Nat) (o : Int) : mEval [fTab l o] (tA a) = vz 2 (wantAt a o l 0) := by
 unfold mEval
 rw [if_pos (tA_is h), mRead, if_pos (fTab_is l o), ev_tA]
 unfold mOf
 rw [List.find?_cons, show decide ((fTab l o).sg = (⟨[102], [2], 2⟩ : Sg)) = true from decide_eq_true rfl]
 exact says_at l 0
theorem eval_none {a : Nat} (h : a < 4) : mEval [] (tA a) = (2, false, []) := by
 unfold mEval
 rw [if_pos (tA_is h), show mRead [] = [] by unfold mRead; split <;> rfl, ev_tA]
 rfl
end M
/-- Bytes. -/
def VBytes (w : World) (v : Value) (xs : List Nat) : Prop := ∃ A n c, v = .slice A n c ∧ n = xs.length ∧ n ≤ c ∧ c ≤ maxLen ∧ ∀ (k x : Nat), xs[k]? = some x → x ≤ 255 ∧ ∃ ad, A = some ad ∧ ad.block < w.heap.size ∧ w.cell? (ad.add k) = some (.int .u8 (x : Int))
theorem VBytes.up {w w' : World} {v : Value} {xs : List Nat} (h : VBytes w v xs) (e : Ext w w') : VBytes w' v xs := by
 obtain ⟨A, n, c, h1, h2, h3, h4, h5⟩ := h
 refine ⟨A, n, c, h1, h2, h3, h4, fun k x hk => ?_⟩
 obtain ⟨hx, ad, ha, hb, hc⟩ := h5 k x hk
 exact ⟨hx, ad, ha, Nat.lt_of_lt_of_le hb e.size, e.cell hc⟩
end Go.Proofs.YtkhmgdfhggejaaaGreatDoor.Q

/-
  Layer 12's laws: a row more in the function's own block.
-/
namespace Go.Proofs.YtkhmgdfhggejaaaGreatDoor.Q
set_option linter.unusedSimpArgs false
set_option linter.unusedVariables false
open Go.RowKit

theorem gp_boxV {p : Nat → Prop} [DecidablePred p] {w : World} {g : Nat} {cs : Array Value} {T : TypeId} (h : Box w g cs T) (hp : p g) : Box (gp p w) g cs T := by
 show (gp p w).heap[g]? = _
 unfold gp
 simp only [Array.getElem?_mapIdx]
 rw [show w.heap[g]? = some (.cells cs T (0, 0)) from h]
 simp [hp]
theorem vlist_box {w : World} {g : Nat} {x : M.Vl} {N : Option Addr} {nn nc : Nat} {T : TypeId} (hb : Box w g #[.int .i64 x.1, .bool x.2.1, .slice N nn nc] T) (hn : LNum w (.slice N nn nc) x.2.2) : VList w (.slice (some ⟨g, 0, none⟩) 1 1) [x] := by
 obtain ⟨⟨c0, c1, c2⟩, -, -⟩ := box3v hb
 refine ⟨_, 1, 1, rfl, rfl, Nat.le_refl _, by decide, fun k y hk => ?_⟩
 obtain ⟨hk1, hy⟩ := List.getElem?_eq_some_iff.1 hk
 obtain rfl : k = 0 := by simpa using hk1
 obtain rfl : x = y := by simpa using hy
 refine ⟨_, rfl, hb.lt, N, nn, nc, ?_, ?_, ?_, hn⟩
 ·simpa [Addr.add_lit] using c0
 ·simpa [Addr.add_lit] using c1
 ·simpa [Addr.add_lit] using c2
theorem vz_pos (k : Nat) : (M.vz 2 (k : Int)).2.1 = false := by
 show decide ((k : Int) < 0) = false
 exact decide_eq_false (by omega)
/-- What the function's block holds. -/
abbrev fcells (gi : Nat) (rv : Value) (d : Bool) (A2 : Option Addr) (n2 c2 : Nat) : Array Value := #[str [102], .slice (some ⟨gi, 0, none⟩) 1 1, .int .i64 2, rv, .int .i64 2, .bool d, .slice A2 n2 c2]
def RTab (w2 : World) (gi : Nat) (d : Bool) (A2 : Option Addr) (n2 c2 g7 : Nat) (L : List Nat) (k : Nat) (rv : Value) (wr : World) : Prop :=
 Box wr g7 (fcells gi rv d A2 n2 c2) 60 ∧ OwnG RC 4 65 (g7 + 1) wr rv ((M.rowsAt L 0).take k) ∧ Ext w2 wr
theorem OwnG.frameB {α : Type} {C : World → α → List Value → Prop} {sz : Nat} {T : TypeId} (K : CKind C sz) {B : Nat} {w w' : World} {v : Value} {l : List α} (h : OwnG C sz T B w v l) (hs : w.heap.size ≤ w'.heap.size) (hb : ∀ b, B ≤ b → b < w.heap.size → w'.heap[b]? = w.heap[b]?) : OwnG C sz T B w' v l :=
 (OwnL.frame h hb).world K (gpv_mono hs fun k hk hq => ⟨hq, hb k hq.1 hk⟩)
theorem tab_app {w2 wr w7 : World} {gi : Nat} {d : Bool} {A2 : Option Addr} {n2 c2 g7 : Nat} {L : List Nat} {k x x4 : Nat} {RA : Option Addr} {rn rc : Nat} {g1 g2 : Nat} {A1 A3 : Option Addr} {n1 c1 n3 c3 : Nat}
 (hS : w2.heap.size = g7) (hR : RTab w2 gi d A2 n2 c2 g7 L k (.slice RA rn rc) wr) (E : Ext wr w7) (hx : L[k]? = some x) (hx4 : x % 4 = x4) (hk : k ≤ 10)
 (h1 : Box w7 g1 #[.int .i64 2, .bool false, .slice A1 n1 c1] 38) (hg1 : wr.heap.size ≤ g1) (h2 : Box w7 g2 #[.slice (some ⟨g1, 0, none⟩) 1 1, .int .i64 2, .bool false, .slice A3 n3 c3] 65)
 (l1 : LNum (gp (fun b => wr.heap.size ≤ b) w7) (.slice A1 n1 c1) (M.limbs ((x4 : Int)).natAbs)) (l3 : LNum (gp (fun b => wr.heap.size ≤ b) w7) (.slice A3 n3 c3) (M.limbs ((k : Int)).natAbs)) :
 ∃ B5 m5 c5 w8, (Builtin.append_ #[58, 58] 58 #[.slice RA rn rc, .slice (some ⟨g2, 0, none⟩) 1 1]).run Tryz.prog w7 = .ok (.slice B5 m5 c5) w8 ∧ Box w8 g7 (fcells gi (.slice RA rn rc) d A2 n2 c2) 60 ∧ RTab w2 gi d A2 n2 c2 g7 L (k + 1) (.slice B5 m5 c5) (w8.setCell ⟨g7, 3, none⟩ (.slice B5 m5 c5)) := by
 obtain ⟨hb, hO, he⟩ := hR
 have hlt := hb.lt
 have hsub : Sub (gp (fun b => wr.heap.size ≤ b) w7) (gp (beside (g7 + 1) (.slice RA rn rc)) w7) := beside_new hO hlt (Nat.le_refl _)
 have hrow : RC (gp (beside (g7 + 1) (.slice RA rn rc)) w7) (M.rowT x4 k) [.slice (some ⟨g1, 0, none⟩) 1 1, .int .i64 2, .bool false, .slice A3 n3 c3] := by
  refine ⟨some ⟨g1, 0, none⟩, 1, 1, A3, n3, c3, ?_, ?_, ?_⟩
  ·rw [show (M.rowT x4 k).2.1 = 2 from rfl, show (M.rowT x4 k).2.2.1 = false from vz_pos k]
  ·refine VList.sub (vlist_box (x := M.vz 2 (x4 : Int)) (T := 38) (gp_boxV ?_ hg1) l1) hsub
   rw [vz_pos x4]
   exact h1
  ·exact LNum.sub l3 hsub
 obtain ⟨v', w8, hrun, hO8, hB8, hK8⟩ := vappG_run rck rtk (c := 1) (m := [M.rowT x4 k]) (OwnG.up rck hO E) (lsrc_one hrow h2) (by rw [List.length_take]; simp; omega) (by have := E.size; omega) 58
 obtain ⟨B5, c5, rfl, -, -⟩ := hO8.shape
 refine ⟨_, _, _, w8, hrun, ?_, ?_, ?_, ?_⟩
 ·exact (hB8.block g7 (Nat.lt_succ_self _)).trans (hb.up E)
 ·exact Box.setAt (show Box w8 g7 (fcells gi (.slice RA rn rc) d A2 n2 c2) 60 from (hB8.block g7 (Nat.lt_succ_self _)).trans (hb.up E)) 3 _
 ·have hl : (M.rowsAt L 0).take (k + 1) = (M.rowsAt L 0).take k ++ [M.rowT x4 k] := by
   rw [List.take_add_one, M.rowsAt_get, hx, ← hx4, Nat.zero_add]; rfl
  rw [hl]
  refine OwnG.frameB rck hO8 ?_ fun b hb1 hb2 => Below.heap_setCell _ _ _ _ (show b ≠ g7 by omega)
  simp
 ·exact Ext.set' (show Ext w2 w8 from Below.trans (B := w2.heap.size) (he.trans E) (Below.mono hB8 (by omega))) (show w2.heap.size ≤ g7 by omega) _
end Go.Proofs.YtkhmgdfhggejaaaGreatDoor.Q

/-
  Layer 12's laws: ValueTables.
-/
namespace Go.Proofs.YtkhmgdfhggejaaaGreatDoor.Q
set_option linter.unusedSimpArgs false
set_option linter.unusedVariables false
open Go.RowKit

theorem M.vz_len {Z : Int} (h1 : -9223372036854775808 ≤ Z) (h2 : Z ≤ 9223372036854775807) : (M.vz 2 Z).2.2.length ≤ 3 := limbs_len3 (by omega)
theorem M.rowsAt_mem : ∀ {l : List Nat} {i : Nat} {r : List M.Vl × M.Vl}, r ∈ M.rowsAt l i → ∃ x k, x < 4 ∧ k < i + l.length ∧ r = M.rowT x k
 | [], _, _, h => by cases h
 | x :: l, i, r, h => by
  rw [M.rowsAt, List.mem_cons] at h
  rcases h with rfl | h
  ·exact ⟨x % 4, i, Nat.mod_lt _ (by omega), by simp, rfl⟩
  ·obtain ⟨y, k, h1, h2, h3⟩ := M.rowsAt_mem h
   exact ⟨y, k, h1, by simp; omega, h3⟩
theorem M.fTab_wd {l : List Nat} {o : Int} (h1 : -9223372036854775808 ≤ o) (h2 : o ≤ 9223372036854775807) (hl : l.length ≤ 10) : M.funWd (M.fTab l o) ∧ M.fnWd 40 (M.fTab l o) := by
 have hr : ∀ r ∈ (M.fTab l o).rows, r.1.length ≤ 100000 ∧ (∀ x ∈ r.1, x.2.2.length ≤ 3) ∧ r.2.2.2.length ≤ 3 := by
  intro r h
  obtain ⟨x, k, hx, hk, rfl⟩ := M.rowsAt_mem (show r ∈ M.rowsAt l 0 from h)
  refine ⟨by show 1 ≤ 100000; decide, fun y hy => ?_, M.vz_len (by omega) (by omega)⟩
  obtain rfl : y = M.vz 2 (x : Int) := by simpa [M.rowT] using hy
  exact M.vz_len (by omega) (by omega)
 have ho := M.vz_len h1 h2
 refine ⟨⟨by show 1 ≤ 1000000; decide, by show 1 ≤ 1000000000000; decide, ?_, fun r h => ⟨(hr r h).1, fun x hx => Nat.le_trans ((hr r h).2.1 x hx) (by decide), Nat.le_trans (hr r h).2.2 (by decide)⟩, Nat.le_trans ho (by decide)⟩, Nat.le_trans ho (by decide), fun r h => Nat.le_trans (hr r h).2.2 (by decide)⟩
 show (M.rowsAt l 0).length ≤ 100000
 rw [M.rowsAt_len]; omega
/-- A row of one function. -/
theorem fnlist_box {w : World} {g : Nat} {f : M.Fn} {A : Option Addr} {n c : Nat} {B : Option Addr} {m d : Nat} {N : Option Addr} {nn nc : Nat} {T : TypeId} (hb : Box w g #[str f.sg.name, .slice A n c, .int .i64 f.sg.ret, .slice B m d, .int .i64 f.els.1, .bool f.els.2.1, .slice N nn nc] T)
 (hi : Ints w f.sg.args (.slice A n c)) (hr : RwList w f.rows (.slice B m d)) (hn : LNum w (.slice N nn nc) f.els.2.2) : FnList w [f] (.slice (some ⟨g, 0, none⟩) 1 1) := by
 obtain ⟨⟨c0, c1, c2, c3, c4, c5, c6⟩, -⟩ := box7v hb
 refine ⟨_, 1, 1, rfl, rfl, Nat.le_refl _, by decide, fun k y hk => ?_⟩
 obtain ⟨hk1, hy⟩ := List.getElem?_eq_some_iff.1 hk
 obtain rfl : k = 0 := by simpa using hk1
 obtain rfl : f = y := by simpa using hy
 refine ⟨_, rfl, hb.lt, A, n, c, B, m, d, N, nn, nc, ⟨⟨?_, ?_, ?_⟩, ?_, ?_, ?_, ?_⟩, hi, hr, hn⟩
 ·simpa [Addr.add_lit] using c0
 ·simpa [Addr.add_lit] using c1
 ·simpa [Addr.add_lit] using c2
 ·simpa [Addr.add_lit] using c3
 ·simpa [Addr.add_lit] using c4
 ·simpa [Addr.add_lit] using c5
 ·simpa [Addr.add_lit] using c6
theorem vbytes_get {w : World} {A : Option Addr} {n c : Nat} {xs : List Nat} (h : VBytes w (.slice A n c) xs) {k x : Nat} (hk : xs[k]? = some x) : x ≤ 255 ∧ ∃ ad, A = some ad ∧ w.cell? (ad.add k) = some (.int .u8 (x : Int)) := by
 obtain ⟨A', n', c', e, -, -, -, h5⟩ := h
 simp only [Value.slice.injEq] at e
 obtain ⟨rfl, -, -⟩ := e
 obtain ⟨h1, ad, h2, -, h3⟩ := h5 k x hk
 exact ⟨h1, ad, h2, h3⟩
theorem ints_oneV {w : World} {g : Nat} {x : Int} {T : TypeId} (h : Box w g #[.int .i64 x] T) : Ints w [x] (.slice (some ⟨g, 0, none⟩) 1 1) := by
 refine ⟨_, _, _, rfl, rfl, Nat.le_refl _, by unfold maxLen; omega, fun _ => ⟨_, rfl, h.lt, fun k y hk => ?_⟩⟩
 match k, hk with
 | 0, hk => simp at hk; subst hk; exact h.k 0
theorem strIn_tab {w : World} {l : List Nat} {o : Int} {v : Value} (h : FnList w [M.fTab l o] v) (h1 : -9223372036854775808 ≤ o) (h2 : o ≤ 9223372036854775807) (hl : l.length ≤ 10) : StrIn w [M.fTab l o] v := by
 have hw := M.fTab_wd h1 h2 hl
 refine ⟨h, by show 1 ≤ 50000; decide, fun f hf => ?_, fun f hf => ?_⟩
 ·obtain rfl : f = M.fTab l o := by simpa using hf
  exact hw.1
 ·obtain rfl : f = M.fTab l o := by simpa using hf
  exact hw.2
set_option maxHeartbeats 40000000 in
set_option maxRecDepth 100000 in
theorem tables_v {L : List Nat} {a : Nat} {o : Int} {KA : Option Addr} {kn kc : Nat} {w : World} (hk : VBytes w (.slice KA kn kc) L) (ha : a ≤ 255) (ho1 : -9223372036854775808 ≤ o) (ho2 : o ≤ 9223372036854775807) (hT : Tab w) : Calls Tryz.prog 6 #[.slice KA kn kc, .int .u8 (a : Int), .int .i64 o] w (GivesB w true) := by
 have hlen : kn = L.length := by
  obtain ⟨A', n', c', e, h1, -⟩ := hk
  simp only [Value.slice.injEq] at e
  rw [e.2.1]; exact h1
 have HKN := hid (vknown_n hT)
 have HT := hid (fun w' (e : Ext w w') => hT.up e)
 have HK := hid (fun w' (e : Ext w w') => hk.up e)
 have HL := hid hlen
 have HA := hid ha
 have HO := hid (And.intro ho1 ho2)
 clear hT hk hlen ha ho1 ho2
 go_enter Tryz.func6, Tryz.ntmps6
 go_wp2_with fail
 refine HKN.out.mono ?_
 rintro e w1 ⟨rfl, hx⟩
 have E1 := hid hx
 clear hx HKN
 rcases Nat.lt_or_ge 10 kn with h10 | h10
 case inl =>
  have h10' : (10 : Int) < (kn : Int) := by omega
  go_wp2_with fail
  go_ret
  exact ⟨rfl, E1.out⟩
 have h10' : ¬ (10 : Int) < (kn : Int) := by omega
 go_wp2_with fail
 refine (rOf_z HO.out.1 HO.out.2 _).mono ?_
 rintro e w2 ⟨v2, rfl, hv2, hx⟩
 obtain ⟨A2, n2, c2, rfl, hn2, -⟩ := hv2
 obtain ⟨d, hd⟩ : ∃ d, decide (o < 0) = d := ⟨_, rfl⟩
 rw [hd]
 have HD := hid hd
 have HN2 := hid (show LNum w2 (.slice A2 n2 c2) (M.limbs o.natAbs) from hn2)
 have EX := hid hx
 clear hx hn2 hd
 go_upto_region 6 with (fail)
 obtain ⟨gi, hgi⟩ : ∃ g, w1.heap.size = g := ⟨_, rfl⟩
 obtain ⟨g7, hg7⟩ : ∃ g, w2.heap.size = g := ⟨_, rfl⟩
 have HI2 := hid (show Box w2 gi #[.int .i64 2] 3 from hgi ▸ (Box.new w1 _ _).up EX.out)
 refine vwp_at (fun W => Box W g7 (fcells gi (.slice none 0 0) d A2 n2 c2) 60 ∧ W.heap.size = g7 + 1 ∧ Ext w2 W) ⟨?b1, ?b2, ?b3⟩ ?_
 case b1 => rw [← hgi, ← hg7]; exact Box.new w2 _ _
 case b2 => rw [← hg7]; simp
 case b3 => exact Ext.alloc w2 _
 have HG7 := hid hg7
 have E2 := hid ((E1.out.alloc' _).trans EX.out)
 rw [hgi, hg7]
 clear hgi hg7 EX E1
 intro W ⟨hb0, hs0, he0⟩
 have HB := hid hb0
 have HS := hid hs0
 have EW := hid he0
 clear hb0 hs0 he0
 obtain ⟨a4, ha4⟩ : ∃ m : Nat, a % 4 = m := ⟨_, rfl⟩
 have HA4 := hid ha4
 clear ha4
 go_wp2_with fail
 go_loopw [8, 9] (fun x8 x9 wr => ∃ k : Nat, k ≤ kn ∧ x8 = .int .i64 (M.wantAt a4 o (L.drop k) k) ∧ x9 = .int .i64 ((k : Int) - 1) ∧ Hid (Ext W wr ∧ wr.heap.size = W.heap.size)) (fun _ x9 _ => (intOf x9 + 1).toNat)
 case atStart => exact ⟨kn, Nat.le_refl _, by rw [List.drop_of_length_le (by rw [HL.out]; exact Nat.le_refl _)]; rfl, rfl, Ext.refl _, rfl⟩
 case round =>
  obtain ⟨k, hk, rfl, rfl, hR⟩ := hrel
  rcases k with _ | j
  ·have EW2 := hid (EW.out.trans hR.out.1)
   have HB2 := hid (HB.out.up hR.out.1)
   have HW := hid (show M.wantAt a4 o (L.drop 0) 0 = M.wantAt a4 o L 0 from rfl)
   obtain ⟨wa, hwa⟩ : ∃ z, M.wantAt a4 o (L.drop 0) 0 = z := ⟨_, rfl⟩
   rw [hwa]
   replace HW := hid (HW.out.symm.trans hwa)
   clear hwa hR EW HB HS
   have HT0 := hid (show RTab w2 gi d A2 n2 c2 g7 L 0 (.slice none 0 0) wr from ⟨HB2.out, OwnG.nil _ _ _, EW2.out⟩)
   clear HB2 EW2
   go_wp2_with fail
   go_loopw [10] (fun x10 wr => ∃ (k : Nat) (rv : Value), k ≤ kn ∧ x10 = .int .i64 (k : Int) ∧ Hid (RTab w2 gi d A2 n2 c2 g7 L k rv wr)) (fun x10 _ => kn - (intOf x10).toNat)
   case atStart => exact ⟨0, _, Nat.zero_le _, rfl, HT0.out⟩
   case round =>
    obtain ⟨k, rv, hk, rfl, hR⟩ := hrel
    obtain ⟨hb0, hO, he⟩ := hR.out
    obtain ⟨RA, rc, hrv, -, -⟩ := hO.shape
    obtain ⟨rn, hrn⟩ : ∃ n, ((M.rowsAt L 0).take k).length = n := ⟨_, rfl⟩
    rw [hrn] at hrv
    subst hrv
    clear HT0
    rcases Nat.lt_or_ge k kn with hlt | hge
    ·have hlt' : (k : Int) < (kn : Int) := by omega
     have hk10 : k ≤ 10 := by omega
     obtain ⟨x, hx⟩ : ∃ x, L[k]? = some x := ⟨_, List.getElem?_eq_getElem (by have := HL.out; omega)⟩
     obtain ⟨hx255, ad, rfl, hc⟩ := vbytes_get (HK.out _ (E2.out.trans he)) hx
     obtain ⟨x4, hx4⟩ : ∃ m : Nat, x % 4 = m := ⟨_, rfl⟩
     have hx44 : x4 < 4 := by omega
     have hxi : (x : Int) % 4 = (x4 : Int) := by omega
     have HX := hid hx
     have HX4 := hid hx4
     have HR := hid hR.out
     have HB0 := hid hb0
     have HC0 := hid hc
     clear hx4 hx hR hx255 hO he hb0 hrn hc
     go_wp2_with fail
     refine wp_region_to (fun a0 a' w' => ∃ (A1 : Option Addr) (n1 c1 : Nat) (A3 : Option Addr) (n3 c3 : Nat) (q1 q2 : Nat) (B5 : Option Addr) (m5 c5 : Nat), a' = ((((((((((((((((((a0.put (some 47) (.pointer (some ⟨g7, 3, none⟩))).put (some 48) (.slice RA rn rc)).put (some 49) (.slice (some ad) kn kc)).put (some 50) (.int .i64 (k : Int))).put (some 51) (.pointer (some (ad.add k)))).put (some 52) (.int .u8 (x : Int))).put (some 53) (.int .u8 (x4 : Int))).put (some 54) (.int .i64 (x4 : Int))).put (some 58) (.int .i64 (k : Int))).put (some 55) (.agg #[.bool false, .slice A1 n1 c1])).put (some 56) (vv 2 false A1 n1 c1)).put (some 57) (.slice (some ⟨q1, 0, none⟩) 1 1)).put (some 59) (.agg #[.bool false, .slice A3 n3 c3])).put (some 60) (vv 2 false A3 n3 c3)).put (some 61) (.agg #[.slice (some ⟨q1, 0, none⟩) 1 1, .int .i64 2, .bool false, .slice A3 n3 c3])).put (some 62) (.slice (some ⟨q2, 0, none⟩) 1 1)).put (some 63) (.slice B5 m5 c5)).put (some 64) (.pointer (some ⟨g7, 3, none⟩))) ∧ RTab w2 gi d A2 n2 c2 g7 L (k + 1) (.slice B5 m5 c5) w') ?_ ?_
     ·refine wp_region_R (.pure 0 (.pure 1 (.pure 2 (.pure 3 (.pure 4 (.pure 5 (.pure 6 (.pure 7 (.pure 11 (.act 8 (.pure 9 (.two 10 (.act 12 (.pure 13 (.pure 14 (.act 15 (.late 16 (.any 17 (.late 18 .done))))))) 12 (.pure 13 (.act 10 (.pure 14 (.act 15 (.late 16 (.any 17 (.late 18 .done))))))))))))))))))) (fun wd hb => ?_) rfl (by kernel_rfl) (fun c a d v w => ⟨fun h => (nomatch h.1), fun h => (nomatch h.1)⟩)
      have E := hid hb
      replace HB0 := hid (HB0.out.up hb)
      replace HC0 := hid (hb.cell HC0.out)
      clear hb
      refine WT.p 47 (.pointer (some ⟨g7, 3, none⟩)) ?_
      simp only [Act.put, pA, pB, pC]
      refine WT.q 48 (.slice RA rn rc) rfl (fun w' hk => by have c3 := (HB0.out.up hk).k 3; go_simp) ?_
      simp only [Act.put, pA, pB, pC]
      refine WT.p 49 (.slice (some ad) kn kc) ?_
      simp only [Act.put, pA, pB, pC]
      refine WT.p 50 (.int .i64 (k : Int)) ?_
      simp only [Act.put, pA, pB, pC]
      refine WT.p 51 (.pointer (some (ad.add k))) ?_
      simp only [Act.put, pA, pB, pC]
      refine WT.q 52 (.int .u8 (x : Int)) rfl (fun w' hk => by have c3 := hk.cell HC0.out; go_simp) ?_
      simp only [Act.put, pA, pB, pC]
      refine WT.q 53 (.int .u8 (x4 : Int)) rfl (fun w' hk => by have ht : (x : Int).tmod 4 = (x4 : Int) := (by rw [Int.tmod_eq_emod_of_nonneg (by omega)]; exact hxi); go_simp) ?_
      simp only [Act.put, pA, pB, pC]
      refine WT.q 54 (.int .i64 (x4 : Int)) rfl (fun w' hk => by have ht : IntKind.i64.wrap (x4 : Int) = (x4 : Int) := (by rw [IntKind.wrap_i64]; omega); go_simp) ?_
      simp only [Act.put, pA, pB, pC]
      refine WT.p 58 (.int .i64 (k : Int)) ?_
      simp only [Act.put, pA, pB, pC]
      refine WT.act_ ?_
      refine wpOp_callT 55 ((rOf_own (n := (x4 : Int)) (by omega) (by omega) _).mono ?_)
      rintro e w4 ⟨A1, n1, c1, rfl, hl1, hx⟩
      refine ⟨_, rfl, hx, ?_⟩
      have L1 := hid (show LNum (gp (fun b => wr.heap.size ≤ b) w4) (.slice A1 n1 c1) (M.limbs (x4 : Int).natAbs) from LNum.sub hl1 (gp_low E.out.size (Ext.refl _)))
      replace E := hid (E.out.trans hx)
      clear hx hl1 HC0
      simp only [Act.put, pA, pB, pC]
      refine WT.p 56 (vv 2 false A1 n1 c1) ?_
      simp only [Act.put, pA, pB, pC]
      refine WT.two_ ?_ ?_
      ·obtain ⟨q1, hq1⟩ : ∃ q, w4.heap.size = q := ⟨_, rfl⟩
       refine wpOp_newT 57 (cs := #[.int .i64 2, .bool false, .slice A1 n1 c1]) (t := 38) (v := .slice (some ⟨w4.heap.size, 0, none⟩) 1 1) (fun w5 hx hbx => ?_)
       have HQ1 := hid (show wr.heap.size ≤ q1 by rw [← hq1]; exact E.out.size)
       rw [hq1] at hbx ⊢
       replace E := hid (E.out.trans hx)
       have BQ := hid hbx
       replace L1 := hid (LNum.sub L1.out (gp_extV hx))
       clear hx hbx hq1
       simp only [Act.put, pA, pB, pC]
       refine WT.act_ ?_
       refine wpOp_callT 59 ((rOf_own (n := (k : Int)) (by omega) (by omega) _).mono ?_)
       rintro e w6 ⟨A3, n3, c3, rfl, hl3, hx⟩
       refine ⟨_, rfl, hx, ?_⟩
       have L3 := hid (show LNum (gp (fun b => wr.heap.size ≤ b) w6) (.slice A3 n3 c3) (M.limbs (k : Int).natAbs) from LNum.sub hl3 (gp_low E.out.size (Ext.refl _)))
       replace E := hid (E.out.trans hx)
       replace BQ := hid (BQ.out.up hx)
       replace L1 := hid (LNum.sub L1.out (gp_extV hx))
       clear hx hl3
       simp only [Act.put, pA, pB, pC]
       refine WT.p 60 (vv 2 false A3 n3 c3) ?_
       simp only [Act.put, pA, pB, pC]
       refine WT.p 61 (.agg #[.slice (some ⟨q1, 0, none⟩) 1 1, .int .i64 2, .bool false, .slice A3 n3 c3]) ?_
       simp only [Act.put, pA, pB, pC]
       refine WT.act_ ?_
       refine wpOp_newT 62 (cs := #[.slice (some ⟨q1, 0, none⟩) 1 1, .int .i64 2, .bool false, .slice A3 n3 c3]) (t := 65) (v := .slice (some ⟨w6.heap.size, 0, none⟩) 1 1) (fun w7 hx7 hbx => ?_)
       replace E := hid (E.out.trans hx7)
       replace BQ := hid (BQ.out.up hx7)
       replace L1 := hid (LNum.sub L1.out (gp_extV hx7))
       replace L3 := hid (LNum.sub L3.out (gp_extV hx7))
       obtain ⟨B5, m5, c5, w8, hrun, hbf, hT8⟩ := tab_app HG7.out HR.out E.out HX.out HX4.out hk10 BQ.out HQ1.out hbx L1.out L3.out
       clear hx7 hbx
       simp only [Act.put, pA, pB, pC]
       refine WT.late_ (wpOp_actV (n := 63) rfl (kexec_app (.tmp 48) (.tmp 62) rfl rfl rfl hrun) rfl (by rfl) ?_)
       clear hrun
       simp only [Act.put, pA, pB, pC]
       refine WT.y 64 (.pointer (some ⟨g7, 3, none⟩)) ?_
       simp only [Act.put, pA, pB, pC]
       obtain ⟨z3, f3⟩ : w8.cell? ⟨g7, 3, none⟩ = some (.slice RA rn rc) ∧ w8.frozen? ⟨g7, 3, none⟩ = false := ⟨hbf.k 3, hbf.free 3⟩
       refine WT.st (w' := w8.setCell ⟨g7, 3, none⟩ (.slice B5 m5 c5)) ?_
       exact WT.done_ ⟨rfl, A1, n1, c1, A3, n3, c3, q1, _, B5, m5, c5, rfl, hT8⟩
      ·refine wpOp_callT 59 ((rOf_own (n := (k : Int)) (by omega) (by omega) _).mono ?_)
       rintro e w5 ⟨A3, n3, c3, rfl, hl3, hx⟩
       refine ⟨_, rfl, hx, ?_⟩
       have L3 := hid (show LNum (gp (fun b => wr.heap.size ≤ b) w5) (.slice A3 n3 c3) (M.limbs (k : Int).natAbs) from LNum.sub hl3 (gp_low E.out.size (Ext.refl _)))
       replace E := hid (E.out.trans hx)
       replace L1 := hid (LNum.sub L1.out (gp_extV hx))
       clear hx hl3
       simp only [Act.put, pA, pB, pC]
       refine WT.p 60 (vv 2 false A3 n3 c3) ?_
       simp only [Act.put, pA, pB, pC]
       refine WT.act_ ?_
       obtain ⟨q1, hq1⟩ : ∃ q, w5.heap.size = q := ⟨_, rfl⟩
       refine wpOp_newT 57 (cs := #[.int .i64 2, .bool false, .slice A1 n1 c1]) (t := 38) (v := .slice (some ⟨w5.heap.size, 0, none⟩) 1 1) (fun w6 hx hbx => ?_)
       have HQ1 := hid (show wr.heap.size ≤ q1 by rw [← hq1]; exact E.out.size)
       rw [hq1] at hbx ⊢
       replace E := hid (E.out.trans hx)
       have BQ := hid hbx
       replace L1 := hid (LNum.sub L1.out (gp_extV hx))
       replace L3 := hid (LNum.sub L3.out (gp_extV hx))
       clear hx hbx hq1
       simp only [Act.put, pA, pB, pC]
       refine WT.p 61 (.agg #[.slice (some ⟨q1, 0, none⟩) 1 1, .int .i64 2, .bool false, .slice A3 n3 c3]) ?_
       simp only [Act.put, pA, pB, pC]
       refine WT.act_ ?_
       refine wpOp_newT 62 (cs := #[.slice (some ⟨q1, 0, none⟩) 1 1, .int .i64 2, .bool false, .slice A3 n3 c3]) (t := 65) (v := .slice (some ⟨w6.heap.size, 0, none⟩) 1 1) (fun w7 hx7 hbx => ?_)
       replace E := hid (E.out.trans hx7)
       replace BQ := hid (BQ.out.up hx7)
       replace L1 := hid (LNum.sub L1.out (gp_extV hx7))
       replace L3 := hid (LNum.sub L3.out (gp_extV hx7))
       obtain ⟨B5, m5, c5, w8, hrun, hbf, hT8⟩ := tab_app HG7.out HR.out E.out HX.out HX4.out hk10 BQ.out HQ1.out hbx L1.out L3.out
       clear hx7 hbx
       simp only [Act.put, pA, pB, pC]
       refine WT.late_ (wpOp_actV (n := 63) rfl (kexec_app (.tmp 48) (.tmp 62) rfl rfl rfl hrun) rfl (by rfl) ?_)
       clear hrun
       simp only [Act.put, pA, pB, pC]
       refine WT.y 64 (.pointer (some ⟨g7, 3, none⟩)) ?_
       simp only [Act.put, pA, pB, pC]
       obtain ⟨z3, f3⟩ : w8.cell? ⟨g7, 3, none⟩ = some (.slice RA rn rc) ∧ w8.frozen? ⟨g7, 3, none⟩ = false := ⟨hbf.k 3, hbf.free 3⟩
       refine WT.st (w' := w8.setCell ⟨g7, 3, none⟩ (.slice B5 m5 c5)) ?_
       exact WT.done_ ⟨rfl, A1, n1, c1, A3, n3, c3, q1, _, B5, m5, c5, rfl, hT8⟩
     ·rintro a' w8 ⟨A1, n1, c1, A3, n3, c3, q1, q2, B5, m5, c5, rfl, hT8⟩
      have HT8 := hid hT8
      clear hT8
      simp only [Act.put, pA, pB, pC]
      go_wp2_with fail
      clear hxi
      go_roundw
      case rel => exact ⟨k + 1, _, by omega, by simp, HT8.out⟩
      case measure => simp [intOf]; omega
    ·obtain rfl : k = kn := by omega
     have hrows := hO.rows
     rw [show (M.rowsAt L 0).take k = M.rowsAt L 0 from List.take_of_length_le (by rw [M.rowsAt_len, HL.out]; exact Nat.le_refl _)] at hrows
     have HM0 := hid (show FnList (wr.alloc (.cells (fcells gi (.slice RA rn rc) d A2 n2 c2) 60)) [M.fTab L o] (.slice (some ⟨wr.heap.size, 0, none⟩) 1 1) from
      fnlist_box (f := M.fTab L o) (T := 60) (by rw [show (M.fTab L o).els.2.1 = d from HD.out]; exact Box.new wr _ _) (ints_oneV ((HI2.out.up he).up (Ext.alloc wr _))) ((hrows.sub (gp_sub _ _)).up (Ext.alloc wr _)) ((HN2.out.up he).up (Ext.alloc wr _)))
     have HM := hid (strIn_tab (l := L) HM0.out HO.out.1 HO.out.2 (by have := HL.out; omega))
     have E := hid ((E2.out.trans he).alloc' (.cells (fcells gi (.slice RA rn rc) d A2 n2 c2) 60))
     obtain ⟨⟨b0, b1, b2, b3, b4, b5, b6⟩, -⟩ := box7v hb0
     have HA4' := hid (show a4 < 4 by have := HA4.out; omega)
     have hai : (a : Int) % 4 = (a4 : Int) := by have := HA4.out; omega
     have hwr : IntKind.i64.wrap (a4 : Int) = (a4 : Int) := by rw [IntKind.wrap_i64]; have := HA4'.out; omega
     clear hR hO he hb0 hrows HM0 HI2 HN2 hrn hge
     go_wp2_with fail
     refine (vnum_n (Z := (a4 : Int)) (by omega) (by have := HA4'.out; omega) _).mono ?_
     rintro e w3 ⟨v3, rfl, hv3, hx⟩
     have HT3 := hid hv3
     obtain ⟨N3, nn3, nc3, A3, c3, rfl, -, -⟩ := hv3
     replace HM := hid (HM.out.up hx)
     replace E := hid (E.out.trans hx)
     obtain ⟨gm, hgm⟩ : ∃ g, wr.heap.size = g := ⟨_, rfl⟩
     rw [hgm]
     rw [hgm] at HM
     clear hx b0 b1 b2 b3 b4 b5 b6 hai hwr hgm
     go_upto_region 18 with (fail)
     refine vwp_at (fun W => ∃ g1 g2, Box W g2 #[.int .i64 4, .bool false, .slice none 0 0, str [102], .int .i64 2, .slice (some ⟨g1, 0, none⟩) 1 1] 27 ∧ Tms W [M.knumT (a4 : Int)] (.slice (some ⟨g1, 0, none⟩) 1 1) ∧ g1 = w3.heap.size ∧ g2 = w3.heap.size + 1 ∧ Ext w3 W) ⟨_, _, ?b1, ?b2, rfl, rfl, ?b3⟩ ?_
     case b1 => exact Box.at_ (w := w3.alloc _) _ _ (by simp)
     case b2 => exact (tms_one (HT3.out.up (Ext.alloc w3 _)) (Box.new w3 _ 27)).up (Ext.alloc _ _)
     case b3 => exact (Ext.alloc w3 _).trans (Ext.alloc _ _)
     intro W3 ⟨g1, g2, hb2, htm, hg1, hg2, he⟩
     rw [← hg2, ← hg1]
     have HB := hid hb2
     have HTM := hid htm
     replace E := hid (E.out.trans he)
     replace HM := hid (HM.out.up he)
     clear hb2 htm hg1 hg2 he HT3
     have HIS := hid (show ∀ w', Ext W3 w' → Calls Tryz.prog 23 #[.slice (some ⟨gm, 0, none⟩) 1 1] w' (GivesB w' true) from fun w' e => M.fTab_is L o ▸ is_v (HM.out.list.up e) (fun f hf => (HM.out.fw f hf).2.1))
     go_wp2_with fail
     refine (HIS.out _ (Ext.refl _)).mono ?_
     rintro e w4 ⟨rfl, hx⟩
     replace HB := hid (HB.out.up hx)
     replace HTM := hid (HTM.out.up hx)
     replace E := hid (E.out.trans hx)
     replace HM := hid (HM.out.up hx)
     clear hx HIS
     obtain ⟨⟨b0, b1, b2, b3, b4, b5⟩, -, -⟩ := boxF6 HB.out
     go_wp2_with fail
     refine (eval_v (t := M.tA a4) HM.out (show IsTm w4 (M.tA a4) (kv 4 false none 0 0 [102] 2 (some ⟨g1, 0, none⟩) 1 1) from ⟨none, 0, 0, some ⟨g1, 0, none⟩, 1, rfl, LNum.nil _, HTM.out⟩) (M.tA_few HA4'.out) (HT.out _ E.out)).mono ?_
     rintro e w5 ⟨v5, rfl, hv5, hx, -⟩
     rw [M.eval_tab HA4'.out, HW.out] at hv5
     have hn5 : ∃ g N n c, v5 = vv 2 g N n c ∧ decide (wa < 0) = g ∧ LNum w5 (.slice N n c) (M.limbs wa.natAbs) := by
      obtain ⟨N, n, c, rfl, h⟩ := hv5
      exact ⟨_, N, n, c, rfl, rfl, h⟩
     obtain ⟨g5, N5, n5, c5, rfl, hg5, hn5⟩ := hn5
     have HN5 := hid hn5
     have HG5 := hid hg5
     replace HB := hid (HB.out.up hx)
     replace HTM := hid (HTM.out.up hx)
     replace E := hid (E.out.trans hx)
     clear hx hv5 hn5 hg5 b0 b1 b2 b3 b4 b5 HM
     have hfl := field_vN
     go_wp2_with fail
     clear hfl
     have HWB := hid (M.wantAt_in (a := a4) HO.out.1 HO.out.2 L 0 (by have := HL.out; omega))
     rw [HW.out] at HWB
     refine (rOf_z HWB.out.1 HWB.out.2 _).mono ?_
     rintro e w6 ⟨v6, rfl, hv6, hx⟩
     obtain ⟨A6, n6, c6, rfl, hn6, -⟩ := hv6
     rw [HG5.out]
     have HN6 := hid (show LNum w6 (.slice A6 n6 c6) (M.limbs wa.natAbs) from hn6)
     replace HN5 := hid (HN5.out.up hx)
     replace HB := hid (HB.out.up hx)
     replace HTM := hid (HTM.out.up hx)
     replace E := hid (E.out.trans hx)
     clear hx hn6
     go_wp2_with fail
     refine (equal_same HN5.out HN6.out).mono ?_
     rintro e w7 ⟨rfl, hx⟩
     replace HB := hid (HB.out.up hx)
     replace HTM := hid (HTM.out.up hx)
     replace E := hid (E.out.trans hx)
     clear hx HN5 HN6
     obtain ⟨⟨b0, b1, b2, b3, b4, b5⟩, -, -⟩ := boxF6 HB.out
     go_wp2_with fail
     refine (eval_v (m := []) (t := M.tA a4) (strIn_nil _) (show IsTm w7 (M.tA a4) (kv 4 false none 0 0 [102] 2 (some ⟨g1, 0, none⟩) 1 1) from ⟨none, 0, 0, some ⟨g1, 0, none⟩, 1, rfl, LNum.nil _, HTM.out⟩) (M.tA_few HA4'.out) (HT.out _ E.out)).mono ?_
     rintro e w8 ⟨v8, rfl, hv8, hx, -⟩
     rw [M.eval_none HA4'.out] at hv8
     obtain ⟨N8, n8, c8, rfl, hn8⟩ := hv8
     have HN8 := hid (show LNum w8 (.slice N8 n8 c8) [] from hn8)
     replace E := hid (E.out.trans hx)
     clear hx hn8 b0 b1 b2 b3 b4 b5 HB HTM
     have hfl := field_vN
     go_wp2_with fail
     clear hfl
     refine (rSign_w (s := 0) (worth_tm (g := false) HN8.out) (by kernel_rfl)).mono ?_
     rintro e w9 ⟨rfl, hx⟩
     replace E := hid (E.out.trans hx)
     clear hx
     go_wp2_with fail
     go_ret
     exact ⟨rfl, E.out⟩
  ·rw [show ((j + 1 : Nat) : Int) - 1 = (j : Int) by omega]
   obtain ⟨x, hx⟩ : ∃ x, L[j]? = some x := ⟨_, List.getElem?_eq_getElem (by have := HL.out; omega)⟩
   have E := hid (E2.out.trans (EW.out.trans hR.out.1))
   obtain ⟨hx255, ad, rfl, hc⟩ := vbytes_get (HK.out _ E.out) hx
   obtain ⟨x4, hx4⟩ : ∃ m : Nat, x % 4 = m := ⟨_, rfl⟩
   have HWT := hid (show M.wantAt a4 o (L.drop j) j = if x4 = a4 then (j : Int) else M.wantAt a4 o (L.drop (j + 1)) (j + 1) by rw [M.wantAt_ge hx, hx4])
   have hxi : (x : Int) % 4 = (x4 : Int) := by omega
   have hai : (a : Int) % 4 = (a4 : Int) := by have := HA4.out; omega
   obtain ⟨wa, hwa⟩ : ∃ z, M.wantAt a4 o (L.drop (j + 1)) (j + 1) = z := ⟨_, rfl⟩
   rw [hwa]
   rw [hwa] at HWT
   have HR := hid hR.out
   have HX := hid hx255
   clear hwa hx4 hx hR hx255
   have hjk : (j : Int) < (kn : Int) := by omega
   by_cases hq : x4 = a4
   ·have hq' : (x4 : Int) = (a4 : Int) := by omega
    go_wp2_with fail
    clear hxi hai
    go_roundw
    case rel => exact ⟨j, by omega, by rw [HWT.out, if_pos hq], rfl, HR.out⟩
    case measure => simp [intOf]
   ·have hq' : ¬ (x4 : Int) = (a4 : Int) := by omega
    go_wp2_with fail
    clear hxi hai
    go_roundw
    case rel => exact ⟨j, by omega, by rw [HWT.out, if_neg hq], rfl, HR.out⟩
    case measure => simp [intOf]
end Go.Proofs.YtkhmgdfhggejaaaGreatDoor.Q

