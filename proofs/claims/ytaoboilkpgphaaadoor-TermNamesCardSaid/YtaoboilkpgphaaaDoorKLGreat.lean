/-
  Layer 10, the laws: TermGreat.
-/
import Derived.Test.YtaoboilkpgphaaaDoorKTFace
import Derived.Test.YtaoboilkpgphaaaDoorKLGreatM
import Derived.Test.YtaoboilkpgphaaaDoorKOwnT
namespace Go.Proofs.YtaoboilkpgphaaaDoor.Q
set_option linter.unusedSimpArgs false
set_option linter.unusedVariables false
open Go.RowKit

theorem wpList_appTm {B : Nat} {V w : World} {ops : Array Oper} {rest : List Oper} {o : Oper} {a : Act} {Q : Exit → Act → World → Prop} (hgd : o.guard = none) (s x : Operand)
 (ho : o.op = .call { callee := .builtin .append, args := #[s, x], argTypes := #[25, 25] }) {v : Value} {l m : List M.Tm} {A : Option Addr} {n c : Nat}
 (hs : a.eval s = v) (hx : a.eval x = .slice A n c) (h : OwnT B V w v l) (hm : TmSrc V w m A n) (hlen : l.length + m.length ≤ 1000000) (hbase : B ≤ w.heap.size)
 (hq : ∀ v' w', OwnT B V w' v' (l ++ m) → Below B w w' → Kept v.ownBlock.toList w w' → wpList Tryd.prog ops Q rest (a.put o.dst v') w') : wpList Tryd.prog ops Q (o :: rest) a w := by
 obtain ⟨v', w', hr, h2, h3, h4⟩ := appTm_run (c := c) h hm hlen hbase o.type
 refine wpList_plain hgd fun K hK => ?_
 unfold Oper.wp execOp
 simp only [ho, resolve, invoke, builtin, Sem.run_bind, Sem.run_pure, Result.andThen_ok, List.map_toArray, List.map_cons, List.map_nil, hs, hx, hr]
 exact hK _ _ (hq v' w' h2 h3 h4)
set_option maxHeartbeats 16000000 in
set_option maxRecDepth 100000 in
theorem great_398_deep {nI : Int} {w : World} (h0 : 0 ≤ nI) (h1 : nI ≤ 255) (hr : nI % 3 = 0) (ht : Tab w) : Calls Tryd.prog 6 #[.int .u8 nI, .bool true] w (GivesB w true) := by
 have HKN := hid (show ∀ w', Ext w w' → Calls Tryd.prog 8 #[] w' (GivesB w' true) from fun w' e => known_t (ht.up e))
 have HCON := hid (show ∀ w', Calls Tryd.prog 23 #[.string ⟨#[112]⟩, .int .i64 1] w' (fun e w'' => ∃ N1 nn1 nc1 A1 c1, e = .returned (kv 4 false N1 nn1 nc1 [112] 1 A1 0 c1) ∧ IsTm w'' M.pB (kv 4 false N1 nn1 nc1 [112] 1 A1 0 c1) ∧ (LNum w'' (.slice N1 nn1 nc1) [] ∧ Tms w'' [] (.slice A1 0 c1)) ∧ Ext w' w'') from fun w' => (con_n [112] 1 w').mono fun e w'' ⟨v, h1, h2, h3⟩ => by
  have h2' := h2
  obtain ⟨N1, nn1, nc1, A1, c1, rfl, h4, h5⟩ := h2
  exact ⟨N1, nn1, nc1, A1, c1, h1, h2', ⟨h4, h5⟩, h3⟩)
 have HT := hid ht
 have E := hid (Ext.refl w)
 clear ht
 go_enter Tryd.func6, Tryd.ntmps6
 go_wp2_with fail
 refine (HKN.out _ E.out).mono ?_
 rintro e w1 ⟨rfl, hb⟩
 replace E := hid (E.out.trans hb)
 clear hb
 go_wp2_with fail
 refine (HCON.out _).mono ?_
 rintro e w2 ⟨N1, nn1, nc1, A1, c1, rfl, hT, ⟨hN, hK⟩, hb⟩
 replace E := hid (E.out.trans hb)
 have hsz : w.heap.size ≤ w2.heap.size := E.out.size
 obtain ⟨wb, hwb⟩ : ∃ x, x = w2.alloc (.cells #[.int .i64 4, .bool false, .slice N1 nn1 nc1, str [112], .int .i64 1, .slice A1 0 c1] 27) := ⟨_, rfl⟩
 have EB := hid (show Ext w wb from hwb ▸ E.out.alloc' _)
 have HB := hid (show Box wb w2.heap.size #[.int .i64 4, .bool false, .slice N1 nn1 nc1, str [112], .int .i64 1, .slice A1 0 c1] 27 from hwb ▸ Box.new w2 _ _)
 have HT1 := hid (show IsTm wb M.pB (kv 4 false N1 nn1 nc1 [112] 1 A1 0 c1) from hwb ▸ hT.up (Ext.alloc _ _))
 have HN1 := hid (show LNum wb (.slice N1 nn1 nc1) [] from hwb ▸ hN.up (Ext.alloc _ _))
 have HK1 := hid (show Tms wb [] (.slice A1 0 c1) from hwb ▸ hK.up (Ext.alloc _ _))
 clear hT hN hK hb
 go_wp2_with fail
 rw [← hwb]
 clear hwb E
 go_loopw [7, 8] (fun x i wr => ∃ (z : Int) (m : Nat), x = .int .i64 z ∧ i = .int .i64 (m : Int) ∧ m ≤ 398 ∧ Hid (Ext w wr) ∧ ((z = 0 ∧ m ≤ 399 ∧ ∃ op g N nn nc nm so A n c, Hid (Box wr w2.heap.size #[.int .i64 op, .bool g, .slice N nn nc, str nm, .int .i64 so, .slice A n c] 27) ∧ Hid (IsTm wr (M.notN m) (kv op g N nn nc nm so A n c))) ∨ (z = 11 ∧ m = 400))) (fun _ i _ => 398 - (intOf i).toNat)
 case atStart => exact ⟨0, 0, rfl, rfl, by omega, EB, .inl ⟨rfl, by omega, 4, false, N1, nn1, nc1, [112], 1, A1, 0, c1, HB, HT1⟩⟩
 case round =>
  obtain ⟨z, m, rfl, rfl, hm, E3, hS⟩ := hrel
  clear HB HT1 HN1 HK1 EB
  rcases hS with ⟨rfl, hm9, op, g, N, nn, nc, nm, so, A, n, c, HB3, HT3⟩ | ⟨rfl, rfl⟩
  ·rcases Nat.lt_or_ge m 398 with hlt | hge
   ·have hlt' : (m : Int) < 398 := by omega
    obtain ⟨⟨r0, r1, r2, r3, r4, r5⟩, ⟨f0, f1, f2, f3, f4, f5⟩, hzr⟩ := boxF6 HB3.out
    by_cases h2 : m + 2 ≤ 400
    ·have HMK := hid (show ∀ w' gb, Ext wr w' → Box w' gb #[.int .i64 op, .bool g, .slice N nn nc, str nm, .int .i64 so, .slice A n c] 27 → Calls Tryd.prog 20 #[.int .i64 5, .slice (some ⟨gb, 0, none⟩) 1 1] w' (fun e w'' => ∃ o5 g5 N5 nn5 nc5 m5 s5 A5 n5 c5, e = .returned (.tuple #[kv o5 g5 N5 nn5 nc5 m5 s5 A5 n5 c5, .int .i64 0]) ∧ IsTm (gp (fun b => w'.heap.size ≤ b) w'') (M.notN (m + 1)) (kv o5 g5 N5 nn5 nc5 m5 s5 A5 n5 c5) ∧ Ext w' w'') from fun w' gb e hb =>
      (make_tn (op := 5) (tms_one (HT3.out.up e) hb) (by simp [M.kfews, M.notN_few]) (HT.out.up (E3.out.trans e))).mono fun e w'' ⟨v, h1, h2', h3⟩ => by
       rw [M.notN_make (by omega), if_pos h2] at h1 h2'
       have h4 := h2'
       obtain ⟨N5, nn5, nc5, A5, c5, rfl, -, -⟩ := h2'
       exact ⟨_, _, N5, nn5, nc5, _, _, A5, _, c5, h1, h4, h3⟩)
     go_wp2_with fail
     refine (HMK.out _ _ (Ext.alloc _ _) (Box.new _ _ _)).mono ?_
     rintro e w3 ⟨o5, g5, N5, nn5, nc5, m5, s5, A5, n5, c5, rfl, hT, hb⟩
     have hlt2 : w2.heap.size < (wr.alloc (.cells #[.int .i64 op, .bool g, .slice N nn nc, str nm, .int .i64 so, .slice A n c] 27)).heap.size := Nat.lt_of_lt_of_le HB3.out.lt (by simp)
     have HTN := hid (show IsTm (put6 w3 w2.heap.size (.int .i64 o5) (.bool g5) (.slice N5 nn5 nc5) (str m5) (.int .i64 s5) (.slice A5 n5 c5)) (M.notN (m + 1)) (kv o5 g5 N5 nn5 nc5 m5 s5 A5 n5 c5) from new_put hT hlt2)
     have HBN := hid ((HB3.out.alloc _).up hb)
     have E4 := hid ((E3.out.alloc' _).trans hb)
     clear r0 r1 r2 r3 r4 r5 f0 f1 f2 f3 f4 f5 hzr hT hb
     obtain ⟨⟨r0, r1, r2, r3, r4, r5⟩, ⟨f0, f1, f2, f3, f4, f5⟩, hzr⟩ := boxF6 HBN.out
     go_wp2_with fail
     go_roundw
     case rel => exact ⟨0, m + 1, rfl, by simp, by omega, hid (put6_ext E4.out (by omega)), .inl ⟨rfl, by omega, o5, g5, N5, nn5, nc5, m5, s5, A5, n5, c5, hid ((((((HBN.out.setAt 0 _).setAt 1 _).setAt 2 _).setAt 3 _).setAt 4 _).setAt 5 _), HTN⟩⟩
     case measure => simp [intOf]; omega
    ·omega
   ·obtain rfl : m = 398 := by omega
    have HCT := hid (show ∀ w', Ext wr w' → Calls Tryd.prog 14 #[kv op g N nn nc nm so A n c] w' (GivesI w' 399) from fun w' e => by
     have h := count_t _ (HT3.out.up e)
     rw [M.notN_cnt, Nat.min_eq_left (by omega)] at h
     exact h)
    have HIS := hid (show ∀ w', Ext wr w' → Calls Tryd.prog 13 #[kv op g N nn nc nm so A n c] w' (GivesB w' true) from fun w' e => by
     have h := is_t (HT3.out.up e) (M.notN_few _) (HT.out.up (E3.out.trans e))
     rwa [M.notN_is (by omega)] at h)
    obtain ⟨⟨r0, r1, r2, r3, r4, r5⟩, -, -⟩ := boxF6 HB3.out
    go_wp2_with fail
    refine (HCT.out _ (Ext.refl _)).mono ?_
    rintro e w8 ⟨rfl, hb⟩
    clear r0 r1 r2 r3 r4 r5
    have E8 := hid hb
    have HB8 := hid (HB3.out.up hb)
    clear hb
    obtain ⟨⟨r0, r1, r2, r3, r4, r5⟩, -, -⟩ := boxF6 HB8.out
    go_wp2_with fail
    refine (HIS.out _ E8.out).mono ?_
    rintro e w9 ⟨rfl, hb⟩
    clear r0 r1 r2 r3 r4 r5
    replace E8 := hid (E8.out.trans hb)
    clear hb
    go_wp2_with fail
    go_ret
    exact ⟨rfl, E3.out.trans E8.out⟩
  ·omega
set_option maxHeartbeats 16000000 in
set_option maxRecDepth 100000 in
theorem great_398_flat {nI : Int} {w : World} (h0 : 0 ≤ nI) (h1 : nI ≤ 255) (hr : nI % 3 = 0) (ht : Tab w) : Calls Tryd.prog 6 #[.int .u8 nI, .bool false] w (GivesB w true) := by
 have HKN := hid (show ∀ w', Ext w w' → Calls Tryd.prog 8 #[] w' (GivesB w' true) from fun w' e => known_t (ht.up e))
 have HCON := hid (show ∀ w', Calls Tryd.prog 23 #[.string ⟨#[112]⟩, .int .i64 1] w' (fun e w'' => ∃ N1 nn1 nc1 A1 c1, e = .returned (kv 4 false N1 nn1 nc1 [112] 1 A1 0 c1) ∧ IsTm w'' M.pB (kv 4 false N1 nn1 nc1 [112] 1 A1 0 c1) ∧ (LNum w'' (.slice N1 nn1 nc1) [] ∧ Tms w'' [] (.slice A1 0 c1)) ∧ Ext w' w'') from fun w' => (con_n [112] 1 w').mono fun e w'' ⟨v, h1, h2, h3⟩ => by
  have h2' := h2
  obtain ⟨N1, nn1, nc1, A1, c1, rfl, h4, h5⟩ := h2
  exact ⟨N1, nn1, nc1, A1, c1, h1, h2', ⟨h4, h5⟩, h3⟩)
 have HT := hid ht
 have E := hid (Ext.refl w)
 clear ht
 go_enter Tryd.func6, Tryd.ntmps6
 go_wp2_with fail
 refine (HKN.out _ E.out).mono ?_
 rintro e w1 ⟨rfl, hb⟩
 replace E := hid (E.out.trans hb)
 clear hb
 go_wp2_with fail
 refine (HCON.out _).mono ?_
 rintro e w2 ⟨N1, nn1, nc1, A1, c1, rfl, hT, ⟨hN, hK⟩, hb⟩
 replace E := hid (E.out.trans hb)
 have hsz : w.heap.size ≤ w2.heap.size := E.out.size
 obtain ⟨wb, hwb⟩ : ∃ x, x = w2.alloc (.cells #[.int .i64 4, .bool false, .slice N1 nn1 nc1, str [112], .int .i64 1, .slice A1 0 c1] 27) := ⟨_, rfl⟩
 have EB := hid (show Ext w wb from hwb ▸ E.out.alloc' _)
 have HB := hid (show Box wb w2.heap.size #[.int .i64 4, .bool false, .slice N1 nn1 nc1, str [112], .int .i64 1, .slice A1 0 c1] 27 from hwb ▸ Box.new w2 _ _)
 have HT1 := hid (show IsTm wb M.pB (kv 4 false N1 nn1 nc1 [112] 1 A1 0 c1) from hwb ▸ hT.up (Ext.alloc _ _))
 have HN1 := hid (show LNum wb (.slice N1 nn1 nc1) [] from hwb ▸ hN.up (Ext.alloc _ _))
 have HK1 := hid (show Tms wb [] (.slice A1 0 c1) from hwb ▸ hK.up (Ext.alloc _ _))
 clear hT hN hK hb
 go_wp2_with fail
 rw [← hwb]
 clear hwb E
 go_loopw [9, 10] (fun x i wr => ∃ (m : Nat), i = .int .i64 (m : Int) ∧ m ≤ 398 ∧ Hid (Ext wb wr) ∧ Hid (OwnT wb.heap.size wb wr x (M.repB m))) (fun _ i _ => 398 - (intOf i).toNat)
 case atStart => exact ⟨0, rfl, by omega, hid (Ext.refl _), hid (OwnT.nil _ _ _)⟩
 case round =>
  obtain ⟨m, rfl, hm, ER, HO⟩ := hrel
  obtain ⟨LA, lc, rfl, hc1, hc2⟩ := HO.out.shape
  rw [M.repB_len] at HO hc1 ⊢
  have HBr := hid (HB.out.up ER.out)
  obtain ⟨⟨r0, r1, r2, r3, r4, r5⟩, ⟨f0, f1, f2, f3, f4, f5⟩, hzr⟩ := boxF6 HBr.out
  rcases Nat.lt_or_ge m 398 with hlt | hge
  ·have hlt' : (m : Int) < 398 := by omega
   have HLEN := hid (show (M.repB m).length + [M.pB].length ≤ 1000000 by rw [M.repB_len]; simp; omega)
   go_wp2_with (at_builtin; refine wpList_appTm (B := wb.heap.size) (V := wb) (l := M.repB m) (m := [M.pB]) rfl (.tmp 39) (.tmp 41) rfl rfl rfl ?own ?src HLEN.out ?base ?_)
   case own => exact HO.out.up (Ext.alloc _ _)
   case src => exact tmSrc_one (Box.new _ _ _) HN1.out HK1.out
   case base => have := ER.out.size; simp; omega
   intro v5 w5 hO5 hB5 hk5
   clear hk5
   rw [M.repB_succ] at hO5
   have HO5 := hid hO5
   have E5 := hid (show Ext wb w5 from Below.trans (B := wb.heap.size) (ER.out.alloc' _) hB5)
   clear hO5 hB5 r0 r1 r2 r3 r4 r5 f0 f1 f2 f3 f4 f5 hzr
   go_wp2_with fail
   go_roundw
   case rel => exact ⟨m + 1, by simp, by omega, E5, HO5⟩
   case measure => simp [intOf]; omega
  ·obtain rfl : m = 398 := by omega
   have HMK := hid (show ∀ w', Ext wr w' → Calls Tryd.prog 20 #[.int .i64 6, .slice LA 398 lc] w' (fun e w'' => ∃ o5 g5 N5 nn5 nc5 m5 s5 A5 n5 c5, e = .returned (.tuple #[kv o5 g5 N5 nn5 nc5 m5 s5 A5 n5 c5, .int .i64 0]) ∧ IsTm (gp (fun b => w'.heap.size ≤ b) w'') (.mk 6 false [] [] 1 (M.repB 398)) (kv o5 g5 N5 nn5 nc5 m5 s5 A5 n5 c5) ∧ Ext w' w'') from fun w' e =>
    (make_tn (op := 6) ((HO.out.tms ER.out.sub).up e) (M.repB_few _) (HT.out.up ((EB.out.trans ER.out).trans e))).mono fun e w'' ⟨v, h1, h2, h3⟩ => by
     rw [M.repB_make (by omega), if_pos (by omega)] at h1 h2
     have h4 := h2
     obtain ⟨N5, nn5, nc5, A5, c5, rfl, -, -⟩ := h2
     exact ⟨_, _, N5, nn5, nc5, _, _, A5, _, c5, h1, h4, h3⟩)
   go_wp2_with fail
   refine (HMK.out _ (Ext.refl _)).mono ?_
   rintro e w3 ⟨o5, g5, N5, nn5, nc5, m5, s5, A5, n5, c5, rfl, hT, hb⟩
   have HT3 := hid (show IsTm (put6 w3 w2.heap.size (.int .i64 o5) (.bool g5) (.slice N5 nn5 nc5) (str m5) (.int .i64 s5) (.slice A5 n5 c5)) (.mk 6 false [] [] 1 (M.repB 398)) (kv o5 g5 N5 nn5 nc5 m5 s5 A5 n5 c5) from new_put hT hzr)
   have HBN := hid (HBr.out.up hb)
   have E4 := hid ((EB.out.trans ER.out).trans hb)
   clear r0 r1 r2 r3 r4 r5 f0 f1 f2 f3 f4 f5 hT hb
   obtain ⟨⟨r0, r1, r2, r3, r4, r5⟩, ⟨f0, f1, f2, f3, f4, f5⟩, hzr'⟩ := boxF6 HBN.out
   have E3 := hid (put6_ext (x0 := (.int .i64 o5)) (x1 := (.bool g5)) (x2 := (.slice N5 nn5 nc5)) (x3 := (str m5)) (x4 := (.int .i64 s5)) (x5 := (.slice A5 n5 c5)) E4.out hsz)
   have HB3 := hid ((((((HBN.out.setAt 0 (.int .i64 o5)).setAt 1 (.bool g5)).setAt 2 (.slice N5 nn5 nc5)).setAt 3 (str m5)).setAt 4 (.int .i64 s5)).setAt 5 (.slice A5 n5 c5))
   obtain ⟨W, hW⟩ : ∃ W, W = ((((((w3.setCell ⟨w2.heap.size, 0, none⟩ (.int .i64 o5)).setCell ⟨w2.heap.size, 1, none⟩ (.bool g5)).setCell ⟨w2.heap.size, 2, none⟩ (.slice N5 nn5 nc5)).setCell ⟨w2.heap.size, 3, none⟩ (.string ⟨m5.toArray⟩)).setCell ⟨w2.heap.size, 4, none⟩ (.int .i64 s5)).setCell ⟨w2.heap.size, 5, none⟩ (.slice A5 n5 c5)) := ⟨_, rfl⟩
   replace HT3 := hid (show IsTm W (.mk 6 false [] [] 1 (M.repB 398)) (kv o5 g5 N5 nn5 nc5 m5 s5 A5 n5 c5) from hW ▸ HT3.out)
   replace E3 := hid (show Ext w W from hW ▸ E3.out)
   replace HB3 := hid (show Box W w2.heap.size #[.int .i64 o5, .bool g5, .slice N5 nn5 nc5, str m5, .int .i64 s5, .slice A5 n5 c5] 27 from hW ▸ HB3.out)
   have HCT := hid (show ∀ w', Ext W w' → Calls Tryd.prog 14 #[kv o5 g5 N5 nn5 nc5 m5 s5 A5 n5 c5] w' (GivesI w' 399) from fun w' e => by
    have h := count_t _ (HT3.out.up e)
    rw [M.andN_cnt, Nat.min_eq_left (by omega)] at h
    exact h)
   have HIS := hid (show ∀ w', Ext W w' → Calls Tryd.prog 13 #[kv o5 g5 N5 nn5 nc5 m5 s5 A5 n5 c5] w' (GivesB w' true) from fun w' e => by
    have h := is_t (HT3.out.up e) (M.andN_few _) (HT.out.up (E3.out.trans e))
    rwa [M.andN_is (by omega) (by omega)] at h)
   obtain ⟨⟨r0, r1, r2, r3, r4, r5⟩, -, -⟩ := boxF6 HB3.out
   rw [hW] at r0 r1 r2 r3 r4 r5
   go_wp2_with fail
   rw [← hW]
   refine (HCT.out _ (Ext.refl _)).mono ?_
   rintro e w8 ⟨rfl, hb⟩
   clear r0 r1 r2 r3 r4 r5
   have E8 := hid hb
   have HB8 := hid (HB3.out.up hb)
   clear hb
   obtain ⟨⟨r0, r1, r2, r3, r4, r5⟩, -, -⟩ := boxF6 HB8.out
   go_wp2_with fail
   refine (HIS.out _ E8.out).mono ?_
   rintro e w9 ⟨rfl, hb⟩
   clear r0 r1 r2 r3 r4 r5
   replace E8 := hid (E8.out.trans hb)
   clear hb
   go_wp2_with fail
   go_ret
   exact ⟨rfl, E3.out.trans E8.out⟩
set_option maxHeartbeats 16000000 in
set_option maxRecDepth 100000 in
theorem great_399_deep {nI : Int} {w : World} (h0 : 0 ≤ nI) (h1 : nI ≤ 255) (hr : nI % 3 = 1) (ht : Tab w) : Calls Tryd.prog 6 #[.int .u8 nI, .bool true] w (GivesB w true) := by
 have HKN := hid (show ∀ w', Ext w w' → Calls Tryd.prog 8 #[] w' (GivesB w' true) from fun w' e => known_t (ht.up e))
 have HCON := hid (show ∀ w', Calls Tryd.prog 23 #[.string ⟨#[112]⟩, .int .i64 1] w' (fun e w'' => ∃ N1 nn1 nc1 A1 c1, e = .returned (kv 4 false N1 nn1 nc1 [112] 1 A1 0 c1) ∧ IsTm w'' M.pB (kv 4 false N1 nn1 nc1 [112] 1 A1 0 c1) ∧ (LNum w'' (.slice N1 nn1 nc1) [] ∧ Tms w'' [] (.slice A1 0 c1)) ∧ Ext w' w'') from fun w' => (con_n [112] 1 w').mono fun e w'' ⟨v, h1, h2, h3⟩ => by
  have h2' := h2
  obtain ⟨N1, nn1, nc1, A1, c1, rfl, h4, h5⟩ := h2
  exact ⟨N1, nn1, nc1, A1, c1, h1, h2', ⟨h4, h5⟩, h3⟩)
 have HT := hid ht
 have E := hid (Ext.refl w)
 clear ht
 go_enter Tryd.func6, Tryd.ntmps6
 go_wp2_with fail
 refine (HKN.out _ E.out).mono ?_
 rintro e w1 ⟨rfl, hb⟩
 replace E := hid (E.out.trans hb)
 clear hb
 go_wp2_with fail
 refine (HCON.out _).mono ?_
 rintro e w2 ⟨N1, nn1, nc1, A1, c1, rfl, hT, ⟨hN, hK⟩, hb⟩
 replace E := hid (E.out.trans hb)
 have hsz : w.heap.size ≤ w2.heap.size := E.out.size
 obtain ⟨wb, hwb⟩ : ∃ x, x = w2.alloc (.cells #[.int .i64 4, .bool false, .slice N1 nn1 nc1, str [112], .int .i64 1, .slice A1 0 c1] 27) := ⟨_, rfl⟩
 have EB := hid (show Ext w wb from hwb ▸ E.out.alloc' _)
 have HB := hid (show Box wb w2.heap.size #[.int .i64 4, .bool false, .slice N1 nn1 nc1, str [112], .int .i64 1, .slice A1 0 c1] 27 from hwb ▸ Box.new w2 _ _)
 have HT1 := hid (show IsTm wb M.pB (kv 4 false N1 nn1 nc1 [112] 1 A1 0 c1) from hwb ▸ hT.up (Ext.alloc _ _))
 have HN1 := hid (show LNum wb (.slice N1 nn1 nc1) [] from hwb ▸ hN.up (Ext.alloc _ _))
 have HK1 := hid (show Tms wb [] (.slice A1 0 c1) from hwb ▸ hK.up (Ext.alloc _ _))
 clear hT hN hK hb
 go_wp2_with fail
 rw [← hwb]
 clear hwb E
 go_loopw [7, 8] (fun x i wr => ∃ (z : Int) (m : Nat), x = .int .i64 z ∧ i = .int .i64 (m : Int) ∧ m ≤ 399 ∧ Hid (Ext w wr) ∧ ((z = 0 ∧ m ≤ 399 ∧ ∃ op g N nn nc nm so A n c, Hid (Box wr w2.heap.size #[.int .i64 op, .bool g, .slice N nn nc, str nm, .int .i64 so, .slice A n c] 27) ∧ Hid (IsTm wr (M.notN m) (kv op g N nn nc nm so A n c))) ∨ (z = 11 ∧ m = 400))) (fun _ i _ => 399 - (intOf i).toNat)
 case atStart => exact ⟨0, 0, rfl, rfl, by omega, EB, .inl ⟨rfl, by omega, 4, false, N1, nn1, nc1, [112], 1, A1, 0, c1, HB, HT1⟩⟩
 case round =>
  obtain ⟨z, m, rfl, rfl, hm, E3, hS⟩ := hrel
  clear HB HT1 HN1 HK1 EB
  rcases hS with ⟨rfl, hm9, op, g, N, nn, nc, nm, so, A, n, c, HB3, HT3⟩ | ⟨rfl, rfl⟩
  ·rcases Nat.lt_or_ge m 399 with hlt | hge
   ·have hlt' : (m : Int) < 399 := by omega
    obtain ⟨⟨r0, r1, r2, r3, r4, r5⟩, ⟨f0, f1, f2, f3, f4, f5⟩, hzr⟩ := boxF6 HB3.out
    by_cases h2 : m + 2 ≤ 400
    ·have HMK := hid (show ∀ w' gb, Ext wr w' → Box w' gb #[.int .i64 op, .bool g, .slice N nn nc, str nm, .int .i64 so, .slice A n c] 27 → Calls Tryd.prog 20 #[.int .i64 5, .slice (some ⟨gb, 0, none⟩) 1 1] w' (fun e w'' => ∃ o5 g5 N5 nn5 nc5 m5 s5 A5 n5 c5, e = .returned (.tuple #[kv o5 g5 N5 nn5 nc5 m5 s5 A5 n5 c5, .int .i64 0]) ∧ IsTm (gp (fun b => w'.heap.size ≤ b) w'') (M.notN (m + 1)) (kv o5 g5 N5 nn5 nc5 m5 s5 A5 n5 c5) ∧ Ext w' w'') from fun w' gb e hb =>
      (make_tn (op := 5) (tms_one (HT3.out.up e) hb) (by simp [M.kfews, M.notN_few]) (HT.out.up (E3.out.trans e))).mono fun e w'' ⟨v, h1, h2', h3⟩ => by
       rw [M.notN_make (by omega), if_pos h2] at h1 h2'
       have h4 := h2'
       obtain ⟨N5, nn5, nc5, A5, c5, rfl, -, -⟩ := h2'
       exact ⟨_, _, N5, nn5, nc5, _, _, A5, _, c5, h1, h4, h3⟩)
     go_wp2_with fail
     refine (HMK.out _ _ (Ext.alloc _ _) (Box.new _ _ _)).mono ?_
     rintro e w3 ⟨o5, g5, N5, nn5, nc5, m5, s5, A5, n5, c5, rfl, hT, hb⟩
     have hlt2 : w2.heap.size < (wr.alloc (.cells #[.int .i64 op, .bool g, .slice N nn nc, str nm, .int .i64 so, .slice A n c] 27)).heap.size := Nat.lt_of_lt_of_le HB3.out.lt (by simp)
     have HTN := hid (show IsTm (put6 w3 w2.heap.size (.int .i64 o5) (.bool g5) (.slice N5 nn5 nc5) (str m5) (.int .i64 s5) (.slice A5 n5 c5)) (M.notN (m + 1)) (kv o5 g5 N5 nn5 nc5 m5 s5 A5 n5 c5) from new_put hT hlt2)
     have HBN := hid ((HB3.out.alloc _).up hb)
     have E4 := hid ((E3.out.alloc' _).trans hb)
     clear r0 r1 r2 r3 r4 r5 f0 f1 f2 f3 f4 f5 hzr hT hb
     obtain ⟨⟨r0, r1, r2, r3, r4, r5⟩, ⟨f0, f1, f2, f3, f4, f5⟩, hzr⟩ := boxF6 HBN.out
     go_wp2_with fail
     go_roundw
     case rel => exact ⟨0, m + 1, rfl, by simp, by omega, hid (put6_ext E4.out (by omega)), .inl ⟨rfl, by omega, o5, g5, N5, nn5, nc5, m5, s5, A5, n5, c5, hid ((((((HBN.out.setAt 0 _).setAt 1 _).setAt 2 _).setAt 3 _).setAt 4 _).setAt 5 _), HTN⟩⟩
     case measure => simp [intOf]; omega
    ·omega
   ·obtain rfl : m = 399 := by omega
    have HCT := hid (show ∀ w', Ext wr w' → Calls Tryd.prog 14 #[kv op g N nn nc nm so A n c] w' (GivesI w' 400) from fun w' e => by
     have h := count_t _ (HT3.out.up e)
     rw [M.notN_cnt, Nat.min_eq_left (by omega)] at h
     exact h)
    have HIS := hid (show ∀ w', Ext wr w' → Calls Tryd.prog 13 #[kv op g N nn nc nm so A n c] w' (GivesB w' true) from fun w' e => by
     have h := is_t (HT3.out.up e) (M.notN_few _) (HT.out.up (E3.out.trans e))
     rwa [M.notN_is (by omega)] at h)
    obtain ⟨⟨r0, r1, r2, r3, r4, r5⟩, -, -⟩ := boxF6 HB3.out
    go_wp2_with fail
    refine (HCT.out _ (Ext.refl _)).mono ?_
    rintro e w8 ⟨rfl, hb⟩
    clear r0 r1 r2 r3 r4 r5
    have E8 := hid hb
    have HB8 := hid (HB3.out.up hb)
    clear hb
    obtain ⟨⟨r0, r1, r2, r3, r4, r5⟩, -, -⟩ := boxF6 HB8.out
    go_wp2_with fail
    refine (HIS.out _ E8.out).mono ?_
    rintro e w9 ⟨rfl, hb⟩
    clear r0 r1 r2 r3 r4 r5
    replace E8 := hid (E8.out.trans hb)
    clear hb
    go_wp2_with fail
    go_ret
    exact ⟨rfl, E3.out.trans E8.out⟩
  ·omega
set_option maxHeartbeats 16000000 in
set_option maxRecDepth 100000 in
theorem great_399_flat {nI : Int} {w : World} (h0 : 0 ≤ nI) (h1 : nI ≤ 255) (hr : nI % 3 = 1) (ht : Tab w) : Calls Tryd.prog 6 #[.int .u8 nI, .bool false] w (GivesB w true) := by
 have HKN := hid (show ∀ w', Ext w w' → Calls Tryd.prog 8 #[] w' (GivesB w' true) from fun w' e => known_t (ht.up e))
 have HCON := hid (show ∀ w', Calls Tryd.prog 23 #[.string ⟨#[112]⟩, .int .i64 1] w' (fun e w'' => ∃ N1 nn1 nc1 A1 c1, e = .returned (kv 4 false N1 nn1 nc1 [112] 1 A1 0 c1) ∧ IsTm w'' M.pB (kv 4 false N1 nn1 nc1 [112] 1 A1 0 c1) ∧ (LNum w'' (.slice N1 nn1 nc1) [] ∧ Tms w'' [] (.slice A1 0 c1)) ∧ Ext w' w'') from fun w' => (con_n [112] 1 w').mono fun e w'' ⟨v, h1, h2, h3⟩ => by
  have h2' := h2
  obtain ⟨N1, nn1, nc1, A1, c1, rfl, h4, h5⟩ := h2
  exact ⟨N1, nn1, nc1, A1, c1, h1, h2', ⟨h4, h5⟩, h3⟩)
 have HT := hid ht
 have E := hid (Ext.refl w)
 clear ht
 go_enter Tryd.func6, Tryd.ntmps6
 go_wp2_with fail
 refine (HKN.out _ E.out).mono ?_
 rintro e w1 ⟨rfl, hb⟩
 replace E := hid (E.out.trans hb)
 clear hb
 go_wp2_with fail
 refine (HCON.out _).mono ?_
 rintro e w2 ⟨N1, nn1, nc1, A1, c1, rfl, hT, ⟨hN, hK⟩, hb⟩
 replace E := hid (E.out.trans hb)
 have hsz : w.heap.size ≤ w2.heap.size := E.out.size
 obtain ⟨wb, hwb⟩ : ∃ x, x = w2.alloc (.cells #[.int .i64 4, .bool false, .slice N1 nn1 nc1, str [112], .int .i64 1, .slice A1 0 c1] 27) := ⟨_, rfl⟩
 have EB := hid (show Ext w wb from hwb ▸ E.out.alloc' _)
 have HB := hid (show Box wb w2.heap.size #[.int .i64 4, .bool false, .slice N1 nn1 nc1, str [112], .int .i64 1, .slice A1 0 c1] 27 from hwb ▸ Box.new w2 _ _)
 have HT1 := hid (show IsTm wb M.pB (kv 4 false N1 nn1 nc1 [112] 1 A1 0 c1) from hwb ▸ hT.up (Ext.alloc _ _))
 have HN1 := hid (show LNum wb (.slice N1 nn1 nc1) [] from hwb ▸ hN.up (Ext.alloc _ _))
 have HK1 := hid (show Tms wb [] (.slice A1 0 c1) from hwb ▸ hK.up (Ext.alloc _ _))
 clear hT hN hK hb
 go_wp2_with fail
 rw [← hwb]
 clear hwb E
 go_loopw [9, 10] (fun x i wr => ∃ (m : Nat), i = .int .i64 (m : Int) ∧ m ≤ 399 ∧ Hid (Ext wb wr) ∧ Hid (OwnT wb.heap.size wb wr x (M.repB m))) (fun _ i _ => 399 - (intOf i).toNat)
 case atStart => exact ⟨0, rfl, by omega, hid (Ext.refl _), hid (OwnT.nil _ _ _)⟩
 case round =>
  obtain ⟨m, rfl, hm, ER, HO⟩ := hrel
  obtain ⟨LA, lc, rfl, hc1, hc2⟩ := HO.out.shape
  rw [M.repB_len] at HO hc1 ⊢
  have HBr := hid (HB.out.up ER.out)
  obtain ⟨⟨r0, r1, r2, r3, r4, r5⟩, ⟨f0, f1, f2, f3, f4, f5⟩, hzr⟩ := boxF6 HBr.out
  rcases Nat.lt_or_ge m 399 with hlt | hge
  ·have hlt' : (m : Int) < 399 := by omega
   have HLEN := hid (show (M.repB m).length + [M.pB].length ≤ 1000000 by rw [M.repB_len]; simp; omega)
   go_wp2_with (at_builtin; refine wpList_appTm (B := wb.heap.size) (V := wb) (l := M.repB m) (m := [M.pB]) rfl (.tmp 39) (.tmp 41) rfl rfl rfl ?own ?src HLEN.out ?base ?_)
   case own => exact HO.out.up (Ext.alloc _ _)
   case src => exact tmSrc_one (Box.new _ _ _) HN1.out HK1.out
   case base => have := ER.out.size; simp; omega
   intro v5 w5 hO5 hB5 hk5
   clear hk5
   rw [M.repB_succ] at hO5
   have HO5 := hid hO5
   have E5 := hid (show Ext wb w5 from Below.trans (B := wb.heap.size) (ER.out.alloc' _) hB5)
   clear hO5 hB5 r0 r1 r2 r3 r4 r5 f0 f1 f2 f3 f4 f5 hzr
   go_wp2_with fail
   go_roundw
   case rel => exact ⟨m + 1, by simp, by omega, E5, HO5⟩
   case measure => simp [intOf]; omega
  ·obtain rfl : m = 399 := by omega
   have HMK := hid (show ∀ w', Ext wr w' → Calls Tryd.prog 20 #[.int .i64 6, .slice LA 399 lc] w' (fun e w'' => ∃ o5 g5 N5 nn5 nc5 m5 s5 A5 n5 c5, e = .returned (.tuple #[kv o5 g5 N5 nn5 nc5 m5 s5 A5 n5 c5, .int .i64 0]) ∧ IsTm (gp (fun b => w'.heap.size ≤ b) w'') (.mk 6 false [] [] 1 (M.repB 399)) (kv o5 g5 N5 nn5 nc5 m5 s5 A5 n5 c5) ∧ Ext w' w'') from fun w' e =>
    (make_tn (op := 6) ((HO.out.tms ER.out.sub).up e) (M.repB_few _) (HT.out.up ((EB.out.trans ER.out).trans e))).mono fun e w'' ⟨v, h1, h2, h3⟩ => by
     rw [M.repB_make (by omega), if_pos (by omega)] at h1 h2
     have h4 := h2
     obtain ⟨N5, nn5, nc5, A5, c5, rfl, -, -⟩ := h2
     exact ⟨_, _, N5, nn5, nc5, _, _, A5, _, c5, h1, h4, h3⟩)
   go_wp2_with fail
   refine (HMK.out _ (Ext.refl _)).mono ?_
   rintro e w3 ⟨o5, g5, N5, nn5, nc5, m5, s5, A5, n5, c5, rfl, hT, hb⟩
   have HT3 := hid (show IsTm (put6 w3 w2.heap.size (.int .i64 o5) (.bool g5) (.slice N5 nn5 nc5) (str m5) (.int .i64 s5) (.slice A5 n5 c5)) (.mk 6 false [] [] 1 (M.repB 399)) (kv o5 g5 N5 nn5 nc5 m5 s5 A5 n5 c5) from new_put hT hzr)
   have HBN := hid (HBr.out.up hb)
   have E4 := hid ((EB.out.trans ER.out).trans hb)
   clear r0 r1 r2 r3 r4 r5 f0 f1 f2 f3 f4 f5 hT hb
   obtain ⟨⟨r0, r1, r2, r3, r4, r5⟩, ⟨f0, f1, f2, f3, f4, f5⟩, hzr'⟩ := boxF6 HBN.out
   have E3 := hid (put6_ext (x0 := (.int .i64 o5)) (x1 := (.bool g5)) (x2 := (.slice N5 nn5 nc5)) (x3 := (str m5)) (x4 := (.int .i64 s5)) (x5 := (.slice A5 n5 c5)) E4.out hsz)
   have HB3 := hid ((((((HBN.out.setAt 0 (.int .i64 o5)).setAt 1 (.bool g5)).setAt 2 (.slice N5 nn5 nc5)).setAt 3 (str m5)).setAt 4 (.int .i64 s5)).setAt 5 (.slice A5 n5 c5))
   obtain ⟨W, hW⟩ : ∃ W, W = ((((((w3.setCell ⟨w2.heap.size, 0, none⟩ (.int .i64 o5)).setCell ⟨w2.heap.size, 1, none⟩ (.bool g5)).setCell ⟨w2.heap.size, 2, none⟩ (.slice N5 nn5 nc5)).setCell ⟨w2.heap.size, 3, none⟩ (.string ⟨m5.toArray⟩)).setCell ⟨w2.heap.size, 4, none⟩ (.int .i64 s5)).setCell ⟨w2.heap.size, 5, none⟩ (.slice A5 n5 c5)) := ⟨_, rfl⟩
   replace HT3 := hid (show IsTm W (.mk 6 false [] [] 1 (M.repB 399)) (kv o5 g5 N5 nn5 nc5 m5 s5 A5 n5 c5) from hW ▸ HT3.out)
   replace E3 := hid (show Ext w W from hW ▸ E3.out)
   replace HB3 := hid (show Box W w2.heap.size #[.int .i64 o5, .bool g5, .slice N5 nn5 nc5, str m5, .int .i64 s5, .slice A5 n5 c5] 27 from hW ▸ HB3.out)
   have HCT := hid (show ∀ w', Ext W w' → Calls Tryd.prog 14 #[kv o5 g5 N5 nn5 nc5 m5 s5 A5 n5 c5] w' (GivesI w' 400) from fun w' e => by
    have h := count_t _ (HT3.out.up e)
    rw [M.andN_cnt, Nat.min_eq_left (by omega)] at h
    exact h)
   have HIS := hid (show ∀ w', Ext W w' → Calls Tryd.prog 13 #[kv o5 g5 N5 nn5 nc5 m5 s5 A5 n5 c5] w' (GivesB w' true) from fun w' e => by
    have h := is_t (HT3.out.up e) (M.andN_few _) (HT.out.up (E3.out.trans e))
    rwa [M.andN_is (by omega) (by omega)] at h)
   obtain ⟨⟨r0, r1, r2, r3, r4, r5⟩, -, -⟩ := boxF6 HB3.out
   rw [hW] at r0 r1 r2 r3 r4 r5
   go_wp2_with fail
   rw [← hW]
   refine (HCT.out _ (Ext.refl _)).mono ?_
   rintro e w8 ⟨rfl, hb⟩
   clear r0 r1 r2 r3 r4 r5
   have E8 := hid hb
   have HB8 := hid (HB3.out.up hb)
   clear hb
   obtain ⟨⟨r0, r1, r2, r3, r4, r5⟩, -, -⟩ := boxF6 HB8.out
   go_wp2_with fail
   refine (HIS.out _ E8.out).mono ?_
   rintro e w9 ⟨rfl, hb⟩
   clear r0 r1 r2 r3 r4 r5
   replace E8 := hid (E8.out.trans hb)
   clear hb
   go_wp2_with fail
   go_ret
   exact ⟨rfl, E3.out.trans E8.out⟩
set_option maxHeartbeats 16000000 in
set_option maxRecDepth 100000 in
theorem great_400_deep {nI : Int} {w : World} (h0 : 0 ≤ nI) (h1 : nI ≤ 255) (hr : nI % 3 = 2) (ht : Tab w) : Calls Tryd.prog 6 #[.int .u8 nI, .bool true] w (GivesB w true) := by
 have HKN := hid (show ∀ w', Ext w w' → Calls Tryd.prog 8 #[] w' (GivesB w' true) from fun w' e => known_t (ht.up e))
 have HCON := hid (show ∀ w', Calls Tryd.prog 23 #[.string ⟨#[112]⟩, .int .i64 1] w' (fun e w'' => ∃ N1 nn1 nc1 A1 c1, e = .returned (kv 4 false N1 nn1 nc1 [112] 1 A1 0 c1) ∧ IsTm w'' M.pB (kv 4 false N1 nn1 nc1 [112] 1 A1 0 c1) ∧ (LNum w'' (.slice N1 nn1 nc1) [] ∧ Tms w'' [] (.slice A1 0 c1)) ∧ Ext w' w'') from fun w' => (con_n [112] 1 w').mono fun e w'' ⟨v, h1, h2, h3⟩ => by
  have h2' := h2
  obtain ⟨N1, nn1, nc1, A1, c1, rfl, h4, h5⟩ := h2
  exact ⟨N1, nn1, nc1, A1, c1, h1, h2', ⟨h4, h5⟩, h3⟩)
 have HT := hid ht
 have E := hid (Ext.refl w)
 clear ht
 go_enter Tryd.func6, Tryd.ntmps6
 go_wp2_with fail
 refine (HKN.out _ E.out).mono ?_
 rintro e w1 ⟨rfl, hb⟩
 replace E := hid (E.out.trans hb)
 clear hb
 go_wp2_with fail
 refine (HCON.out _).mono ?_
 rintro e w2 ⟨N1, nn1, nc1, A1, c1, rfl, hT, ⟨hN, hK⟩, hb⟩
 replace E := hid (E.out.trans hb)
 have hsz : w.heap.size ≤ w2.heap.size := E.out.size
 obtain ⟨wb, hwb⟩ : ∃ x, x = w2.alloc (.cells #[.int .i64 4, .bool false, .slice N1 nn1 nc1, str [112], .int .i64 1, .slice A1 0 c1] 27) := ⟨_, rfl⟩
 have EB := hid (show Ext w wb from hwb ▸ E.out.alloc' _)
 have HB := hid (show Box wb w2.heap.size #[.int .i64 4, .bool false, .slice N1 nn1 nc1, str [112], .int .i64 1, .slice A1 0 c1] 27 from hwb ▸ Box.new w2 _ _)
 have HT1 := hid (show IsTm wb M.pB (kv 4 false N1 nn1 nc1 [112] 1 A1 0 c1) from hwb ▸ hT.up (Ext.alloc _ _))
 have HN1 := hid (show LNum wb (.slice N1 nn1 nc1) [] from hwb ▸ hN.up (Ext.alloc _ _))
 have HK1 := hid (show Tms wb [] (.slice A1 0 c1) from hwb ▸ hK.up (Ext.alloc _ _))
 clear hT hN hK hb
 go_wp2_with fail
 rw [← hwb]
 clear hwb E
 go_loopw [7, 8] (fun x i wr => ∃ (z : Int) (m : Nat), x = .int .i64 z ∧ i = .int .i64 (m : Int) ∧ m ≤ 400 ∧ Hid (Ext w wr) ∧ ((z = 0 ∧ m ≤ 399 ∧ ∃ op g N nn nc nm so A n c, Hid (Box wr w2.heap.size #[.int .i64 op, .bool g, .slice N nn nc, str nm, .int .i64 so, .slice A n c] 27) ∧ Hid (IsTm wr (M.notN m) (kv op g N nn nc nm so A n c))) ∨ (z = 11 ∧ m = 400))) (fun _ i _ => 400 - (intOf i).toNat)
 case atStart => exact ⟨0, 0, rfl, rfl, by omega, EB, .inl ⟨rfl, by omega, 4, false, N1, nn1, nc1, [112], 1, A1, 0, c1, HB, HT1⟩⟩
 case round =>
  obtain ⟨z, m, rfl, rfl, hm, E3, hS⟩ := hrel
  clear HB HT1 HN1 HK1 EB
  rcases hS with ⟨rfl, hm9, op, g, N, nn, nc, nm, so, A, n, c, HB3, HT3⟩ | ⟨rfl, rfl⟩
  ·rcases Nat.lt_or_ge m 400 with hlt | hge
   ·have hlt' : (m : Int) < 400 := by omega
    obtain ⟨⟨r0, r1, r2, r3, r4, r5⟩, ⟨f0, f1, f2, f3, f4, f5⟩, hzr⟩ := boxF6 HB3.out
    by_cases h2 : m + 2 ≤ 400
    ·have HMK := hid (show ∀ w' gb, Ext wr w' → Box w' gb #[.int .i64 op, .bool g, .slice N nn nc, str nm, .int .i64 so, .slice A n c] 27 → Calls Tryd.prog 20 #[.int .i64 5, .slice (some ⟨gb, 0, none⟩) 1 1] w' (fun e w'' => ∃ o5 g5 N5 nn5 nc5 m5 s5 A5 n5 c5, e = .returned (.tuple #[kv o5 g5 N5 nn5 nc5 m5 s5 A5 n5 c5, .int .i64 0]) ∧ IsTm (gp (fun b => w'.heap.size ≤ b) w'') (M.notN (m + 1)) (kv o5 g5 N5 nn5 nc5 m5 s5 A5 n5 c5) ∧ Ext w' w'') from fun w' gb e hb =>
      (make_tn (op := 5) (tms_one (HT3.out.up e) hb) (by simp [M.kfews, M.notN_few]) (HT.out.up (E3.out.trans e))).mono fun e w'' ⟨v, h1, h2', h3⟩ => by
       rw [M.notN_make (by omega), if_pos h2] at h1 h2'
       have h4 := h2'
       obtain ⟨N5, nn5, nc5, A5, c5, rfl, -, -⟩ := h2'
       exact ⟨_, _, N5, nn5, nc5, _, _, A5, _, c5, h1, h4, h3⟩)
     go_wp2_with fail
     refine (HMK.out _ _ (Ext.alloc _ _) (Box.new _ _ _)).mono ?_
     rintro e w3 ⟨o5, g5, N5, nn5, nc5, m5, s5, A5, n5, c5, rfl, hT, hb⟩
     have hlt2 : w2.heap.size < (wr.alloc (.cells #[.int .i64 op, .bool g, .slice N nn nc, str nm, .int .i64 so, .slice A n c] 27)).heap.size := Nat.lt_of_lt_of_le HB3.out.lt (by simp)
     have HTN := hid (show IsTm (put6 w3 w2.heap.size (.int .i64 o5) (.bool g5) (.slice N5 nn5 nc5) (str m5) (.int .i64 s5) (.slice A5 n5 c5)) (M.notN (m + 1)) (kv o5 g5 N5 nn5 nc5 m5 s5 A5 n5 c5) from new_put hT hlt2)
     have HBN := hid ((HB3.out.alloc _).up hb)
     have E4 := hid ((E3.out.alloc' _).trans hb)
     clear r0 r1 r2 r3 r4 r5 f0 f1 f2 f3 f4 f5 hzr hT hb
     obtain ⟨⟨r0, r1, r2, r3, r4, r5⟩, ⟨f0, f1, f2, f3, f4, f5⟩, hzr⟩ := boxF6 HBN.out
     go_wp2_with fail
     go_roundw
     case rel => exact ⟨0, m + 1, rfl, by simp, by omega, hid (put6_ext E4.out (by omega)), .inl ⟨rfl, by omega, o5, g5, N5, nn5, nc5, m5, s5, A5, n5, c5, hid ((((((HBN.out.setAt 0 _).setAt 1 _).setAt 2 _).setAt 3 _).setAt 4 _).setAt 5 _), HTN⟩⟩
     case measure => simp [intOf]; omega
    ·have HMK := hid (show ∀ w' gb, Ext wr w' → Box w' gb #[.int .i64 op, .bool g, .slice N nn nc, str nm, .int .i64 so, .slice A n c] 27 → Calls Tryd.prog 20 #[.int .i64 5, .slice (some ⟨gb, 0, none⟩) 1 1] w' (fun e w'' => ∃ N5 nn5 nc5 A5 c5, e = .returned (.tuple #[kv 0 false N5 nn5 nc5 [] 0 A5 0 c5, .int .i64 11]) ∧ Ext w' w'') from fun w' gb e hb =>
      (make_tn (op := 5) (tms_one (HT3.out.up e) hb) (by simp [M.kfews, M.notN_few]) (HT.out.up (E3.out.trans e))).mono fun e w'' ⟨v, h1, h2', h3⟩ => by
       rw [M.notN_make (by omega), if_neg h2] at h1 h2'
       obtain ⟨N5, nn5, nc5, A5, c5, rfl, -, -⟩ := h2'
       exact ⟨N5, nn5, nc5, A5, c5, h1, h3⟩)
     go_wp2_with fail
     refine (HMK.out _ _ (Ext.alloc _ _) (Box.new _ _ _)).mono ?_
     rintro e w3 ⟨N5, nn5, nc5, A5, c5, rfl, hb⟩
     have HBN := hid ((HB3.out.alloc _).up hb)
     have E4 := hid ((E3.out.alloc' _).trans hb)
     clear r0 r1 r2 r3 r4 r5 f0 f1 f2 f3 f4 f5 hzr hb
     obtain ⟨⟨r0, r1, r2, r3, r4, r5⟩, ⟨f0, f1, f2, f3, f4, f5⟩, hzr⟩ := boxF6 HBN.out
     go_wp2_with fail
     go_roundw
     case rel => exact ⟨11, m + 1, rfl, by simp, by omega, hid (put6_ext E4.out (by omega)), .inr ⟨rfl, by omega⟩⟩
     case measure => simp [intOf]; omega
   ·omega
  ·go_wp2_with fail
   go_ret
   exact ⟨rfl, E3.out⟩
set_option maxHeartbeats 16000000 in
set_option maxRecDepth 100000 in
theorem great_400_flat {nI : Int} {w : World} (h0 : 0 ≤ nI) (h1 : nI ≤ 255) (hr : nI % 3 = 2) (ht : Tab w) : Calls Tryd.prog 6 #[.int .u8 nI, .bool false] w (GivesB w true) := by
 have HKN := hid (show ∀ w', Ext w w' → Calls Tryd.prog 8 #[] w' (GivesB w' true) from fun w' e => known_t (ht.up e))
 have HCON := hid (show ∀ w', Calls Tryd.prog 23 #[.string ⟨#[112]⟩, .int .i64 1] w' (fun e w'' => ∃ N1 nn1 nc1 A1 c1, e = .returned (kv 4 false N1 nn1 nc1 [112] 1 A1 0 c1) ∧ IsTm w'' M.pB (kv 4 false N1 nn1 nc1 [112] 1 A1 0 c1) ∧ (LNum w'' (.slice N1 nn1 nc1) [] ∧ Tms w'' [] (.slice A1 0 c1)) ∧ Ext w' w'') from fun w' => (con_n [112] 1 w').mono fun e w'' ⟨v, h1, h2, h3⟩ => by
  have h2' := h2
  obtain ⟨N1, nn1, nc1, A1, c1, rfl, h4, h5⟩ := h2
  exact ⟨N1, nn1, nc1, A1, c1, h1, h2', ⟨h4, h5⟩, h3⟩)
 have HT := hid ht
 have E := hid (Ext.refl w)
 clear ht
 go_enter Tryd.func6, Tryd.ntmps6
 go_wp2_with fail
 refine (HKN.out _ E.out).mono ?_
 rintro e w1 ⟨rfl, hb⟩
 replace E := hid (E.out.trans hb)
 clear hb
 go_wp2_with fail
 refine (HCON.out _).mono ?_
 rintro e w2 ⟨N1, nn1, nc1, A1, c1, rfl, hT, ⟨hN, hK⟩, hb⟩
 replace E := hid (E.out.trans hb)
 have hsz : w.heap.size ≤ w2.heap.size := E.out.size
 obtain ⟨wb, hwb⟩ : ∃ x, x = w2.alloc (.cells #[.int .i64 4, .bool false, .slice N1 nn1 nc1, str [112], .int .i64 1, .slice A1 0 c1] 27) := ⟨_, rfl⟩
 have EB := hid (show Ext w wb from hwb ▸ E.out.alloc' _)
 have HB := hid (show Box wb w2.heap.size #[.int .i64 4, .bool false, .slice N1 nn1 nc1, str [112], .int .i64 1, .slice A1 0 c1] 27 from hwb ▸ Box.new w2 _ _)
 have HT1 := hid (show IsTm wb M.pB (kv 4 false N1 nn1 nc1 [112] 1 A1 0 c1) from hwb ▸ hT.up (Ext.alloc _ _))
 have HN1 := hid (show LNum wb (.slice N1 nn1 nc1) [] from hwb ▸ hN.up (Ext.alloc _ _))
 have HK1 := hid (show Tms wb [] (.slice A1 0 c1) from hwb ▸ hK.up (Ext.alloc _ _))
 clear hT hN hK hb
 go_wp2_with fail
 rw [← hwb]
 clear hwb E
 go_loopw [9, 10] (fun x i wr => ∃ (m : Nat), i = .int .i64 (m : Int) ∧ m ≤ 400 ∧ Hid (Ext wb wr) ∧ Hid (OwnT wb.heap.size wb wr x (M.repB m))) (fun _ i _ => 400 - (intOf i).toNat)
 case atStart => exact ⟨0, rfl, by omega, hid (Ext.refl _), hid (OwnT.nil _ _ _)⟩
 case round =>
  obtain ⟨m, rfl, hm, ER, HO⟩ := hrel
  obtain ⟨LA, lc, rfl, hc1, hc2⟩ := HO.out.shape
  rw [M.repB_len] at HO hc1 ⊢
  have HBr := hid (HB.out.up ER.out)
  obtain ⟨⟨r0, r1, r2, r3, r4, r5⟩, ⟨f0, f1, f2, f3, f4, f5⟩, hzr⟩ := boxF6 HBr.out
  rcases Nat.lt_or_ge m 400 with hlt | hge
  ·have hlt' : (m : Int) < 400 := by omega
   have HLEN := hid (show (M.repB m).length + [M.pB].length ≤ 1000000 by rw [M.repB_len]; simp; omega)
   go_wp2_with (at_builtin; refine wpList_appTm (B := wb.heap.size) (V := wb) (l := M.repB m) (m := [M.pB]) rfl (.tmp 39) (.tmp 41) rfl rfl rfl ?own ?src HLEN.out ?base ?_)
   case own => exact HO.out.up (Ext.alloc _ _)
   case src => exact tmSrc_one (Box.new _ _ _) HN1.out HK1.out
   case base => have := ER.out.size; simp; omega
   intro v5 w5 hO5 hB5 hk5
   clear hk5
   rw [M.repB_succ] at hO5
   have HO5 := hid hO5
   have E5 := hid (show Ext wb w5 from Below.trans (B := wb.heap.size) (ER.out.alloc' _) hB5)
   clear hO5 hB5 r0 r1 r2 r3 r4 r5 f0 f1 f2 f3 f4 f5 hzr
   go_wp2_with fail
   go_roundw
   case rel => exact ⟨m + 1, by simp, by omega, E5, HO5⟩
   case measure => simp [intOf]; omega
  ·obtain rfl : m = 400 := by omega
   have HMK := hid (show ∀ w', Ext wr w' → Calls Tryd.prog 20 #[.int .i64 6, .slice LA 400 lc] w' (fun e w'' => ∃ o5 g5 N5 nn5 nc5 m5 s5 A5 n5 c5, e = .returned (.tuple #[kv o5 g5 N5 nn5 nc5 m5 s5 A5 n5 c5, .int .i64 11]) ∧ IsTm (gp (fun b => w'.heap.size ≤ b) w'') M.K0 (kv o5 g5 N5 nn5 nc5 m5 s5 A5 n5 c5) ∧ Ext w' w'') from fun w' e =>
    (make_tn (op := 6) ((HO.out.tms ER.out.sub).up e) (M.repB_few _) (HT.out.up ((EB.out.trans ER.out).trans e))).mono fun e w'' ⟨v, h1, h2, h3⟩ => by
     rw [M.repB_make (by omega), if_neg (by omega)] at h1 h2
     have h4 := h2
     obtain ⟨N5, nn5, nc5, A5, c5, rfl, -, -⟩ := h2
     exact ⟨_, _, N5, nn5, nc5, _, _, A5, _, c5, h1, h4, h3⟩)
   go_wp2_with fail
   refine (HMK.out _ (Ext.refl _)).mono ?_
   rintro e w3 ⟨o5, g5, N5, nn5, nc5, m5, s5, A5, n5, c5, rfl, hT, hb⟩
   have HT3 := hid (show IsTm (put6 w3 w2.heap.size (.int .i64 o5) (.bool g5) (.slice N5 nn5 nc5) (str m5) (.int .i64 s5) (.slice A5 n5 c5)) M.K0 (kv o5 g5 N5 nn5 nc5 m5 s5 A5 n5 c5) from new_put hT hzr)
   have HBN := hid (HBr.out.up hb)
   have E4 := hid ((EB.out.trans ER.out).trans hb)
   clear r0 r1 r2 r3 r4 r5 f0 f1 f2 f3 f4 f5 hT hb
   obtain ⟨⟨r0, r1, r2, r3, r4, r5⟩, ⟨f0, f1, f2, f3, f4, f5⟩, hzr'⟩ := boxF6 HBN.out
   have E3 := hid (put6_ext (x0 := (.int .i64 o5)) (x1 := (.bool g5)) (x2 := (.slice N5 nn5 nc5)) (x3 := (str m5)) (x4 := (.int .i64 s5)) (x5 := (.slice A5 n5 c5)) E4.out hsz)
   have HB3 := hid ((((((HBN.out.setAt 0 (.int .i64 o5)).setAt 1 (.bool g5)).setAt 2 (.slice N5 nn5 nc5)).setAt 3 (str m5)).setAt 4 (.int .i64 s5)).setAt 5 (.slice A5 n5 c5))
   obtain ⟨W, hW⟩ : ∃ W, W = ((((((w3.setCell ⟨w2.heap.size, 0, none⟩ (.int .i64 o5)).setCell ⟨w2.heap.size, 1, none⟩ (.bool g5)).setCell ⟨w2.heap.size, 2, none⟩ (.slice N5 nn5 nc5)).setCell ⟨w2.heap.size, 3, none⟩ (.string ⟨m5.toArray⟩)).setCell ⟨w2.heap.size, 4, none⟩ (.int .i64 s5)).setCell ⟨w2.heap.size, 5, none⟩ (.slice A5 n5 c5)) := ⟨_, rfl⟩
   replace HT3 := hid (show IsTm W M.K0 (kv o5 g5 N5 nn5 nc5 m5 s5 A5 n5 c5) from hW ▸ HT3.out)
   replace E3 := hid (show Ext w W from hW ▸ E3.out)
   replace HB3 := hid (show Box W w2.heap.size #[.int .i64 o5, .bool g5, .slice N5 nn5 nc5, str m5, .int .i64 s5, .slice A5 n5 c5] 27 from hW ▸ HB3.out)
   go_wp2_with fail
   go_ret
   exact ⟨rfl, put6_ext E4.out hsz⟩
theorem great_t {nI : Int} {deep : Bool} {w : World} (hw : (Lit.int .u8 nI).wf = true) (ht : Tab w) : Calls Tryd.prog 6 #[.int .u8 nI, .bool deep] w (GivesB w true) := by
 have h : 0 ≤ nI ∧ nI ≤ 255 := by simpa [Lit.wf, IntKind.min, IntKind.max, IntKind.signed, IntKind.bits] using hw
 rcases (show nI % 3 = 0 ∨ nI % 3 = 1 ∨ nI % 3 = 2 by omega) with hr | hr | hr <;> cases deep
 ·exact great_398_flat h.1 h.2 hr ht
 ·exact great_398_deep h.1 h.2 hr ht
 ·exact great_399_flat h.1 h.2 hr ht
 ·exact great_399_deep h.1 h.2 hr ht
 ·exact great_400_flat h.1 h.2 hr ht
 ·exact great_400_deep h.1 h.2 hr ht
end Go.Proofs.YtaoboilkpgphaaaDoor.Q
