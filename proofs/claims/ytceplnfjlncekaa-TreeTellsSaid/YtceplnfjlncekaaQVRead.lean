/-
  Layer 9, the reference: trees read one after another.
-/
import Derived.Test.YtceplnfjlncekaaQTTree
import Derived.Test.YtceplnfjlncekaaQVMath
import Derived.Test.YtceplnfjlncekaaQURead
namespace Go.Proofs.Ytceplnfjlncekaa
set_option linter.unusedSimpArgs false
set_option linter.unusedVariables false
open Go.RowKit

theorem wpList_appK {base : Nat} {w : World} {ops : Array Oper} {rest : List Oper} {o : Oper} {a : Act} {Q : Exit → Act → World → Prop} (hgd : o.guard = none) (s x : Operand)
    (ho : o.op = .call { callee := .builtin .append, args := #[s, x], argTypes := #[25, 25] }) {v : Value} {ks : List M.T} {t : M.T} {kv : Value} {gL : Nat} {tL : TypeId}
    (hs : a.eval s = v) (hx : a.eval x = .slice (some ⟨gL, 0, none⟩) 1 1) (h : OwnK base w v ks) (hL : Box w gL #[.bool t.list, .int .i64 t.tok.1, str t.tok.2, kv] tL)
    (hk : Kids (gp (beside base v) w) t.kids kv) (h1 : kv.oneCell' = true) (hlen : ks.length + 1 ≤ 1000000000) (hbase : base ≤ w.heap.size)
    (hq : ∀ v' w', OwnK base w' v' (ks ++ [t]) → Below base w w' → wpList Try.prog ops Q rest (a.put o.dst v') w') : wpList Try.prog ops Q (o :: rest) a w := by
  obtain ⟨v', w', hr, h2, h3⟩ := appK_run h hL hk h1 hlen hbase o.type
  refine wpList_plain hgd fun K hK => ?_
  unfold Oper.wp execOp
  simp only [ho, resolve, invoke, builtin, Sem.run_bind, Sem.run_pure, Result.andThen_ok, List.map_toArray, List.map_cons, List.map_nil, hs, hx, hr]
  exact hK _ _ (hq v' w' h2 h3)
/-- What the loop keeps. -/
def RoundA (w : World) (g : Nat) (lv : Value) (L : List M.Tok) (R : List M.T × Nat × Int) (f' at' n' : Nat) (ts : List M.T) (ov : Value) (wr : World) : Prop :=
  RBox wr g lv (at' : Int) (n' : Int) 0 ∧ OwnK (g + 1) wr ov ts ∧ Ext w wr ∧ R = M.rdA f' L at' ts
set_option maxHeartbeats 8000000 in
set_option maxRecDepth 100000 in
theorem rRead_n {w : World} {v : Value} {L : List M.Tok} (hl : TList w v L) (hlen : L.length ≤ 1000000) : Calls Try.prog 12 #[v] w (GivesR w (M.readM L)) := by
  obtain ⟨A, n, c, rfl, hn, hnc, hcm, hA⟩ := hl
  have hT : TList w (.slice A n c) L := ⟨A, n, c, rfl, hn, hnc, hcm, hA⟩
  have hc9 : c ≤ 9223372036854775807 := by unfold maxLen at hcm; omega
  have hn9 : n ≤ 1000000 := by omega
  obtain ⟨R, hR⟩ : ∃ R, M.rdA L.length L 0 [] = R := ⟨_, rfl⟩
  rw [← M.readM_rdA, hR]
  have HT := hid hT
  have HN := hid hn
  have HR := hid hR
  clear hT hA hn hcm hR hlen
  obtain ⟨g, hg⟩ : ∃ g, w.heap.size = g := ⟨_, rfl⟩
  have HG := hid hg
  have hB := Box.new w #[.slice A n c, .int .i64 0, .int .i64 0, .int .i64 0] 54
  rw [hg] at hB
  have HB := hid hB
  clear hg hB
  go_enter Try.func12, Try.ntmps12
  go_wp2_with fail
  rw [HG.out]
  go_loopw [6] (fun ov wr => ∃ (f' at' n' : Nat) (ts : List M.T), at' ≤ n ∧ n - at' ≤ f' ∧ ts.length ≤ at' ∧ Hid (RoundA w g (.slice A n c) L R f' at' n' ts ov wr)) (fun _ wr => measR g n wr)
  case atStart => exact ⟨n, 0, 0, [], Nat.zero_le _, Nat.le_refl _, Nat.le_refl _, HB.out, OwnK.nil _ _, Ext.alloc w _, by rw [HN.out]; exact HR.out.symm⟩
  case round =>
    obtain ⟨f', at', n', ts, hat, hf, hts, hRd⟩ := hrel
    obtain ⟨hbx, hown, hE, hRA⟩ := hRd.out
    have HBx := hid hbx
    have HO := hid hown
    have E := hid hE
    have HRA := hid hRA
    have b0 := hbx.k 0
    have b1 := hbx.k 1
    have b2 := hbx.k 2
    have b3 := hbx.k 3
    have f2 := hbx.free 2
    have hgl := hbx.lt
    obtain ⟨OA, oc, rfl⟩ := hown.len
    clear hRd hbx hown hE hRA
    have HG2 := hid (show ∀ k, k < w.heap.size → k ≠ g by intro k hk; rw [HG.out] at hk; omega)
    rcases Nat.lt_or_ge at' n with hlt | hge
    · have hlt' : (at' : Int) < (n : Int) := by omega
      have HTr := hid (show TList (gp (· ≠ g) (wr.setCell ⟨g, 2, none⟩ (.int .i64 0))) (.slice A n c) L from HT.out.sub ((E.out.set' (by rw [HG.out]; exact Nat.le_refl _) _).gp_new HG2.out))
      have HBs := hid (show RBox (wr.setCell ⟨g, 2, none⟩ (.int .i64 0)) g (.slice A n c) (at' : Int) ((0 : Nat) : Int) 0 from HBx.out.setAt 2 _)
      obtain ⟨r, hr⟩ : ∃ r, M.rdT (2 * n + 1) L 0 at' 0 = r := ⟨_, rfl⟩
      have HC := hid (show Calls Try.prog 30 #[.pointer (some ⟨g, 0, none⟩), .int .i64 0] (wr.setCell ⟨g, 2, none⟩ (.int .i64 0)) (GivesRd g (.slice A n c) (wr.setCell ⟨g, 2, none⟩ (.int .i64 0)) r) by
        have h1 := HBs.out
        have h2 := HTr.out
        rw [HN.out] at h1 h2
        have := rtree_n (L := L) (A := A) (c := c) (by rw [← HN.out]; omega) (2 * L.length + 1) (d := 0) h1 h2 (by omega) (by rw [← HN.out]; exact hat) (by omega) (by omega)
        rw [← HN.out, hr] at this
        exact this)
      have hbd := (M.rd_bounds (2 * n + 1)).1 L 0 at' 0 (by rw [← HN.out]; exact hat) (by omega)
      rw [hr, ← HN.out] at hbd
      have HBD := hid hbd
      obtain ⟨f'', rfl⟩ : ∃ f'', f' = f'' + 1 := ⟨f' - 1, by omega⟩
      have hra := HRA.out
      rw [M.rdA, if_neg (by rw [← HN.out]; omega), ← HN.out, hr] at hra
      have HRB := hid hra
      clear hr hbd hra HRA
      go_wp2_with fail
      refine HC.out.mono ?_
      rintro e w2 ⟨v2, rfl, ⟨B, q, rfl, hkids⟩, hB2, hk2⟩
      have hgw := hB2.lt
      have b1' := hB2.k 1
      have E2 := hid (show Ext w w2 from (E.out.set' (by rw [HG.out]; exact Nat.le_refl _) _).keptG hk2 (by rw [HG.out]; exact Nat.le_refl _))
      have hw2 := hk2.1.size
      have HB2 := hid hB2
      have HK2 := hid hk2
      have HKD := hid hkids
      have HSZ := hid (show wr.heap.size ≤ w2.heap.size by simpa using hw2)
      clear b0 b1 b2 b3 f2 hB2 hk2 hkids hw2
      by_cases h0 : r.e = 0
      · have b3' : w2.cell? ⟨g, 3, none⟩ = some (.int .i64 0) := by have := HB2.out.k 3; rw [h0] at this; exact this
        have HRC := hid (show R = M.rdA f'' L r.at_ (ts ++ [r.t]) by rw [HRB.out, if_neg (by simpa using h0)])
        have H0 := hid h0
        obtain ⟨C4, hC4⟩ : ∃ C4, C4 = Obj.cells #[.bool r.t.list, .int .i64 r.t.tok.1, str r.t.tok.2, .slice B r.t.kids.length q] 35 := ⟨_, rfl⟩
        have hsz2 : ((w2.alloc C4).alloc C4).heap.size = w2.heap.size + 2 := by simp
        have hE4 : Ext w2 ((w2.alloc C4).alloc C4) := (Ext.alloc _ _).alloc' _
        have HOW := hid (show OwnK (g + 1) ((w2.alloc C4).alloc C4) (.slice OA ts.length oc) ts from
          ((HO.out.frame (w' := w2) HSZ.out fun b hb1 hb2 => (HK2.out.2 b (by simpa using hb2) (by simp; omega)).trans (Below.heap_setCell _ _ _ _ (show b ≠ g by omega))).frame hE4.size fun b _ hb => hE4.block b hb))
        have HKK := hid (show Kids (gp (beside (g + 1) (.slice OA ts.length oc)) ((w2.alloc C4).alloc C4)) r.t.kids (.slice B r.t.kids.length q) from
          HKD.out.sub (gp_mono hE4.size fun k hk hp => ⟨⟨by have := hp; simp at this; omega, fun e => by have := HO.out.own_lt e; have := hp; simp at this; omega⟩, hE4.block k hk⟩))
        have HBX := hid (show Box ((w2.alloc C4).alloc C4) (w2.heap.size + 1) #[.bool r.t.list, .int .i64 r.t.tok.1, str r.t.tok.2, .slice B r.t.kids.length q] 35 by rw [hC4]; exact Box.at_ _ _ (by simp))
        have HBR := hid (show RBox ((w2.alloc C4).alloc C4) g (.slice A n c) (r.at_ : Int) (r.n : Int) r.e from HB2.out.up hE4)
        have HE4 := hid (show Ext w ((w2.alloc C4).alloc C4) from E2.out.trans hE4)
        have hlen9 : ts.length + 1 ≤ 1000000000 := by omega
        rw [hC4] at HOW HKK HBX HBR HE4
        clear hE4 hsz2 hC4 h0
        go_wp2_with (at_builtin; refine wpList_appK rfl (.tmp 36) (.tmp 38) rfl (v := .slice OA ts.length oc) (ks := ts) (t := r.t) (kv := .slice B r.t.kids.length q) (gL := w2.heap.size + 1) (tL := 35) rfl rfl HOW.out HBX.out HKK.out rfl hlen9 ?base ?_)
        case base => simp; omega
        intro v' w3 hown hbel
        have HBR3 := hid (HBR.out.low hbel (Nat.lt_succ_self g))
        have HE3 := hid (show Ext w w3 from Below.trans (B := w.heap.size) HE4.out (Below.mono hbel (by rw [HG.out]; omega)))
        have HOW3 := hid hown
        have HM1 := measR_box (m := n) HBx.out
        have HM2 := measR_box (m := n) HBR3.out
        clear hown hbel
        go_wp2_with fail
        go_roundw
        case rel =>
          have h1 := HBD.out.2.2.2.2.1 H0.out
          refine ⟨f'', r.at_, r.n, ts ++ [r.t], HBD.out.2.1, by omega, by rw [List.length_append, List.length_singleton]; omega, ?_, HOW3.out, HE3.out, HRC.out⟩
          have := HBR3.out
          rw [H0.out] at this
          exact this
        case measure =>
          have h1 := HBD.out.2.2.2.2.1 H0.out
          have h2 := HBD.out.2.1
          rw [HM1, HM2, H0.out, if_pos rfl, if_pos rfl]
          omega
      · have b3' := HB2.out.k 3
        have hq : (r.e != 0) = true := by simpa using h0
        have HRC := hid (show R = ([], r.at_, r.e) by rw [HRB.out, if_pos (by simpa using h0)])
        clear h0
        go_wp2_with fail
        go_region
        go_wp2_with fail
        go_ret3
        rw [HRC.out]
        exact ⟨_, rfl, Kids.nil _, (E2.out.alloc' _).drew'⟩
    · obtain rfl : at' = n := by omega
      have HRB := hid (show R = (ts, at', 0) by
        rw [HRA.out]
        cases f' with
        | zero => rw [M.rdA]
        | succ f => rw [M.rdA, if_pos (by rw [← HN.out]; exact Nat.le_refl _)])
      go_wp2_with fail
      go_region
      go_wp2_with fail
      go_ret3
      rw [HRB.out]
      exact ⟨_, rfl, (HO.out.kids.sub (gp_sub _ _)).up ((Ext.refl _).drew'), E.out.drew'⟩
end Go.Proofs.Ytceplnfjlncekaa
