/-
  Contracts of package tree: a tree's words.
-/
import Derived.Test.YtceplnfjlncekaaQUCount
import Derived.Test.YtceplnfjlncekaaQTOf
import Derived.Test.YtceplnfjlncekaaQTGhost
namespace Go.Proofs.Ytceplnfjlncekaa
set_option linter.unusedSimpArgs false
set_option linter.unusedVariables false
open Go.RowKit

theorem wpList_appTg {w : World} {ops : Array Oper} {rest : List Oper} {o : Oper} {a : Act} {Q : Exit → Act → World → Prop} (hgd : o.guard = none) (s x : Operand)
 (ho : o.op = .call { callee := .builtin .append, args := #[s, x], argTypes := #[22, 22] })
 (base : Nat) (v : Value) (ts : List M.Tok) (hs : a.eval s = v) (hown : OwnT base w v ts) (g : Nat) (t : M.Tok) (hx : a.eval x = .slice (some ⟨g, 0, none⟩) 1 1)
 (hc0 : w.cell? ⟨g, 0, none⟩ = some (.int .i64 t.1)) (hc1 : w.cell? ⟨g, 1, none⟩ = some (str t.2)) (hlen : ts.length + 1 ≤ 1000000000) (hbase : base ≤ w.heap.size)
 (h : ∀ v' w', OwnT base w' v' (ts ++ [t]) → Below base w w' → w.grownBy w' v.ownBlock → wpList Try.prog ops Q rest (a.put o.dst v') w') : wpList Try.prog ops Q (o :: rest) a w := by
 obtain ⟨i0, hi, hz0, hz1, hz2⟩ := info_parts info_Token
 refine wpList_append_own w hgd s x 22 ho base 33 i0 _ 2 24 Try.underlying22 hi hz0 hz1 hz2 rfl (by decide) v ts.length _ hs hown ⟨g, 0, none⟩ 1 1 [.int .i64 t.1, str t.2] hx rfl ?_ ?_ (by unfold maxLen; omega) (by omega) hbase ?_
 ·intro j u hj
  rcases j with _ | _ | j
  ·simp at hj; subst hj; rw [Addr.add_lit]; exact hc0
  ·simp at hj; subst hj; rw [Addr.add_lit]; exact hc1
  ·simp at hj
 ·intro u hu; simp at hu; rcases hu with rfl | rfl <;> rfl
 ·intro v' w' h1 h2 _
  refine h v' w' ?_ ((Below.refl _ _).grown h2 hbase fun k hk => (World.ownsRow.lt hown k hk).1) h2
  unfold OwnT
  rw [List.length_append, M.cells_app]
  exact h1
theorem Below.gpB {base : Nat} {w w' : World} (h : Below base w w') : Sub (gp (· < base) w) (gp (· < base) w') := gp_mono h.size fun k _ hp => ⟨hp, h.block k hp⟩
theorem OwnT.kids_ne {base : Nat} {w : World} {o : Value} {ts : List M.Tok} (h : OwnT base w o ts) : some w.heap.size ≠ o.ownBlock := fun e => by
 have := (World.ownsRow.lt h _ e.symm).2
 omega
theorem M.wds_list {u : M.T} (h : u.list = true) : M.wds u = (1, []) :: (M.wdss u.kids ++ [(2, [])]) := by
 rw [M.T.eta u, M.wds, h]; rfl
theorem M.wds_leaf {u : M.T} (h : u.list = false) : M.wds u = [u.tok] := by
 rw [M.T.eta u, M.wds, h]; rfl
/-- A list of words of the call's own that a call gives. -/
def GivesOwn (base : Nat) (w : World) (ts : List M.Tok) (e : Ending) (w' : World) : Prop := ∃ v, e = .returned v ∧ OwnT base w' v ts ∧ Below base w w'
set_option maxRecDepth 8000 in
set_option maxHeartbeats 8000000 in
theorem spelt_n : ∀ (N : Nat) {ks : List M.T} {v o : Value} {base : Nat} {ts : List M.Tok} {w : World}, M.cnts ks < N → Kids (gp (· < base) w) ks v → OwnT base w o ts → base ≤ w.heap.size → ts.length + (M.wdss ks).length ≤ 1000000000 →
 Calls Try.prog 37 #[o, v] w (GivesOwn base w (ts ++ M.wdss ks)) := by
 intro N
 induction N with
 | zero => intro ks v o base ts w h; omega
 | succ N ih =>
  intro ks v o base ts w hN hk ho hbase hlen
  obtain ⟨A, c, rfl⟩ := hk.shape
  obtain ⟨hl1, hl2, hl3⟩ := hk.le
  have hl4 : c ≤ 9223372036854775807 := by unfold maxLen at hl3; omega
  obtain ⟨n, hn⟩ : ∃ n, ks.length = n := ⟨_, rfl⟩
  rw [hn] at hk hl2 ⊢
  have HK := hid hk
  have IH := @hid _ @ih
  have HN := hid hn
  have HO := hid ho
  have HB := hid hbase
  have HL := hid hlen
  have HNN := hid hN
  have HLK := hid (show ∀ (k : Nat) (u : M.T), ks[k]? = some u → (M.wdss (ks.take k)).length + (M.wds u).length ≤ (M.wdss ks).length from fun k u hu => by
   have h1 := M.wdss_take hu
   have h2 := congrArg List.length (congrArg M.wdss (List.take_append_drop (k + 1) ks))
   rw [M.wdss_app, List.length_append, h1, List.length_append] at h2
   omega)
  clear hk ih hn hl1 hl3 hN ho hbase hlen
  go_enter Try.func37, Try.ntmps37
  go_wp2_with fail
  go_loopw [0, 9] (fun x i wr => ∃ (k : Nat), i = .int .i64 (k : Int) ∧ k ≤ n ∧ Hid (OwnT base wr x (ts ++ M.wdss (ks.take k)) ∧ Below base w wr)) (fun _ i _ => n - (intOf i).toNat)
  case atStart => exact ⟨0, rfl, Nat.zero_le _, by simpa [M.wdss] using HO.out, Below.refl _ _⟩
  case round =>
   obtain ⟨k, rfl, hk, hR⟩ := hrel
   have E := hid hR.out.2
   have HS := hid hR.out.1
   have HBr := hid (show base ≤ wr.heap.size from Nat.le_trans HB.out E.out.size)
   clear hR
   rcases Nat.lt_or_ge k n with hlt | hge
   ·have hlt' : (k : Int) < (n : Int) := by omega
    obtain ⟨ad, u, B, d, rfl, hu, c0, c1, c2, c3, hv⟩ := (HK.out.sub (Below.gpB E.out)).get hlt
    replace c0 := (gp_cell.1 c0).2
    replace c1 := (gp_cell.1 c1).2
    replace c2 := (gp_cell.1 c2).2
    replace c3 := (gp_cell.1 c3).2
    have HU := hid hu
    have hlk := HLK.out k u hu
    have hll := HL.out
    obtain ⟨b, hb⟩ : ∃ b, u.list = b := ⟨_, rfl⟩
    rw [hb] at c0
    have HU2 := hid hb
    have HLU := hid (show (ts ++ M.wdss (ks.take k)).length + (M.wds u).length ≤ 1000000000 by rw [List.length_append]; omega)
    have HV := hid hv
    clear hu hlk hll hb hv
    cases b
    ·have HW := hid (M.wds_leaf HU2.out)
     go_wp2_with (at_builtin; refine wpList_appTg rfl (.tmp 16) (.tmp 19) rfl base _ _ rfl ((HS.out.alloc _).alloc _) _ u.tok rfl ?c0 ?c1 ?c2 ?c3 ?_)
     case c0 => go_simp
     case c1 => go_simp
     case c2 => have h1 := HLU.out; rw [HW.out] at h1; simpa using h1
     case c3 => have h1 := HBr.out; simp; omega
     intro v' w3 hown hbel hgr
     have HOW := hid hown
     have HE := hid (show Below base w w3 from ((E.out.alloc (Nat.le_trans HBr.out (Nat.le_refl _)) _).alloc (by have h1 := HBr.out; simp; omega) _).trans hbel)
     clear hown hbel hgr
     go_wp2_with fail
     go_roundw
     case rel => exact ⟨k + 1, by simp, by omega, by rw [M.wdss_take HU.out, HW.out]; simpa using HOW.out, HE.out⟩
     case measure => simp [intOf]; omega
    ·have HW := hid (M.wds_list HU2.out)
     have hsz := HBr.out
     go_wp2_with (at_builtin; refine wpList_appTg rfl (.tmp 21) (.tmp 23) rfl base _ _ rfl ((HS.out.alloc _).alloc _) _ (1, []) rfl ?c0 ?c1 ?c2 ?c3 ?_)
     case c2 => have h1 := HLU.out; rw [HW.out] at h1; simp at h1 ⊢; omega
     case c3 => simp; omega
     intro v' w3 hown hbel hgr
     have b3 : w3.cell? ⟨wr.heap.size, 3, none⟩ = some (.slice B u.kids.length d) := hgr.cell (box4 (Ext.alloc (boxed wr true u.tok B u.kids.length d) _)).2.2.2.1 (OwnT.kids_ne HS.out)
     have hE3 : Below base wr w3 := (((Below.refl base wr).alloc HBr.out _).alloc (by simp; omega) _).trans hbel
     have HE := hid (E.out.trans hE3)
     have hkd := HV.out.kids.sub (Below.gpB hE3)
     have hcn : M.cnts u.kids < N := by
      have h1 := M.cnts_take HU.out
      have h2 := M.cnts_take_le ks (k + 1)
      have h3 := HNN.out
      have h4 : M.cnt u = 1 + M.cnts u.kids := by rw [M.T.eta u, M.cnt]; rfl
      omega
     have hln : ((ts ++ M.wdss (ks.take k)) ++ [(1, [])]).length + (M.wdss u.kids).length + 1 ≤ 1000000000 := by
      have h1 := HLU.out
      rw [HW.out] at h1
      simp at h1 ⊢
      omega
     have HLN := hid hln
     have hown' : OwnT base w3 v' ((ts ++ M.wdss (ks.take k)) ++ [(1, [])]) := by simpa using hown
     have hb3 : base ≤ w3.heap.size := Nat.le_trans HBr.out hE3.size
     have HB3 := hid hb3
     have HC := hid (IH.out hcn hkd hown' hb3 (by omega))
     obtain ⟨tq, htq⟩ : ∃ tq, ((ts ++ M.wdss (ks.take k)) ++ [(1, [])]) = tq := ⟨_, rfl⟩
     have HTQ := hid htq
     rw [htq] at HC HLN
     clear hown hown' hbel hgr hE3 hkd hcn hln htq hb3 hsz HV
     go_wp2_with (first | (go_at_call 37; refine HC.out.mono ?_; rintro e w4 ⟨v4, rfl, ho4, hb4⟩; have HO4 := hid ho4; have HE4 := hid hb4; clear ho4 hb4) | (at_builtin; refine wpList_appTg rfl (.tmp 28) (.tmp 30) rfl base _ _ rfl (HO4.out.alloc _) _ (2, []) rfl ?d0 ?d1 ?d2 ?d3 ?_))
     case d2 => have h1 := HLN.out; simp at h1 ⊢; omega
     case d3 => have h1 := HE4.out.size; have h2 := HB3.out; simp; omega
     intro v5 w5 hown hbel hgr
     have HOW := hid hown
     have HE5 := hid (show Below base w w5 from ((HE.out.trans HE4.out).alloc (Nat.le_trans HB3.out HE4.out.size) _).trans hbel)
     clear hown hbel hgr
     go_wp2_with fail
     go_roundw
     case rel => exact ⟨k + 1, by simp, by omega, by rw [M.wdss_take HU.out, HW.out]; have := HOW.out; rw [← HTQ.out] at this; simpa using this, HE5.out⟩
     case measure => simp [intOf]; omega
   ·obtain rfl : k = n := by omega
    go_wp2
    go_ret
    refine ⟨_, rfl, ?_, E.out⟩
    have := HS.out
    rwa [← HN.out, List.take_length] at this
theorem Kids.low {w : World} {ks : List M.T} {v : Value} (h : Kids w ks v) {w' : World} (e : Ext w w') : Kids (gp (· < w.heap.size) w') ks v := h.sub (e.gp_new fun _ hk => hk)
theorem words_t (t : M.T) {v : Value} {w : World} (h : IsT w t v) (hlen : (M.wds t).length ≤ 1000000000) : Calls Try.prog 22 #[v] w (GivesTs w (M.wds t)) := by
 obtain ⟨A, c, rfl, hk⟩ := h
 obtain ⟨n, hn⟩ : ∃ n, t.kids.length = n := ⟨_, rfl⟩
 obtain ⟨l, hl⟩ : ∃ l, t.list = l := ⟨_, rfl⟩
 obtain ⟨tk, htk⟩ : ∃ tk, t.tok = tk := ⟨_, rfl⟩
 have hT : IsT (boxed w l tk A n c) t (tv l tk A n c) := by
  rw [← hn, ← hl, ← htk]
  exact ⟨A, c, rfl, hk.up (Ext.alloc w _)⟩
 have hK : Kids (boxed (boxed w l tk A n c) l tk A n c) [t] (.slice (some ⟨w.heap.size + 1, 0, none⟩) 1 1) := by
  have := kids_one hT
  rwa [show (boxed w l tk A n c).heap.size = w.heap.size + 1 by simp] at this
 have hsz : (boxed (boxed w l tk A n c) l tk A n c).heap.size = w.heap.size + 2 := by simp
 have H := hid (show Calls Try.prog 37 #[.slice none 0 0, .slice (some ⟨w.heap.size + 1, 0, none⟩) 1 1] (boxed (boxed w l tk A n c) l tk A n c) (GivesOwn (w.heap.size + 2) (boxed (boxed w l tk A n c) l tk A n c) (M.wds t)) by
  have hk2 := hK.low (Ext.refl _)
  have := spelt_n (M.cnts [t] + 1) (base := w.heap.size + 2) (ts := []) (Nat.lt_succ_self _) (by rw [hsz] at hk2; exact hk2) (OwnT.nil _ _) (by rw [hsz]; exact Nat.le_refl _) (by simpa [M.wdss] using hlen)
  simpa [M.wdss] using this)
 rw [hn, hl, htk]
 clear hk hT hn hl htk hK hsz
 go_enter Try.func22, Try.ntmps22
 go_wp2_with fail
 refine H.out.mono ?_
 rintro e w' ⟨v', rfl, ho, hb⟩
 have HO := hid ho
 have E := hid (show Ext w w' from (((Ext.alloc w _).alloc' _).trans (show Ext (boxed (boxed w l tk A n c) l tk A n c) w' from by unfold Ext; simpa using hb)))
 clear ho hb
 go_wp2
 go_ret
 exact ⟨_, rfl, HO.out.list, E.out⟩
end Go.Proofs.Ytceplnfjlncekaa
